import PyProof.Rows.All
import Wide.All
import OpenK.AllK
import Wide.FinOn
import HandS.ForMost
import HandS.IsInst
import HandS.Walk
import HandS.EndTab
import KE.KExcPX
import KE.KExcInit
import KE.KExcIs
import HandS.ExcInit
import PyProof.ReprLen
import HandS.ForExc
import HandS.ExcField
import HandS.TryMany
import HandS.CallSlots
import KE.KTryMore
import HandS.Strs
import HandS.TupAny
import HandS.TupMul
import HandS.HotCalls
import PyProof.ReprHeadsEmpty
import HandS.Style
import HandS.SetFor
import PyProof.EqKinds
import PyProof.FactsAll.dict_1
import PyProof.FactsAll.subtypes_4
import PyProof.FactsAll.subtypes_3
import PyProof.FactsAll.str_1
import HandS.FStr
import HandS.DictComp
import HandS.SortRule
import HandS.OwnEq
import HandS.ExcOwn
import HandS.Defaults
import HandS.WideBits
import HandS.DeepEq
import HandS.CallLocal
import HandS.WrittenGet
import HandS.RaiseMore
import PyProof.ReprText
import HandS.Lambda
import HandS.Star
import HandS.MakeKwOnly
import KE.KNestM
import KE.KExcLine
import PySem.Challenge.RW_relinktree_k47_errors_of_hosts
set_option Elab.async false
set_option linter.all false
set_option maxRecDepth 100000
set_option maxHeartbeats 4000000
/-! Defs whose promise needs to know that no repr is under way: the layer's def, call and end once more with that premise. -/
namespace Gy
open PySem PySem.Spec PyProof.Rows L2

/-- repr of data at an address -/
theorem repr_dat {X : Cx} (hg : X.A.guards = some []) (hu : X.A.units + 70 < cLine) :
    CallR X (.builtin "repr") (fun xs H Q => ∃ a d, xs = [.ref a] ∧ Dp X.K H (.ref a) d ∧ d.showable = true ∧ d.hasDict = false ∧ d.depth ≤ 60 ∧
      d.shown.length ≤ sizeLine ∧ Q (.str d.shown) H) := by
  intro pins s σ H xs us Q I r h
  obtain ⟨a, d, rfl, hd, h1, h2, h3, h4, q⟩ := h
  obtain ⟨u, rfl, ru⟩ := vals1 r
  obtain ⟨as, rd⟩ := Dp.reads I d _ u hd ru
  cases ru
  refine repr_of_reads' rd h1 (fun z => ?_) hg (by omega) (fun _ _ e => e) (fun h' u tk hk => ?_) h4
  · rw [h2] at z
    cases z
  · exact ⟨.str _, H, I.kept hk, ⟨u, rfl⟩, q⟩

/-- a def's promise, where no repr is under way -/
structure FnG (P : Program) (w : World) (K : PySem.W.Frag) (mg : Str → Option Value) (base : Heap)
    (CX : CXT) (k : Nat) (f : Addr) (fd : FuncData) (ps : List Str) (sp : Sp) : Prop where
  ln : ∀ {vs H Q E}, sp vs H Q E → vs.length = ps.length
  go : ∀ {A outer s H args us vs Q E}, A.guards = some [] → Room k A → Env0 P w K mg base A outer s H →
    BindsTo s fd args (ps.zip us) → Vals vs us → sp vs H Q E → codeAny (model P w) A (.call (.ref f) args) (CR CX outer P w H s Q E) s

section
variable {P : Program} {w : World} {K : PySem.W.Frag} {mg : Str → Option Value} {base : Heap} {CX : CXT} {k : Nat} {f : Addr} {fd : FuncData} {ps N : List Str} {sp : Sp}
theorem FnG.up {j : Nat} (F : FnG P w K mg base CX j f fd ps sp) (h : j ≤ k) : FnG P w K mg base CX k f fd ps sp :=
  ⟨F.ln, fun g hr => F.go g (hr.mono h)⟩
theorem FnG.of (F : FnOk P w K mg base CX k f fd ps sp) : FnG P w K mg base CX k f fd ps sp :=
  ⟨fun h => F.len _ _ _ _ h, fun _ hr e b v h => F.run _ _ _ _ _ _ _ _ _ hr e b v h⟩

theorem fun_g {x qual : Str} {st : Stmt} (F : Fun K x qual st f fd) (S : FnScope N ps (defScope st)) (ln : ∀ {vs H Q E}, sp vs H Q E → vs.length = ps.length)
    (bd : ∀ (cdv : Value) (A : Around) (outer : List Env) (s : Shared) (H : Hp) (vs : List V) (Q : VK) (E : XK), A.guards = some [] →
      Room k (A.deeper (envOfC qual (defScope st) s.heap.objs.size f cdv)) → sp vs H Q E →
      ∃ t, PSs (cxOf CX P w K mg base N qual (defScope st) f cdv A outer s H E) (defBody st) t ∧
        t { nx := fun _ H' => Q .non H', rt := Q } (start N vs) H) :
    FnG P w K mg base CX (k + 1) f fd ps sp := by
  obtain ⟨oc, od, kV, doc, pm, an, cdv, ct, osl, rfl, lk, hcd⟩ := F.ex
  refine ⟨ln, ?_⟩
  intro A outer s H args us vs Q E g hr e0 hb rl hsp
  have stay : ∀ b o, base.get? b = some o → s.heap.get? b = some o := fun b o e => (e0.bs b o e).1
  have kin := e0.mod.kin.keeps stay
  have nol := e0.mod.nolimit.keeps stay
  refine codeAny_call_function hr.depth (kin _ _ lk) rfl S.co S.gen rfl (PySem.W.codeRec_of kin hcd) (hb _ _ _ _ ?_)
  refine wpAny_newFunctionEnv_cells S.kind ?_ ?_
  · rintro ⟨n, v⟩ hy
    refine (S.par n (List.of_mem_zip hy).1).imp id fun q => ⟨q, ?_⟩
    exact PySem.W.cellsFrom_some _ _ _ (.inl q)
  · rintro env rfl s1 x
    refine ⟨nol.keeps x.toInCall.keep, codeAny_func ?_⟩
    obtain ⟨t, ht, hq⟩ := bd cdv A outer s H vs Q E g (hr.deeper _) hsp
    have I := inv_start (CX := CX) (E := E) (outer := outer) S hr.hd e0 (ln hsp) rl x
    refine wpAny_mono (ht.run [] s1 (start N vs) H _ I hq) ?_ (fun _ _ z => z)
    rintro (_ | _ | _ | u) s' z
    all_goals first
      | (obtain ⟨σ', H', J, q⟩ := z
         exact ⟨V.non, H', J.os, J.bare, J.base, J.hok, rfl, q⟩)
      | (obtain ⟨_, _, _, q⟩ := z
         exact q.elim)
      | (obtain ⟨v, σ', H', J, rv, q⟩ := z
         exact ⟨v, H', J.os, J.bare, J.base, J.hok, rv, q⟩)
end
end Gy

namespace Gy
open PySem PySem.Spec PyProof.Rows L2

/-- the readings of the two calls below -/
def tG (sp : Sp) (E : XK) (t : TA) : TE := fun σ H Q => t σ H fun vs H1 => sp vs H1 Q E
def tKw0 (sp : Sp) (gV : List V → List V → List V) (E : XK) (tk : TA) : TE := fun σ H Q => tk σ H fun zs H1 => sp (gV [] zs) H1 Q E
section
variable {X : Cx} {CX : CXT} {k : Nat} {f : Addr} {fd : FuncData} {ps ks : List Str} {sp : Sp} {E : XK} {x : Str} {p pos : Pos} {e : Expr} {es : List Expr} {kws : List Keyword} {t tk : TA}
variable {g : List Value → List Value → List Value} {gV : List V → List V → List V}
/-- f(e, ..) of a def that wants to know of repr -/
theorem pe_callG (F : FnG X.prog X.w X.K X.mg X.base CX k f fd ps sp) (gd : X.A.guards = some []) (hr : Room k X.A) (hg : Gl X x)
    (hm : X.mg x = some (.ref f)) (hk : PySem.W.keepIn X.K (.ref f) = true) (hb : Binds X.K fd ps []) (hx : Passes CX X E) (ha : PA X (e :: es) t)
    (hdb : (x == ("__debug__" : Str)) = false := by decide) (he : starEach (e :: es) X.env = (false, eval e X.env) :: starEach es X.env := by rfl)
    (hpl : (backTo pos (starEach es X.env)).any (·.1) = false := by rfl) :
    PE X (.Call (.Name x p) (e :: es) [] pos) (tG sp E t) := by
  constructor
  intro pins s σ H Q I h
  refine wpAny_Call_Name_kw (ld_glob I hg hm ?_ hdb)
  refine PySem.W.callWith_K (h₀ := X.base) I.ok.mod.kin hk (thn (ha.run pos pins s σ H _ I h) ?_) he hpl
  rintro us s1 ⟨vs, H1, I1, r, q⟩
  refine ⟨I1.kIn, wpAny_call (codeAny_mono (F.go (args := ⟨us, []⟩) gd hr I1.env0 ?_ r q) ?_)⟩
  · have b := hb s1 us I1.kIn (by rw [List.append_nil, ← r.length]; exact F.ln q)
    rwa [List.append_nil] at b
  · rintro (er | (_ | _ | _ | u)) s' z
    · exact hx pins σ H1 s1 er s' I1 z
    · exact z.elim
    · exact z.elim
    · exact z.elim
    · exact I1.after z
/-- f(k = v, ..), nothing by position -/
theorem pe_kw0 (F : FnOk X.prog X.w X.K X.mg X.base CX k f fd ps sp) (hr : Room k X.A) (hg : Gl X x) (hm : X.mg x = some (.ref f))
    (hk : PySem.W.keepIn X.K (.ref f) = true) (hb : KBinds X.K fd ps ks g gV) (hx : Passes CX X E) (hkw : PK X kws tk)
    (hall : (backToKw pos (keywordEach kws X.env)).all (·.1.isSome) = true := by rfl) (hks : (backToKw pos (keywordEach kws X.env)).filterMap (·.1) = ks := by rfl)
    (hdb : (x == ("__debug__" : Str)) = false := by decide)
    (hpl : ((backTo pos (starEach [] X.env)).any (·.1) || (backToKw pos (keywordEach kws X.env)).any (·.1.isNone)) = false := by rfl) :
    PE X (.Call (.Name x p) [] kws pos) (tKw0 sp gV E tk) := by
  constructor
  intro pins s σ H Q I h
  refine wpAny_Call_Name_kw (ld_glob I hg hm ?_ hdb)
  refine PySem.W.callWith_KW0 (h₀ := X.base) I.ok.mod.kin hk hall (thn (hkw.run pos pins s σ H _ I h) ?_) hpl
  rintro ws s2 ⟨zs, H2, I2, rz, q2⟩
  rw [hks]
  exact ⟨I2.kIn, run_fnk (us := []) F hr hb hx I2 .nil rz q2⟩
end

/-- the law's call, its def a FnG -/
theorem end_g {P : Program} {w : World} {K : PySem.W.Frag} {mg mb : Str → Option Value} {CX : CXT} {k : Nat} {fa a : Addr} {fd : FuncData} {x : Str} {sp : Sp}
    {s : Shared} {vs : List Value} {ns : List Int} (kin : K.In s.heap) (hns : s.heap.Ns mainGlobals mg) (hb : s.heap.Ns builtinsNs mb)
    (hbb : ∀ x : Str, x ≠ "__name__" → mb x = bootBuiltins x) (nol : s.heap.NoLimit) (hg : s.gens = #[])
    (ha : s.heap.get? a = some { cls := .type "list", data := .seq vs.toArray }) (hi : IntsAre vs ns) (hl : ns.length ≤ sizeLine) (hr : Room k callerA)
    (F : ∀ base : Heap, K.In base → base.Ns mainGlobals mg → FnG P w K mg base CX k fa fd [x] sp)
    (bnd : ∀ (s : Shared) (u : Value), BindsTo s fd ⟨[u], []⟩ [(x, u)])
    (hsp : ∀ H : Hp, Only H → SqL K H a (ns.map V.int) → sp [.ref a] H (fun v _ => v = .bl true) fun _ _ _ => False)
    (hCX : ∀ H e s', CX [] H s (fun _ _ _ => False) e s' → False) :
    codeAny (model P w) callerA (.call (.ref fa) ⟨[.ref a], []⟩)
      (fun r s' => r = .ok (.ret (.bool true)) ∧ OldK s.heap s'.heap ∧ s'.os = s.os ∧ AllBare s'.gens) s := by
  have main : ∀ H : Hp, Only H → SqL K H a (ns.map V.int) → HOk P w H s.heap → (∀ b, H b ≠ none → b = a) → (H a ≠ none → K.lookup a = none) →
      codeAny (model P w) callerA (.call (.ref fa) ⟨[.ref a], []⟩)
        (fun r s' => r = .ok (.ret (.bool true)) ∧ OldK s.heap s'.heap ∧ s'.os = s.os ∧ AllBare s'.gens) s := by
    intro H only seq hok alone notK
    have noD : ∀ {b o es ep}, s.heap.get? b = some o → o.data = .dict es ep → H b = none := by
      intro b o es ep e d
      cases q : H b with
      | none => rfl
      | some u =>
        obtain rfl := alone b (by rw [q]; exact fun z => nomatch z)
        rw [ha] at e
        cases e
        exact nomatch d
    have nsB : ∀ {b m}, s.heap.Ns b m → (hidT s.heap H).Ns b m := by
      rintro b m ⟨o, es, ep, e, d, r⟩
      exact ⟨o, es, ep, hidT_get e (noD e d), d, r⟩
    have kB : K.In (hidT s.heap H) := by
      intro b o e
      refine hidT_get (kin b o e) ?_
      cases q : H b with
      | none => rfl
      | some u =>
        obtain rfl := alone b (by rw [q]; exact fun z => nomatch z)
        rw [notK (by rw [q]; exact fun z => nomatch z)] at e
        cases e
    obtain ⟨mc, l1, l2⟩ := nol
    have e0 : Env0 P w K mg (hidT s.heap H) callerA [] s H := by
      refine ⟨rfl, ⟨kB, nsB hns, ⟨mb, nsB hb, hbb⟩, ⟨mc, nsB l1, l2⟩⟩, fun b o e => of_hidT e, Nat.le_of_eq (hidT_size _ _), trivial, ?_, hok, .of_eq hg⟩
      intro b z
      exact nomatch (show b ∈ ([] : List Addr) from z)
    have run := (F _ kB (nsB hns)).go (A := callerA) (args := ⟨[.ref a], []⟩) (us := [.ref a]) (vs := [V.ref a]) rfl hr e0 (bnd s (.ref a)) (.cons rfl .nil) (hsp H only seq)
    refine codeAny_mono run ?_
    rintro (er | (_ | _ | _ | u)) s' z
    · exact (hCX H er s' z).elim
    · exact z.elim
    · exact z.elim
    · exact z.elim
    · obtain ⟨v, H', os, bare, un, hok', rv, q⟩ := z
      cases (show v = .bl true from q)
      cases (show u = Value.bool true from rv)
      refine ⟨rfl, OldK.of_keep fun b o e => ?_, os, bare⟩
      rcases only b with n | ⟨ob, xs, y⟩
      · exact un.keep b o e n (fun z => nomatch (show b ∈ ([] : List Addr) from z)) (fun z => nomatch z)
      · obtain ⟨e1, _⟩ := hok b _ y
        obtain ⟨e2, _⟩ := hok' b _ (un.frzs b ob _ y)
        rw [e] at e1
        cases e1
        exact e2
  have rv := vals_ints hi
  cases hk : K.lookup a with
  | some o =>
    have e := kin a o hk
    rw [ha] at e
    cases e
    refine main (fun _ => none) (fun _ => .inl rfl) (.inr ⟨_, vs.toArray, _, hk, rfl, rfl, rfl, ?_, rv⟩) (fun b u z => nomatch z) (fun b z => absurd rfl z) (fun z => absurd rfl z)
    rw [List.size_toArray, hi.length]
    exact hl
  | none =>
    let ob : Obj := { cls := .type "list", data := .seq vs.toArray }
    refine main (fun b => if b = a then some (.frz ob (.lst (ns.map V.int))) else none) (fun b => ?_) (.inl (.inr ⟨ob, if_pos rfl⟩)) (fun b u z => ?_) (fun b z => ?_) (fun _ => hk)
    · by_cases q : b = a
      · exact .inr ⟨_, _, if_pos q⟩
      · exact .inl (if_neg q)
    · by_cases q : b = a
      · have y := (if_pos q).symm.trans z
        cases y
        subst q
        exact ⟨ha, by rw [List.length_map]; exact hl, vs, _, rv, ha⟩
      · have y := (if_neg q).symm.trans z
        cases y
    · by_cases q : b = a
      · exact q
      · exact absurd (if_neg q) z

/-- what k_head leaves, from a law that is a FnG -/
theorem walk_g {l : PySem.W.OpenLaw} {n k : Nat} {q : Program} {loose : List Str} {XP : (Str → Option Value) → Heap → Prop} {YP : World → Heap → Prop} {d : DefRec}
    {K : Params → PySem.W.Frag} {sp : PySem.W.Frag → Sp} {x : Str} (hn : l.most = some n) (hn2 : n ≤ sizeLine) (hdf : d.params.defaults = []) (hr : Room k callerA)
    (hY : ∀ (w : World) (h : Heap), YP w h → (K w.params).In h)
    (F : ∀ (w : World) (mg : Str → Option Value) (fa : Addr) (h : Heap), (K w.params).In h → h.Ns mainGlobals mg → mg d.name = some (.ref fa) →
      ∃ fd : FuncData, (∀ (s : Shared) (u : Value), BindsTo s fd ⟨[u], []⟩ [(x, u)]) ∧
        ∀ base : Heap, (K w.params).In base → base.Ns mainGlobals mg → FnG l.prog w (K w.params) mg base CX0 k fa fd [x] (sp (K w.params)))
    (hsp : ∀ (K : PySem.W.Frag) (H : Hp) (a : Addr) (ns : List Int), ns.length ≤ n → SqL K H a (ns.map V.int) → sp K [.ref a] H (fun v _ => v = .bl true) fun _ _ _ => False) :
    PySem.W.WalkO q loose XP YP l.row.toRowW d [] (fun f vs => PySem.call f vs) := by
  refine Att.attach_call hn hdf ?_
  intro w s₀ s₁ mg mb fa o pm cd doc a vs ns G Y ho hd hcd hmg hobj hints hlen hg
  have kin := hY w _ Y
  obtain ⟨fd, hb, hF⟩ := F w mg fa _ kin G.T.g hmg
  exact end_g kin G.T.g G.T.b G.T.builtins G.T.nolimit hg hobj hints (Nat.le_trans hlen hn2) hr hF hb (fun H _ hS => hsp _ H a ns hlen hS) (fun _ _ _ z => z)
end Gy

/-! the end of a law whose defs make lambdas and use repr. -/
namespace Gy
open PySem PySem.Spec PyProof.Rows L2 LamX
/-- what may be known at the start: the script, and empty tables -/
def OnlyT (ts : List Addr) (H : Hp) : Prop := ∀ b, H b = none ∨ b ∈ ts ∨ ∃ o xs, H b = some (.frz o (.lst xs))
theorem end_gT {P : Program} {w : World} {K : PySem.W.Frag} {mg mb : Str → Option Value} {CX : CXT} {k : Nat} {fa a : Addr} {cs : List (Addr × Addr)} {fd : FuncData} {x : Str} {sp : Sp}
    {s : Shared} {vs : List Value} {ns : List Int} (kin : K.In s.heap) (hns : s.heap.Ns mainGlobals mg) (hb : s.heap.Ns builtinsNs mb)
    (hbb : ∀ x : Str, x ≠ "__name__" → mb x = bootBuiltins x) (nol : s.heap.NoLimit) (hg : s.gens = #[])
    (tE : ∀ p ∈ cs, s.heap.get? p.2 = some { cls := .none, data := .fields #[] }) (tK : ∀ p ∈ cs, K.lookup p.2 = none) (cH : ∀ p ∈ cs, PySem.W.CodeHd s.heap p.1 p.2)
    (hbm : ∃ (bm : Addr) (ob : Obj), mg "__builtins__" = some (.ref bm) ∧ bm ≠ builtinsNs ∧ s.heap.get? bm = some ob ∧ ob.cls = .type "module" ∧ ob.dict = some builtinsNs ∧ ob.data = .plain)
    (ha : s.heap.get? a = some { cls := .type "list", data := .seq vs.toArray }) (hi : IntsAre vs ns) (hl : ns.length ≤ sizeLine) (hr : Room k callerA)
    (F : ∀ base : Heap, K.In base → base.Ns mainGlobals mg → (∀ p ∈ cs, TabB base mg p.1 p.2) → FnG P w K mg base CX k fa fd [x] sp)
    (bnd : ∀ (s : Shared) (u : Value), BindsTo s fd ⟨[u], []⟩ [(x, u)])
    (hsp : ∀ H : Hp, (∀ p ∈ cs, H p.2 = some (.tbl #[])) → SqL K H a (ns.map V.int) → sp [.ref a] H (fun v _ => v = .bl true) fun _ _ _ => False)
    (hCX : ∀ H e s', CX [] H s (fun _ _ _ => False) e s' → False) :
    codeAny (model P w) callerA (.call (.ref fa) ⟨[.ref a], []⟩)
      (fun r s' => r = .ok (.ret (.bool true)) ∧ OldK s.heap s'.heap ∧ s'.os = s.os ∧ AllBare s'.gens) s := by
  obtain ⟨ts, hts⟩ : ∃ ts, ts = cs.map (·.2) := ⟨_, rfl⟩
  have inT : ∀ p ∈ cs, p.2 ∈ ts := fun p hp => by rw [hts]; exact List.mem_map.mpr ⟨p, hp, rfl⟩
  have ofT : ∀ b ∈ ts, ∃ p, p ∈ cs ∧ b = p.2 := fun b hb => by
    rw [hts] at hb
    obtain ⟨p, hp, e⟩ := List.mem_map.mp hb
    exact ⟨p, hp, e.symm⟩
  have noS : ∀ b ∈ ts, b ≠ a := fun b hb z => by
    obtain ⟨p, hp, rfl⟩ := ofT b hb
    have e := tE p hp
    rw [z, ha] at e
    have e2 := congrArg Obj.data (Option.some.inj e)
    exact nomatch e2
  have main : ∀ H : Hp, OnlyT ts H → (∀ p ∈ cs, H p.2 = some (.tbl #[])) → SqL K H a (ns.map V.int) → HOk P w H s.heap → (∀ b, H b ≠ none → b = a ∨ b ∈ ts) → (H a ≠ none → K.lookup a = none) →
      codeAny (model P w) callerA (.call (.ref fa) ⟨[.ref a], []⟩)
        (fun r s' => r = .ok (.ret (.bool true)) ∧ OldK s.heap s'.heap ∧ s'.os = s.os ∧ AllBare s'.gens) s := by
    intro H only empt seq hok alone notK
    -- what is neither the script nor an empty table stands in the base
    have far : ∀ {b : Addr} {o : Obj}, s.heap.get? b = some o → (∀ xs m, o.data ≠ .seq xs m) → o.data ≠ .fields #[] → H b = none := by
      intro b o e n1 n2
      cases q : H b with
      | none => rfl
      | some u =>
        rcases alone b (by rw [q]; exact fun z => nomatch z) with rfl | hb
        · rw [ha] at e
          cases e
          exact absurd rfl (n1 _ _)
        · obtain ⟨p, hp, rfl⟩ := ofT b hb
          rw [tE p hp] at e
          cases e
          exact absurd rfl n2
    have nsB : ∀ {b m}, s.heap.Ns b m → (hidT s.heap H).Ns b m := by
      rintro b m ⟨o, es, ep, e, d, r⟩
      refine ⟨o, es, ep, hidT_get e (far e ?_ ?_), d, r⟩ <;> simp [d]
    have kB : K.In (hidT s.heap H) := by
      intro b o e
      refine hidT_get (kin b o e) ?_
      cases q : H b with
      | none => rfl
      | some u =>
        have nn : H b ≠ none := by rw [q]; exact fun z => nomatch z
        rcases alone b nn with rfl | hb
        · rw [notK nn] at e
          cases e
        · obtain ⟨p, hp, rfl⟩ := ofT b hb
          rw [tK p hp] at e
          cases e
    have isB : ∀ p ∈ cs, TabB (hidT s.heap H) mg p.1 p.2 := by
      intro p hp
      have e0 := tE p hp
      refine ⟨?_, ?_, ?_⟩
      · obtain ⟨o, us, x1, x2, x3, x4, x5, x6, x7, e1, r1, r2, r3, rest⟩ := cH p hp
        refine ⟨o, us, x1, x2, x3, x4, x5, x6, x7, hidT_get e1 (far e1 ?_ ?_), r1, r2, r3, rest⟩
        · simp [r2]
        · rw [r2]
          rintro z
          injection z with z
          rw [z] at r3
          exact nomatch r3
      · obtain ⟨bm, ob, y1, y2, y3, y4, y5, y6⟩ := hbm
        refine ⟨bm, ob, y1, y2, ?_, ?_, hidT_get y3 (far y3 ?_ ?_), y4, y5, y6⟩
        · rintro rfl
          obtain ⟨o, es, ep, e, d, _⟩ := hns
          rw [y3] at e
          cases e
          rw [y6] at d
          exact nomatch d
        · rintro rfl
          rw [y3] at e0
          cases e0
          exact nomatch y6
        · simp [y6]
        · simp [y6]
      · rintro z
        obtain ⟨o, es, ep, e, d, _⟩ := hns
        rw [z, e0] at e
        cases e
        exact nomatch d
    obtain ⟨mc, l1, l2⟩ := nol
    have e0 : Env0 P w K mg (hidT s.heap H) callerA [] s H := by
      refine ⟨rfl, ⟨kB, nsB hns, ⟨mb, nsB hb, hbb⟩, ⟨mc, nsB l1, l2⟩⟩, fun b o e => of_hidT e, Nat.le_of_eq (hidT_size _ _), trivial, ?_, hok, .of_eq hg⟩
      intro b z
      exact nomatch (show b ∈ ([] : List Addr) from z)
    have run := (F _ kB (nsB hns) isB).go (A := callerA) (args := ⟨[.ref a], []⟩) (us := [.ref a]) (vs := [V.ref a]) rfl hr e0 (bnd s (.ref a)) (.cons rfl .nil) (hsp H empt seq)
    refine codeAny_mono run ?_
    rintro (er | (_ | _ | _ | u)) s' z
    · exact (hCX H er s' z).elim
    · exact z.elim
    · exact z.elim
    · exact z.elim
    · obtain ⟨v, H', os, bare, un, hok', rv, q⟩ := z
      cases (show v = .bl true from q)
      cases (show u = Value.bool true from rv)
      have stay : ∀ b o, b ∉ ts → s.heap.get? b = some o → s'.heap.get? b = some o := by
        intro b o nb e
        rcases only b with n | m | ⟨ob, xs, y⟩
        · exact un.keep b o e n (fun z => nomatch (show b ∈ ([] : List Addr) from z)) (fun z => nomatch z)
        · exact absurd m nb
        · obtain ⟨e1, _⟩ := hok b _ y
          obtain ⟨e2, _⟩ := hok' b _ (un.frzs b ob _ y)
          rw [e] at e1
          cases e1
          exact e2
      have more : ∀ p ∈ cs, ∃ us : Array Value, s'.heap.get? p.2 = some { cls := .none, data := .fields us } := by
        intro p hp
        obtain ⟨us, y⟩ := un.tbls p.2 #[] (empt p hp)
        exact ⟨_, hok' p.2 _ y⟩
      refine ⟨rfl, ⟨?_, ?_⟩, os, bare⟩
      · intro b o e
        by_cases nb : b ∈ ts
        · obtain ⟨p, hp, rfl⟩ := ofT b nb
          obtain ⟨us, y⟩ := more p hp
          rw [tE p hp] at e
          cases e
          refine .inr (.inl ⟨((cH p hp).tab (tE p hp)).isCodeTable, rfl, #[], us, rfl, ?_⟩)
          rw [Array.empty_append]
          exact y
        · exact .inl (stay b o nb e)
      · intro b o e
        by_cases nb : b ∈ ts
        · obtain ⟨p, hp, rfl⟩ := ofT b nb
          obtain ⟨us, y⟩ := more p hp
          exact ⟨_, y⟩
        · exact ⟨o, stay b o nb e⟩
  have rv := vals_ints hi
  have emp : ∀ p ∈ cs, (if p.2 ∈ ts then some (HO.tbl #[]) else none) = some (HO.tbl #[]) := fun p hp => if_pos (inT p hp)
  cases hk : K.lookup a with
  | some o =>
    have e := kin a o hk
    rw [ha] at e
    cases e
    refine main (fun b => if b ∈ ts then some (.tbl #[]) else none) (fun b => ?_) emp (.inr ⟨_, vs.toArray, _, hk, rfl, rfl, rfl, ?_, rv⟩) (fun b u z => ?_) (fun b z => ?_) (fun z => absurd (if_neg fun y => noS a y rfl) z)
    · by_cases m : b ∈ ts
      · exact .inr (.inl m)
      · exact .inl (if_neg m)
    · rw [List.size_toArray, hi.length]
      exact hl
    · by_cases m : b ∈ ts
      · have y := (if_pos m).symm.trans z
        cases y
        obtain ⟨p, hp, rfl⟩ := ofT b m
        exact tE p hp
      · have y := (if_neg m).symm.trans z
        cases y
    · by_cases m : b ∈ ts
      · exact .inr m
      · exact absurd (if_neg m) z
  | none =>
    let ob : Obj := { cls := .type "list", data := .seq vs.toArray }
    have at1 : ∀ {b}, b = a → (if b = a then some (HO.frz ob (.lst (ns.map V.int))) else if b ∈ ts then some (.tbl #[]) else none) = some (.frz ob (.lst (ns.map V.int))) := fun q => if_pos q
    have at2 : ∀ {b}, b ≠ a → b ∈ ts → (if b = a then some (HO.frz ob (.lst (ns.map V.int))) else if b ∈ ts then some (.tbl #[]) else none) = some (.tbl #[]) := fun q m => (if_neg q).trans (if_pos m)
    have at3 : ∀ {b}, b ≠ a → b ∉ ts → (if b = a then some (HO.frz ob (.lst (ns.map V.int))) else if b ∈ ts then some (.tbl #[]) else none) = none := fun q m => (if_neg q).trans (if_neg m)
    refine main (fun b => if b = a then some (.frz ob (.lst (ns.map V.int))) else if b ∈ ts then some (.tbl #[]) else none) (fun b => ?_) (fun p hp => at2 (noS _ (inT p hp)) (inT p hp)) (.inl (.inr ⟨ob, at1 rfl⟩)) (fun b u z => ?_) (fun b z => ?_) (fun _ => hk)
    · by_cases q : b = a
      · exact .inr (.inr ⟨_, _, at1 q⟩)
      · by_cases m : b ∈ ts
        · exact .inr (.inl m)
        · exact .inl (at3 q m)
    · by_cases q : b = a
      · have y := (at1 q).symm.trans z
        cases y
        subst q
        exact ⟨ha, by rw [List.length_map]; exact hl, vs, _, rv, ha⟩
      · by_cases m : b ∈ ts
        · have y := (at2 q m).symm.trans z
          cases y
          obtain ⟨p, hp, rfl⟩ := ofT b m
          exact tE p hp
        · have y := (at3 q m).symm.trans z
          cases y
    · by_cases q : b = a
      · exact .inl q
      · by_cases m : b ∈ ts
        · exact .inr m
        · exact absurd (at3 q m) z
/-- the law's promise at the head's heap h, the law a FnG -/
def LawG (l : PySem.W.OpenLaw) (w : World) (K : PySem.W.Frag) (k n : Nat) (x : Str) (mg : Str → Option Value) (fa : Addr) (h : Heap) : Prop :=
  ∃ (fd : FuncData) (cs : List (Addr × Addr)) (sp : Sp), (∀ p ∈ cs, h.get? p.2 = some { cls := .none, data := .fields #[] }) ∧ (∀ p ∈ cs, K.lookup p.2 = none) ∧ (∀ p ∈ cs, PySem.W.CodeHd h p.1 p.2) ∧
    (∀ (s : Shared) (u : Value), BindsTo s fd ⟨[u], []⟩ [(x, u)]) ∧ (∀ (H : Hp) (a : Addr) (ns : List Int), ns.length ≤ n → (∀ p ∈ cs, H p.2 = some (.tbl #[])) → SqL K H a (ns.map V.int) → sp [.ref a] H (fun v _ => v = .bl true) fun _ _ _ => False) ∧
    ∀ base : Heap, K.In base → base.Ns mainGlobals mg → (∀ p ∈ cs, TabB base mg p.1 p.2) → FnG l.prog w K mg base CX0 k fa fd [x] sp
theorem walk_gT {l : PySem.W.OpenLaw} {n k : Nat} {q : Program} {loose : List Str} {XP : (Str → Option Value) → Heap → Prop} {YP : World → Heap → Prop} {d : DefRec} {K : Params → PySem.W.Frag} {x : Str}
    (hn : l.most = some n) (hn2 : n ≤ sizeLine) (hdf : d.params.defaults = []) (hr : Room k callerA) (hY : ∀ (w : World) (h : Heap), YP w h → (K w.params).In h)
    (F : ∀ (w : World) (mg : Str → Option Value) (fa : Addr) (h : Heap), YP w h → (K w.params).In h → h.Ns mainGlobals mg → mg d.name = some (.ref fa) → LawG l w (K w.params) k n x mg fa h) :
    PySem.W.WalkO q loose XP YP l.row.toRowW d [] (fun f vs => PySem.call f vs) := by
  refine Att.attach_callB hn hdf ?_
  intro w s₀ s₁ mg mb fa o pm cd doc a vs ns G Y ho hd hcd hmg hobj hints hlen hbits hg
  have kin := hY w _ Y
  obtain ⟨fd, cs, sp, e1, e2, e3, bnd, ask, prm⟩ := F w mg fa _ Y kin G.T.g hmg
  exact end_gT kin G.T.g G.T.b G.T.builtins G.T.nolimit hg e1 e2 e3 G.T.bmain hobj hints (Nat.le_trans hlen hn2) hr prm bnd (fun H he hS => ask H a ns hlen he hS) (fun _ _ _ z => z)
end Gy

/-! An own exception class called with keywords: BaseException.__new__ takes them and forgets them, the own __init__ gets them. -/
namespace PySem
namespace Xg
open Builtin Builtin.ObjectAttr
section
variable {M : Model} {A : Around} {E : Value → Shared → Prop} {h : Heap} {g : Array GenState} {d : Drawn} {t : Nat} {os : OsState}
variable {nm q : Str} {C N : Addr} {bs bm bmB : List Value} {hdct : Bool} {sn : List Str} {sub : List Value} {ab : Bool} {col : Option Bool} {dd : Option Addr} {k0 k1 k2 k3 k5 : Option Value} {B newId initId : String}
theorem kw_check (F : ExcBaseFacts B newId initId bmB) (hT : ∀ X : String, bm.contains (.type X) = bmB.contains (.type X)) {us : List Value} {kw : List (Str × Value)} {Q : Unit → Shared → Prop}
    (cl : h.get? C = some (excClassObj nm q C N bs bm hdct sn sub ab col dd k0 k1 k2 k3 k5 newId)) (z : Q () ⟨h, g, d, t, os⟩) :
    wpAny M A (checkBuiltinCall newId ⟨.ref C :: us, kw⟩) Q E ⟨h, g, d, t, os⟩ := by
  have has : (Value.ref C :: bm).contains (.type B) = true := by
    rw [List.contains_cons, hT, F.hasB, Bool.or_true]
  have star := F.noStar
  simp only [checkBuiltinCall, F.newKind, F.newSplit, F.newRow]
  repeat (first
    | refine wpAny_loadPart_at cl ?_
    | (refine wpAny_isSubtype_exc cl ?_; rw [has])
    | refine wpAny_staticBase_exc cl ?_
    | refine wpAny_madeBy_exc cl ?_
    | simp only [bne_self_eq_false, Bool.false_eq_true, if_false]
    | wp_step)
  exact z
end
section
variable {prog : Program} {w : World} {A : Around} {E : Value → Shared → Prop} {R : Result → Shared → Prop} {h : Heap} {g : Array GenState} {d : Drawn} {t : Nat} {os : OsState}
variable {nm q : Str} {C N : Addr} {bs bm bmB : List Value} {hdct : Bool} {sn : List Str} {sub : List Value} {ab : Bool} {col : Option Bool} {dd : Option Addr} {k0 k1 k2 k3 k5 : Option Value} {B newId initId : String}
theorem kw_new (F : ExcBaseFacts B newId initId bmB) (hT : ∀ X : String, bm.contains (.type X) = bmB.contains (.type X)) {us : List Value} {kw : List (Str × Value)}
    (cl : h.get? C = some (excClassObj nm q C N bs bm hdct sn sub ab col dd k0 k1 k2 k3 k5 newId))
    (z : R (.ok (.ret (.ref (h.objs.size + 1)))) ⟨(h.push (W.kdv_tup us)).push (PX.excO C h.objs.size), g, d, t, os⟩) (len : us.length ≤ sizeLine) :
    codeAny (model prog w) A (.builtin newId ⟨.ref C :: us, kw⟩) R ⟨h, g, d, t, os⟩ := by
  have ends := F.ends
  have hB : (Value.ref C :: bm).contains (.type B) = true := by
    rw [List.contains_cons, hT, F.hasB, Bool.or_true]
  have hA : (Value.ref C :: bm).contains (.type "AttributeError") = false := by
    rw [List.contains_cons, hT, F.noAttr]
    rfl
  have hN : (Value.ref C :: bm).contains (.type "NameError") = false := by
    rw [List.contains_cons, hT, F.noName]
    rfl
  refine codeAny_builtinAt F.entry ?_
  unfold Builtin.«BaseException.__new__»
  refine wpAt_bind ?_
  show wpAt _ _ _ (stack >>= _) _ _ _
  refine wpAt_bind (wpAt_stack fun p below => wpAt_of_wpAny ?_)
  wp_walk
  refine wpAt_of_wpAny ?_
  rw [F.owner]
  repeat (first
    | with_reducible refine wpAny_madeHere_exc F.canon cl ?_
    | with_reducible refine wpAny_loadPart_at cl ?_
    | (with_reducible refine wpAny_isSubtype_exc cl ?_; first | rw [hB] | rw [hA] | rw [hN])
    | wp_step)
  show R _ _
  rw [Heap.size_push]
  exact z
theorem kw_type (F : ExcBaseFacts B newId initId bmB) (hT : ∀ X : String, bm.contains (.type X) = bmB.contains (.type X)) {us : List Value} {kw : List (Str × Value)} {fI : Addr} {Q : Fin → Shared → Prop}
    (cl : h.get? C = some (excClassObj nm q C N bs bm hdct sn sub ab col dd k0 k1 k2 k3 k5 newId))
    (hi : W.Looks (model prog w) h (typeLookup (.ref C) "__init__") (some (.ref fI))) (hb : ∀ self, W.Looks (model prog w) h (bindSpecial (.ref fI) self) (.ref fI, [self]))
    (len : us.length ≤ sizeLine)
    (z : codeAny (model prog w) A (.call (.ref fI) ⟨.ref (h.objs.size + 1) :: us, kw⟩)
      (fun r s' => match r with | .ok (.ret v) => v = .none ∧ Q (.done (.ret (.ref (h.objs.size + 1)))) s' | .ok _ => False | .error e => E e s')
      ⟨(h.push (W.kdv_tup us)).push (PX.excO C h.objs.size), g, d, t, os⟩) :
    wpAny (model prog w) A (Builtin.«type.__call__» ⟨.ref C :: us, kw⟩) Q E ⟨h, g, d, t, os⟩ := by
  repeat (first
    | with_reducible refine wpAny_loadPart_at cl ?_
    | with_reducible refine wpAny_madeBy_exc cl ?_
    | wp_step)
  refine codeAny_call_builtin_code (Code.quiet_builtin _ F.quiet) (kw_check F hT cl ?_)
  refine kw_new F hT cl ?_ len
  show wpAny _ _ _ _ _ _
  have keep : ∀ b o, h.get? b = some o → ((h.push (W.kdv_tup us)).push (PX.excO C h.objs.size)).get? b = some o := fun b o e =>
    Heap.get?_push_of_some _ (Heap.get?_push_of_some _ e)
  have cl1 := keep _ _ cl
  have new : ((h.push (W.kdv_tup us)).push (PX.excO C h.objs.size)).get? (h.objs.size + 1) = some (PX.excO C h.objs.size) := by heap_get
  have self : (Value.ref C :: bm).contains (.ref C) = true := by simp
  have i1 := hi.keeps keep
  have b1 := (hb (.ref (h.objs.size + 1))).keeps keep
  unfold isInstance
  repeat (first
    | with_reducible refine wpAny_loadPart_at new ?_
    | (with_reducible refine wpAny_isSubtype_exc cl1 ?_; rw [self])
    | wp_step)
  show wpAny _ _ (typeLookup (.ref C) _) _ _ _
  refine i1.at ?_
  refine wpAny_holding (wpAny_bind (b1.at ?_))
  refine wpAny_bind (wpAny_call (codeAny_mono z fun r s' y => ?_))
  rcases r with e | (v | _ | _ | _) <;> first | exact y | exact y.elim | skip
  obtain ⟨rfl, y⟩ := y
  first
    | exact wpAny_pure (wpAny_pure y)
    | (wp_walk; exact y)
theorem kw_call (F : ExcBaseFacts B newId initId bmB) (hT : ∀ X : String, bm.contains (.type X) = bmB.contains (.type X)) {us : List Value} {kw : List (Str × Value)} {fI : Addr}
    (cl : h.get? C = some (excClassObj nm q C N bs bm hdct sn sub ab col dd k0 k1 k2 k3 k5 newId))
    (hi : W.Looks (model prog w) h (typeLookup (.ref C) "__init__") (some (.ref fI))) (hb : ∀ self, W.Looks (model prog w) h (bindSpecial (.ref fI) self) (.ref fI, [self]))
    (len : us.length ≤ sizeLine)
    (z : codeAny (model prog w) (A.under (.builtin "type.__call__" ⟨.ref C :: us, kw⟩)) (.call (.ref fI) ⟨.ref (h.objs.size + 1) :: us, kw⟩) (W.InitBack (h.objs.size + 1) R)
      ⟨(h.push (W.kdv_tup us)).push (PX.excO C h.objs.size), g, d, t, os⟩) :
    codeAny (model prog w) A (.call (.ref C) ⟨us, kw⟩) R ⟨h, g, d, t, os⟩ := by
  have f1 := tc_lookup
  have f2 := tc_bind (.ref C)
  have ty : (⟨h, g, d, t, os⟩ : Shared).TypeIs (.ref C) "type" := ⟨_, cl, rfl⟩
  refine codeAny_of_tree ?_
  show wpAny _ _ (callAny (.ref C) _) _ _ _
  repeat (any_goals (first | assumption | with_reducible refine wpAny_loadPart_at cl ?_ | wp_step))
  refine ⟨rfl, ?_⟩
  refine codeAny_call_builtin_at (Code.quiet_builtin _ (by decide +kernel)) entry_typeCall (wpAny_check_type_call_sub cl (kw_type F hT cl hi hb len ?_))
  refine codeAny_mono z fun r s' y => ?_
  rcases r with e | (v | _ | _ | _) <;> exact y
end
end Xg
end PySem

/-! Own exception classes over any built-in base, made as values: by position, by name; their fields stored and read; isinstance. -/
namespace PySem
namespace Xg
open PySem.W PySem.Calls PyProof.Rows Builtin Builtin.ObjectAttr
section
variable {prog : Program} {w : World} {A : Around} {R : Result → Shared → Prop} {hp : Heap} {g : Array GenState} {d : Drawn} {t : Nat} {os : OsState} {K : Frag} {B : String} {bmB : List Value}
/-- the first field: the dict is made -/
theorem osa_first (SF : StoreFacts B bmB "object.__setattr__" "object") {name : Str} {tk : Tok} {v : Value} {x C t1 : Addr} (kin : K.In hp)
    (at_ : hp.get? x = some (PX.excO C t1)) (ov : excOver K C bmB = true) (no : takerIn K C name = some none) (hh : hasDictIn K C = true)
    (z : ∀ h' tk' dx, (∀ b o, b ≠ x → hp.get? b = some o → h'.get? b = some o) → hp.objs.size ≤ dx → dx ≠ x →
      h'.get? x = some { PX.excO C t1 with dict := some dx } → h'.Ns1 dx (fun y => if y = name then some v else none) → R (.ok (.ret .none)) ⟨h', g, d, tk', os⟩) :
    codeAny (model prog w) A (.call (.builtin "object.__setattr__") ⟨[.ref x, .str name tk, v], []⟩) R ⟨hp, g, d, t, os⟩ := by
  obtain ⟨cd, hc, hd'⟩ := any_some hh
  have lt := Heap.lt_size at_
  refine osa_openX (od := none) (s := ⟨hp, g, d, t, os⟩) SF kin ⟨at_, rfl, rfl, trivial⟩ ov no fun b => ?_
  refine wpAny_bind (wpAny_pure (wpAny_bind (instanceDict_exc (s := ⟨hp, g, d, t, os⟩) (c2 := .none) at_ (looks_clsIn kin hc) hd' ?_)))
  show wpAny _ _ (storeInDict hp.objs.size (.str name tk) name v) _ _ _
  refine HandSPX.store_in_new ?_ fun h' tk' hn hs => ?_
  · exact ⟨_, #[], _, (Heap.get?_update_ne _ _ _ _ (Nat.ne_of_gt lt)).trans (Heap.get?_push_at rfl rfl), rfl, fun e he => absurd he (by simp), fun _ => rfl⟩
  · refine z h' tk' hp.objs.size (fun b o nb e => ?_) (Nat.le_refl _) (Nat.ne_of_gt lt) ?_ hn
    · rw [hs.2 b (Nat.ne_of_lt (Heap.lt_size e)), Heap.get?_update_ne _ _ _ _ nb]
      exact Heap.get?_push_of_some _ e
    · rw [hs.2 x (Nat.ne_of_lt lt)]
      exact Heap.get?_update_self _ (Heap.get?_push_of_some _ at_) rfl
/-- a further field -/
theorem osa_next (SF : StoreFacts B bmB "object.__setattr__" "object") {name : Str} {tk : Tok} {v : Value} {x C t1 dx : Addr} {m0 : Str → Option Value} {nl : List Str} (kin : K.In hp)
    (at_ : hp.get? x = some { PX.excO C t1 with dict := some dx }) (ns : hp.Ns1 dx m0) (wi : Within m0 nl) (few : nl.length ≤ 1000)
    (ov : excOver K C bmB = true) (no : takerIn K C name = some none) (hh : hasDictIn K C = true)
    (z : ∀ h' tk', (∀ b o, b ≠ dx → hp.get? b = some o → h'.get? b = some o) → h'.Ns1 dx (fun y => if y = name then some v else m0 y) → R (.ok (.ret .none)) ⟨h', g, d, tk', os⟩) :
    codeAny (model prog w) A (.call (.builtin "object.__setattr__") ⟨[.ref x, .str name tk, v], []⟩) R ⟨hp, g, d, t, os⟩ := by
  obtain ⟨cd, hc, hd'⟩ := any_some hh
  obtain ⟨oD, _, _, gD, _, _⟩ := ns.count wi
  refine osa_openX (od := some oD) (s := ⟨hp, g, d, t, os⟩) SF kin ⟨at_, rfl, rfl, gD⟩ ov no fun b => ?_
  refine wpAny_bind (wpAny_pure (wpAny_bind (wpAny_bind (wpAny_loadPart at_ (wpAny_bind ((looks_clsIn kin hc).here ?_))))))
  rw [hd']
  refine wpAny_pure (a := some dx) ?_
  exact OEX.store_in_old ns wi few fun h' tk' hn hs => z h' tk' (fun b o nb e => (hs.2 b nb).trans e) hn
end
end Xg
end PySem

namespace Xl
open PySem PySem.Spec PyProof.Rows L2 Gy
/-- what the written part says of an own exception class at C -/
structure XCl (K : PySem.W.Frag) (C : Addr) : Prop where
  base : ∃ B newId initId bmB, ExcBaseFacts B newId initId bmB ∧ StoreFacts B bmB "object.__setattr__" "object" ∧ PySem.W.excInitIn K C bmB newId = true ∧ PySem.W.excOver K C bmB = true
  sa : PySem.W.findIn K (.ref C) "__setattr__" = some (some (.builtin "object.__setattr__"))
  ga : PySem.W.findIn K (.ref C) "__getattribute__" = some (some (.builtin "BaseException.__getattribute__"))
  gg : PySem.W.findIn K (.ref C) "__getattr__" = some none
  ca : PySem.W.findIn K (.ref C) "__class__" = some (some (.builtin "object.__class__"))
  ex : PySem.W.subIn K (.ref C) (.type "BaseException") = some true
  ob : PySem.W.mroIn K C (.type "object") = some true
  hd : PySem.W.hasDictIn K C = true
  kp : PySem.W.keepIn K (.ref C) = true
/-- its __init__ stands at fI -/
structure XIn (K : PySem.W.Frag) (C fI : Addr) : Prop extends XCl K C where
  ini : PySem.W.findIn K (.ref C) "__init__" = some (some (.ref fI))
  tf : PySem.W.typeIn K (.ref fI) = some (.type "function")
section
variable {X : Cx} {pins : List (Addr × Obj)} {σ : L2.St} {H : Hp} {s : Shared} {a C dx : Addr} {f : Str} {y : V} {u : Value} {fs : List (Str × V)} {Q : Unit → Shared → Prop} {E : Value → Shared → Prop} {A : Around}
theorem set_new (T : XCl X.K C) (I : Inv X pins σ H s) (e : H a = some (exo a C none)) (no : PySem.W.findIn X.K (.ref C) f = some none) (ry : RelV y u)
    (z : ∀ dx s', H dx = none → dx ≠ a → Inv X pins σ (upd (upd H dx (exd dx [(f, y)])) a (exo a C (some dx))) s' → Q () s') :
    wpAny (model X.prog X.w) A (setAttr (.ref a) f u) Q E s := by
  obtain ⟨B, nI, iI, bmB, _, SF, _, ov⟩ := T.base
  obtain ⟨t1, at_⟩ := exo_at I.hok e
  obtain ⟨hp, g, d, t, os⟩ := s
  have tk : PySem.W.takerIn X.K C f = some none := by
    unfold PySem.W.takerIn
    rw [no]
    rfl
  refine PySem.W.set_plain I.kIn (od := none) ⟨at_, rfl, rfl, trivial⟩ T.sa ?_
  refine PySem.Xg.osa_first SF I.kIn at_ ov tk T.hd ?_
  intro h' tk' dx keep big ne atX ns
  have free : H dx = none := I.hok.fresh big
  have old : ∀ {b o}, hp.get? b = some o → b ≠ dx := fun q => Nat.ne_of_lt (Nat.lt_of_lt_of_le (Heap.lt_size q) big)
  have noA : ∀ {b}, H b = none → b ≠ a := fun {b} n y => by
    rw [y, e] at n
    cases n
  have other : ∀ {b o}, H b = some o → o ≠ exo a C none → upd (upd H dx (exd dx [(f, y)])) a (exo a C (some dx)) b = some o := by
    intro b o q ne'
    have nb : b ≠ a := fun y => by
      rw [y, e] at q
      exact ne' (Option.some.inj q).symm
    rw [upd_ne nb, upd_ne (ne_of_none q free)]
    exact q
  have U : Un X.fs [] H (upd (upd H dx (exd dx [(f, y)])) a (exo a C (some dx))) hp h' := by
    refine ⟨fun b o q n _ _ => keep b o (noA n) q, fun b o q n _ _ => ⟨o.slots, keep b o (noA n) q⟩, fun b o q n _ => ?_, fun b o q _ => ?_, fun b xs q => ?_, fun b o v q => ?_, fun b ps q => ⟨#[], ?_⟩⟩
    · rw [upd_ne (noA n), upd_ne (old q)]
      exact n
    · by_cases nb : b = a
      · exact ⟨_, by rw [nb]; exact atX⟩
      · exact ⟨o, keep b o nb q⟩
    · exact other q (fun y => exo_tup y.symm)
    · exact other q (fun y => exo_frz y.symm)
    · rw [other q (fun y => exo_tbl y.symm)]
      simp
  refine z dx _ free ne (I.un (t' := tk') U ?_)
  intro b o q
  by_cases nb : b = a
  · subst nb
    rw [upd_same] at q
    cases q
    exact exo_ok atX
  · rw [upd_ne nb] at q
    by_cases nd : b = dx
    · subst nd
      rw [upd_same] at q
      cases q
      exact exd_ok ns (relO_put (fs := []) ry fun _ => True.intro)
    · rw [upd_ne nd] at q
      refine (I.hok b o q).stay (fun c v hc y => keep c v ?_ y) (fun c hc => other hc (fun y => exo_own y.symm)) (fun c xs hc => other hc (fun y => exo_tup y.symm))
      rcases hc with hc | hc
      · rw [hc]
        exact nb
      · exact at_ne e hc exo_own
theorem set_more (T : XCl X.K C) (I : Inv X pins σ H s) (e : H a = some (exo a C (some dx))) (ed : H dx = some (exd dx fs)) (few : fs.length ≤ 900) (no : PySem.W.findIn X.K (.ref C) f = some none) (ry : RelV y u)
    (z : ∀ s', Inv X pins σ (upd H dx (exd dx ((f, y) :: fs))) s' → Q () s') : wpAny (model X.prog X.w) A (setAttr (.ref a) f u) Q E s := by
  obtain ⟨B, nI, iI, bmB, _, SF, _, ov⟩ := T.base
  obtain ⟨t1, at_⟩ := exo_at I.hok e
  obtain ⟨mA, ns, rel⟩ := exd_at I.hok ed
  have wi := within_of rel
  obtain ⟨hp, g, d, t, os⟩ := s
  obtain ⟨oD, _, _, gD, _, _⟩ := ns.count wi
  have tk : PySem.W.takerIn X.K C f = some none := by
    unfold PySem.W.takerIn
    rw [no]
    rfl
  refine PySem.W.set_plain I.kIn (od := some oD) ⟨at_, rfl, rfl, gD⟩ T.sa ?_
  refine PySem.Xg.osa_next SF I.kIn at_ ns wi (by rw [List.length_map]; omega) ov tk T.hd ?_
  intro h' tk' keep hn
  have there : ∃ o, h'.get? dx = some o := by
    obtain ⟨o, _, _, q, _⟩ := hn
    exact ⟨o, q⟩
  exact z _ (I.write (t' := tk') (x := dx) (e := dx) (o := exd dx ((f, y) :: fs)) (by rw [ed]; trivial) (.inl rfl) keep there (exd_ok hn (relO_put ry rel)))
end
/-! ### readings and rules -/
/-- self.f = e in such an __init__ -/
def tXs (K : PySem.W.Frag) (f : Str) (to te : TE) : TS := fun D σ H => te σ H fun y H1 => to σ H1 fun x H2 => ∃ a C : Addr, x = .ref a ∧ XCl K C ∧ PySem.W.findIn K (.ref C) f = some none ∧
  ((H2 a = some (exo a C none) ∧ ∀ dx, H2 dx = none → dx ≠ a → D.nx σ (upd (upd H2 dx (exd dx [(f, y)])) a (exo a C (some dx)))) ∨
    ∃ (dx : Addr) (fs : List (Str × V)), H2 a = some (exo a C (some dx)) ∧ H2 dx = some (exd dx fs) ∧ fs.length ≤ 900 ∧ D.nx σ (upd H2 dx (exd dx ((f, y) :: fs))))
/-- C(..): the object made, then __init__ -/
def tXm (C : Addr) (sp : Sp) (gV : List V → List V → List V) (t tk : TA) : TE := fun σ H Q => t σ H fun vs H0 => tk σ H0 fun zs H1 => vs.length ≤ 1000 ∧ ∀ a, H1 a = none →
  sp (.ref a :: gV vs zs) (upd H1 a (exo a C none)) (fun v H2 => v = .non ∧ Q (.ref a) H2) (fun _ _ _ => False)
section
variable {X : Cx} {o e : Expr} {es : List Expr} {kws : List Keyword} {to te : TE} {t tk : TA} {f : Str} {p p' pos : Pos}
theorem ps_xs (ho : PE X o to) (he : PE X e te) (hs : swapsWith e (some (.Attribute o f p')) pos.line X.env = pure false := by rfl) : PS X (.Assign [.Attribute o f p'] e pos) (tXs X.K f to te) := by
  constructor
  intro pins s σ H D I h
  refine plainObj_wpAny_Assign_Attribute (thn (he.run pins s σ H _ I h) ?_) hs
  rintro v s1 ⟨y, H1, I1, r1, q1⟩
  refine thn (ho.run pins s1 σ H1 _ I1 q1) ?_
  rintro u s2 ⟨x, H2, I2, r2, a, C, rfl, T, no, q⟩
  cases r2
  rcases q with ⟨ea, q⟩ | ⟨dx, fs, ea, ed, few, q⟩
  · exact set_new T I2 ea no r1 fun dx s' n ne J => ⟨σ, _, J, q dx n ne⟩
  · exact set_more T I2 ea ed few no r1 fun s' J => ⟨σ, _, J, q⟩
/-- how positional values and keywords come to __init__'s parameters -/
structure XB (K : PySem.W.Frag) (fd : FuncData) (ps ks : List Str) (g : List Value → List Value → List Value) (gV : List V → List V → List V) : Prop where
  to : ∀ (s : Shared) (b : Value) (us ws : List Value), K.In s.heap → (b :: g us ws).length = ps.length → BindsTo s fd ⟨b :: us, ks.zip ws⟩ (ps.zip (b :: g us ws))
  rel : ∀ {vs : List V} {us : List Value} {zs : List V} {ws : List Value}, Vals vs us → Vals zs ws → Vals (gV vs zs) (g us ws)
variable {CX : CXT} {C fI : Addr} {k : Nat} {fd : FuncData} {ps ks : List Str} {sp : Sp} {g : List Value → List Value → List Value} {gV : List V → List V → List V} {x : Str}
theorem run_x {pins : List (Addr × Obj)} {σ : L2.St} {H : Hp} {s : Shared} {Q : VK} {us ws : List Value} {vs zs : List V} (T : XIn X.K C fI) (F : FnOk X.prog X.w X.K X.mg X.base CX k fI fd ps sp) (hr : Room (k + 1) X.A)
    (hb : XB X.K fd ps ks g gV) (hx : Passes CX X (fun _ _ _ => False)) (I : Inv X pins σ H s) (r : Vals vs us) (rz : Vals zs ws) (len : vs.length ≤ 1000)
    (h : ∀ a, H a = none → sp (.ref a :: gV vs zs) (upd H a (exo a C none)) (fun v H2 => v = .non ∧ Q (.ref a) H2) (fun _ _ _ => False)) :
    wpAny (model X.prog X.w) X.A (call (.ref C) us (ks.zip ws)) (EP X pins σ Q) X.xe s := by
  obtain ⟨B, nI, iI, bmB, BF, _, ii, _⟩ := T.base
  obtain ⟨nm, N', qn, bs, bm, hdct, sn, sub, ab, col, dd, k0, k1, k2, k3, k5, cl, hT⟩ := PySem.W.excInit_of I.kIn ii
  obtain ⟨hp, g', dr, tk', os⟩ := s
  have big : hp.objs.size ≤ hp.objs.size + 1 := Nat.le_succ _
  have hq := h (hp.objs.size + 1) (I.hok.fresh big)
  have keep : ∀ b o, hp.get? b = some o → ((hp.push (PySem.W.kdv_tup us)).push (PySem.PX.excO C hp.objs.size)).get? b = some o := fun b o e =>
    Heap.get?_push_of_some _ (Heap.get?_push_of_some _ e)
  have new : ((hp.push (PySem.W.kdv_tup us)).push (PySem.PX.excO C hp.objs.size)).get? (hp.objs.size + 1) = some (PySem.PX.excO C hp.objs.size) := by heap_get
  have I2 := I.laid (t' := tk') (a := hp.objs.size + 1) (o := exo (hp.objs.size + 1) C none) keep big (exo_ok new)
  have r2 : Vals (V.ref (hp.objs.size + 1) :: gV vs zs) (Value.ref (hp.objs.size + 1) :: g us ws) := .cons rfl (hb.rel r rz)
  have bl := hb.to ⟨_, g', dr, tk', os⟩ (Value.ref (hp.objs.size + 1)) us ws I2.kIn (by rw [← r2.length]; exact F.len _ _ _ _ hq)
  refine wpAny_call (PySem.Xg.kw_call BF hT cl (PySem.W.looks_findIn I.kIn T.ini) (fun self => PySem.W.bind_fn I.kIn self T.tf) ?_ (codeAny_mono (F.run _ X.stack _ _ _ _ _ _ _ (hr.make C us (ks.zip ws)) (I2.env0.make C us (ks.zip ws)) bl r2 hq) ?_))
  · rw [← r.length, sizeLine_eq]
    omega
  · rintro (er | (_ | _ | _ | u)) s' z
    · exact hx pins σ _ _ er s' I2 z
    · exact z.elim
    · exact z.elim
    · exact z.elim
    · obtain ⟨v, H', I3, rv, ev, q3⟩ := I2.after z
      subst ev
      exact ⟨rv, V.ref (hp.objs.size + 1), H', I3, rfl, q3⟩
theorem pe_xm (T : XIn X.K C fI) (F : FnOk X.prog X.w X.K X.mg X.base CX k fI fd ps sp) (hr : Room (k + 1) X.A) (hg : Gl X x) (hm : X.mg x = some (.ref C)) (hb : XB X.K fd ps [] g gV) (hx : Passes CX X (fun _ _ _ => False))
    (ha : PA X (e :: es) t) (hdb : (x == ("__debug__" : Str)) = false := by decide) (he : starEach (e :: es) X.env = (false, eval e X.env) :: starEach es X.env := by rfl)
    (hpl : (backTo pos (starEach es X.env)).any (·.1) = false := by rfl) : PE X (.Call (.Name x p) (e :: es) [] pos) (tXm C sp gV t tNil) := by
  constructor
  intro pins s σ H Q I h
  refine wpAny_Call_Name_kw (ld_glob I hg hm ?_ hdb)
  refine PySem.W.callWith_K (h₀ := X.base) I.ok.mod.kin T.kp (thn (ha.run pos pins s σ H _ I h) ?_) he hpl
  rintro us s1 ⟨vs, H1, I1, r, q⟩
  obtain ⟨len, q⟩ := q
  exact ⟨I1.kIn, run_x (ks := []) (ws := []) T F hr hb hx I1 r .nil len q⟩
theorem pe_xm0 (T : XIn X.K C fI) (F : FnOk X.prog X.w X.K X.mg X.base CX k fI fd ps sp) (hr : Room (k + 1) X.A) (hg : Gl X x) (hm : X.mg x = some (.ref C)) (hb : XB X.K fd ps [] g gV) (hx : Passes CX X (fun _ _ _ => False))
    (hdb : (x == ("__debug__" : Str)) = false := by decide) : PE X (.Call (.Name x p) [] [] pos) (tXm C sp gV tNil tNil) := by
  constructor
  intro pins s σ H Q I h
  obtain ⟨len, q⟩ := h
  refine wpAny_Call_Name_kw (ld_glob I hg hm ?_ hdb)
  exact PySem.W.callWith_K0 I.kIn T.kp (run_x (us := []) (ks := []) (ws := []) T F hr hb hx I .nil .nil len q)
theorem pe_xk (T : XIn X.K C fI) (F : FnOk X.prog X.w X.K X.mg X.base CX k fI fd ps sp) (hr : Room (k + 1) X.A) (hg : Gl X x) (hm : X.mg x = some (.ref C)) (hb : XB X.K fd ps ks g gV) (hx : Passes CX X (fun _ _ _ => False))
    (hkw : PK X kws tk) (hall : (backToKw pos (keywordEach kws X.env)).all (·.1.isSome) = true := by rfl) (hks : (backToKw pos (keywordEach kws X.env)).filterMap (·.1) = ks := by rfl)
    (hdb : (x == ("__debug__" : Str)) = false := by decide)
    (hpl : ((backTo pos (starEach [] X.env)).any (·.1) || (backToKw pos (keywordEach kws X.env)).any (·.1.isNone)) = false := by rfl) :
    PE X (.Call (.Name x p) [] kws pos) (tXm C sp gV tNil tk) := by
  constructor
  intro pins s σ H Q I h
  refine wpAny_Call_Name_kw (ld_glob I hg hm ?_ hdb)
  refine PySem.W.callWith_KW0 (h₀ := X.base) I.ok.mod.kin T.kp hall (thn (hkw.run pos pins s σ H _ I h) ?_) hpl
  rintro ws s2 ⟨zs, H2, I2, rz, len, q2⟩
  rw [hks]
  exact ⟨I2.kIn, run_x (us := []) T F hr hb hx I2 .nil rz len q2⟩
/-- an exception of the class C stands at a, its fields fs -/
def XAt (K : PySem.W.Frag) (H : Hp) (a C : Addr) (fs : List (Str × V)) : Prop := XCl K C ∧ ((fs = [] ∧ H a = some (exo a C none)) ∨ ∃ d, H a = some (exo a C (some d)) ∧ H d = some (exd d fs))
/-- e.f -/
def tXf1 (K : PySem.W.Frag) (f : Str) (te : TE) : TE := fun σ H Q => te σ H fun x H1 => ∃ (a C : Addr) (fs : List (Str × V)) (v : V), x = .ref a ∧ XAt K H1 a C fs ∧ PySem.W.findIn K (.ref C) f = some none ∧ fs.lookup f = some v ∧ Q v H1
theorem pe_xf1 {n : Str} (he : PE X e te) (hb : attributeBase e n X.env (eval e X.env) = eval e X.env := by rfl) : PE X (.Attribute e n pos) (tXf1 X.K n te) := by
  constructor
  intro pins s σ H Q I h
  refine attr_of hb (thn (he.run pins s σ H _ I h) ?_)
  rintro u s1 ⟨x, H1, I1, rx, a, C, fs, v, rfl, ⟨T, at_⟩, no, l, q⟩
  cases rx
  rcases at_ with ⟨rfl, _⟩ | ⟨d, ea, ed⟩
  · cases l
  · obtain ⟨t1, ga⟩ := exo_at I1.hok ea
    obtain ⟨mA, ns, rel⟩ := exd_at I1.hok ed
    obtain ⟨od, go, hl⟩ := lookIn_ns ns
    obtain ⟨u, hu, ru⟩ := RelO.some_of (v := v) (o := mA n) (by rw [← l]; exact rel n)
    exact PySem.PX.exc_get I1.kIn (od := some od) ⟨ga, rfl, rfl, go⟩ T.ga T.gg T.ex (PySem.W.findObj_own T.hd no rfl (by rw [hl, hu])) (handed_of ru) ⟨v, H1, I1.tok _, ru, q⟩
/-- isinstance(e, c) -/
def rIsX (K : PySem.W.Frag) : List V → Hp → VK → Prop := fun xs H Q => ∃ (a C : Addr) (fs : List (Str × V)) (c : V) (cv : Value) (b : Bool), xs = [.ref a, c] ∧ XAt K H a C fs ∧ ClsV c cv ∧ PySem.W.kitOne K (.ref C) cv = some b ∧ Q (.bl b) H
theorem call_isX (cg : PySem.W.specialIn X.K (.builtin "object.__class__") "__get__" = some (some (.builtin "getset_descriptor.__get__"))) (ct : PySem.W.takesIn X.K (.builtin "object.__class__") = some true) :
    CallR X (.builtin "isinstance") (rIsX X.K) := by
  intro pins s σ H xs us Q I r h
  obtain ⟨a, C, fs, c, cv, b, rfl, ⟨T, at_⟩, hc, e, q⟩ := h
  obtain ⟨u1, u2, rfl, r1, r2⟩ := vals2 r
  cases r1
  have e2 := hc.eq r2
  subst e2
  have cls : (PySem.W.clsIn X.K C).isSome = true := by
    obtain ⟨cd, z, _⟩ := PySem.W.any_some T.hd
    rw [z]
    rfl
  have inst : ∃ ox od, PySem.W.InstAt s.heap a ox C od := by
    rcases at_ with ⟨_, ea⟩ | ⟨d, ea, ed⟩
    · obtain ⟨t1, ga⟩ := exo_at I.hok ea
      exact ⟨_, none, ga, rfl, rfl, trivial⟩
    · obtain ⟨t1, ga⟩ := exo_at I.hok ea
      obtain ⟨mA, ns, rel⟩ := exd_at I.hok ed
      obtain ⟨od, go, hl⟩ := lookIn_ns ns
      exact ⟨_, some od, ga, rfl, rfl, go⟩
  obtain ⟨ox, od, J⟩ := inst
  exact PySem.W.kia_one (PySem.W.kitx_exc cls T.ga T.gg T.ex T.ca cg ct T.ob) I.kIn J e (fun z => nomatch z) fun tk => ⟨.bl b, H, I.tok tk, rfl, q⟩
/-- C(e, ..) of a class without an __init__ of its own -/
def tXb (C : Addr) (t : TA) : TE := fun σ H Q => t σ H fun vs H1 => vs.length ≤ 1000 ∧ ∀ a, H1 a = none → Q (.ref a) (upd H1 a (exo a C none))
theorem pe_xb (T : XCl X.K C) (hi : ∃ B newId initId bmB, ExcBaseFacts B newId initId bmB ∧ PySem.W.excInitIn X.K C bmB newId = true ∧ PySem.W.findIn X.K (.ref C) "__init__" = some (some (.builtin initId)))
    (hg : Gl X x) (hm : X.mg x = some (.ref C)) (ha : PA X (e :: es) t) (hdb : (x == ("__debug__" : Str)) = false := by decide)
    (he : starEach (e :: es) X.env = (false, eval e X.env) :: starEach es X.env := by rfl) (hpl : (backTo pos (starEach es X.env)).any (·.1) = false := by rfl) :
    PE X (.Call (.Name x p) (e :: es) [] pos) (tXb C t) := by
  constructor
  intro pins s σ H Q I h
  obtain ⟨B, nI, iI, bmB, BF, ii, fi⟩ := hi
  refine wpAny_Call_Name_kw (ld_glob I hg hm ?_ hdb)
  refine PySem.W.callWith_K (h₀ := X.base) I.ok.mod.kin T.kp (thn (ha.run pos pins s σ H _ I h) ?_) he hpl
  rintro us s1 ⟨vs, H1, I1, r, len, q⟩
  refine ⟨I1.kIn, ?_⟩
  obtain ⟨nm, N', qn, bs, bm, hdct, sn, sub, ab, col, dd, k0, k1, k2, k3, k5, cl, hT⟩ := PySem.W.excInit_of I1.kIn ii
  have lk := PySem.W.looks_findIn (M := model X.prog X.w) I1.kIn fi
  obtain ⟨hp, g', dr, tk', os⟩ := s1
  show wpAny _ _ (call (.ref C) us) _ _ _
  refine PySem.W.call_B BF hT cl lk (by rw [← r.length, sizeLine_eq]; omega) fun h' keep new _ => ?_
  exact ⟨V.ref (hp.objs.size + 1), _, I1.laid (t' := tk') keep (Nat.le_succ _) (exo_ok new), rfl, q _ (I1.hok.fresh (Nat.le_succ _))⟩
end
end Xl

namespace Gy
open PySem PySem.Spec PyProof.Rows L2
/-- data, or a dict without entries, or one whose only key is the text k and whose value is an int -/
inductive Dz (K : PySem.W.Frag) (H : Hp) : V → PyData → Prop
  | dat {v : V} {d : PyData} (h : Dp K H v d) (n : d.hasDict = false) : Dz K H v d
  | d0 {a : Addr} (h : H a = some (.dK [])) : Dz K H (.ref a) (.dict [])
  | d1 {a : Addr} {k : Str} {i : Int} (h : H a = some (.dK [(Sum.inr k, .int i)])) : Dz K H (.ref a) (.dict [(.str k, .int i)])
theorem Dz.reads {X : Cx} {pins : List (Addr × Obj)} {σ : L2.St} {H : Hp} {s : Shared} (I : Inv X pins σ H s) {v : V} {d : PyData} {u : Value} (h : Dz X.K H v d) (r : RelV v u) :
    ∃ as, Reads s.heap u d as ∧ (d.hasDict = true → sysModules ∉ as) := by
  cases h with
  | dat h n =>
    obtain ⟨as, z⟩ := Dp.reads I d v u h r
    exact ⟨as, z, fun q => by rw [n] at q; cases q⟩
  | @d0 a h =>
    cases r
    obtain ⟨_, ns, vs, kv, o, es, ep, g1, ex, g2, ks, ps, _⟩ := (show ObjOk X.prog X.w H s.heap a (.dK []) from I.hok a _ h)
    cases kv
    have e : es.toList = [] := by
      generalize es.toList = l at ps
      cases ps
      rfl
    refine ⟨_, .dict g1 ex.1 g2 (as := []) (bs := []) (by rw [e]; exact .nil) (by rw [e]; exact .nil), fun _ q => ?_⟩
    rw [List.append_nil, List.mem_singleton] at q
    rw [← q] at ns
    cases ns
  | @d1 a k i h =>
    cases r
    obtain ⟨_, ns, vs, kv, o, es, ep, g1, ex, g2, ks, ps, _⟩ := (show ObjOk X.prog X.w H s.heap a (.dK [(Sum.inr k, .int i)]) from I.hok a _ h)
    obtain ⟨t1, t2, e1, e2⟩ : ∃ t1 t2, es.toList.map (·.key) = [.str k t1] ∧ es.toList.map (·.val) = [.int i t2] := by
      generalize es.toList = l at ps
      cases kv with
      | cons hk hr =>
        cases hr
        obtain ⟨h1, h2⟩ := hk
        cases ps with
        | cons p1 p2 p3 =>
          cases p3
          rw [← h1] at p1
          rcases keyIs_shape (show keyIs (Sum.inr k) _ = true from p1) with ⟨j, t, q, _⟩ | ⟨x, t, q, q2⟩
          · cases q
          · cases q
            obtain ⟨t2, h2⟩ := h2
            refine ⟨t, t2, ?_, ?_⟩
            · rw [List.map_singleton, q2]
            · rw [List.map_singleton, p2, h2]
    refine ⟨_, .dict g1 ex.1 g2 (as := [] ++ []) (bs := [] ++ []) (by rw [e1]; exact .cons (.str k t1) .nil) (by rw [e2]; exact .cons (.int i t2) .nil), fun _ q => ?_⟩
    have q' : sysModules ∈ [a] := q
    rw [List.mem_singleton] at q'
    rw [← q'] at ns
    cases ns
/-- each of them shown -/
theorem shows_all {X : Cx} {pins : List (Addr × Obj)} {σ : L2.St} {H : Hp} {s : Shared} (I : Inv X pins σ H s) : ∀ {vs : List V} {ds : List PyData} {us : List Value}, Paired (Dz X.K H) vs ds → Vals vs us →
    PyData.showableAll ds = true → (∀ t ∈ PyData.shownAll ds, t.length ≤ sizeLine) →
    ∃ as bs, ReadsAll s.heap us ds as ∧ ReadAtMost s.heap (PyData.depthAll ds) bs ∧ ReprAllK X.prog X.w bs s.heap (PyData.depthAll ds) us (PyData.shownAll ds)
  | _, _, _, .nil, .nil, _, _ => ⟨[], [], .nil, (fun _ h => nomatch h), .nil⟩
  | _, _, _, .cons (b := d) (l₂ := ds) h hs, .cons r rs, sh, len => by
    have sh2 : d.showable = true ∧ PyData.showableAll ds = true := by simpa only [PyData.showableAll, Bool.and_eq_true] using sh
    obtain ⟨as, rd, no⟩ := h.reads I r
    obtain ⟨b1, m1, k1⟩ := ReprK.of_reads (prog := X.prog) (w := X.w) rd sh2.1 no (len _ List.mem_cons_self)
    obtain ⟨as2, b2, rd2, m2, k2⟩ := shows_all I hs rs sh2.2 fun t ht => len t (List.mem_cons_of_mem _ ht)
    have l1 : d.depth ≤ PyData.depthAll (d :: ds) := Nat.le_max_left _ _
    have l2 : PyData.depthAll ds ≤ PyData.depthAll (d :: ds) := Nat.le_max_right _ _
    refine ⟨as ++ as2, b1 ++ b2, .cons rd rd2, (m1.mono l1).append (m2.mono l2), ?_⟩
    exact .cons ((k1.more fun b hb => List.mem_append_left _ hb).level_le l1) (k2.more_le (fun b hb => List.mem_append_right _ hb) l2)
/-- repr of a list of such values -/
def rRepr (K : PySem.W.Frag) : List V → Hp → VK → Prop := fun xs H Q => ∃ l vs ds, xs = [.ref l] ∧ SqL K H l vs ∧ vs ≠ [] ∧ Paired (Dz K H) vs ds ∧ PyData.showableAll ds = true ∧ PyData.depthAll ds ≤ 60 ∧
  (listText (PyData.shownAll ds)).length ≤ sizeLine ∧ Q (.str (listText (PyData.shownAll ds))) H
theorem repr_dz {X : Cx} (hg : X.A.guards = some []) (hu : X.A.units + 70 < cLine) : CallR X (.builtin "repr") (rRepr X.K) := by
  intro pins s σ H xs us Q I r h
  obtain ⟨l, vs, ds, rfl, sq, nn, dz, sh, dp, len, q⟩ := h
  obtain ⟨u, rfl, ru⟩ := vals1 r
  cases ru
  obtain ⟨its, rv, ⟨o, n, g1, g2, _, g3⟩, _⟩ := I.list sq
  obtain ⟨as, bs, rd, at_, sw⟩ := shows_all I dz rv sh fun t ht => Nat.le_trans (listText_mem_le ht) len
  have out : l ∉ bs := not_mem_of_deeper (.list g1 g2 g3 rd) (by simp only [PyData.depth]; omega) at_
  match its, nn, rv, g3, rd, sw with
  | [], nn, rv, _, _, _ =>
    cases rv
    exact absurd rfl nn
  | x :: rest, _, _, g3, _, sw =>
    refine call_repr_slot (T := "list") (idr := "list.__repr__") (by omega) ⟨o, g1, g2⟩ F.slot_list_repr.toG ?_
    refine call_list_reprK g1 g2 g3 out (by simpa using sw.length_eq) (fun i y e => sw.item i y (by simpa using e)) (g := []) hg (fun b _ => Clear.nil b) (d := PyData.depthAll ds) ?_ (fun _ _ e => e) (fun h' u tk hk => ?_) len
    · show X.A.units + 1 + (PyData.depthAll ds + 1) < cLine
      omega
    · exact ⟨_, _, rfl, .str _, H, I.kept hk, ⟨u, rfl⟩, q⟩
end Gy

/-! Own exceptions over any base raised and caught: one field; several clauses with a name. -/
namespace Xl
open PySem PySem.Spec PyProof.Rows L2 Gy
/-- an __init__ of one field f -/
def spI1 (C : Addr) (f : Str) : Sp := fun vs H Q _ => ∃ (a : Addr) (v : V), vs = [.ref a, v] ∧ H a = some (exo a C none) ∧ ∀ dx, H dx = none → dx ≠ a → Q .non (upd (upd H dx (exd dx [(f, v)])) a (exo a C (some dx)))
theorem del_made {H : Hp} {a dx C : Addr} {f : Str} {v : V} (n : H a = none) (ne : dx ≠ a) :
    upd (del (upd (upd (upd H a (exo a C none)) dx (exd dx [(f, v)])) a (exo a C (some dx))) a) dx (.xd [(f, v)]) = upd H dx (.xd [(f, v)]) := by
  funext b
  by_cases h1 : b = dx
  · rw [h1, upd_same, upd_same]
  · rw [upd_ne h1, upd_ne h1]
    by_cases h2 : b = a
    · rw [h2, del_same, n]
    · rw [del_ne h2, upd_ne h2, upd_ne h1, upd_ne h2]
section
variable {X : Cx} {C fI : Addr} {fd : FuncData} {f x : Str} {e : Expr} {te : TE} {p pos : Pos} {CX' : CXT}
/-- C(e), to be raised -/
def tMk1 (C : Addr) (f : Str) (t : TA) : L2.St → Hp → XK → Prop := fun σ H Q => t σ H fun vs H1 => ∃ v, vs = [v] ∧ ∀ d, H1 d = none → Q (.ref C) (some d) (upd H1 d (.xd [(f, v)]))
theorem pmk_x1 {t : TA} (T : XIn X.K C fI) (ty : PySem.W.typeIn X.K (.ref C) = some (.type "type")) (F : FnOk X.prog X.w X.K X.mg X.base CX0 1 fI fd ["self", f] (spI1 C f)) (hr : Room 2 X.A)
    (hb : XB X.K fd ["self", f] [] (fun us _ => us) (fun vs _ => vs)) (hg : Gl X x) (hm : X.mg x = some (.ref C)) (ha : PA X [e] t)
    (hdb : (x == ("__debug__" : Str)) = false := by decide) (hst : starEach [e] X.env = (false, eval e X.env) :: starEach [] X.env := by rfl) :
    PMk X (.Call (.Name x p) [e] [] pos) (tMk1 C f t) := by
  intro pins s σ H Q I h
  refine wpAny_Call_Name_kw (ld_glob I hg hm ?_ hdb)
  refine PySem.W.callWith_K (h₀ := X.base) I.ok.mod.kin T.kp (thn (ha.run pos pins s σ H _ I h) ?_) hst rfl
  rintro us s1 ⟨vs, H1, I1, r1, v, rfl, q1⟩
  refine ⟨I1.kIn, ?_⟩
  show wpAny _ _ (call (.ref C) us) _ _ _
  obtain ⟨B, nI, iI, bmB, BF, _, ii, _⟩ := T.base
  obtain ⟨nm, N', qn, bs, bm, hdct, sn, sub, ab, col, dd, k0, k1, k2, k3, k5, cl, hT⟩ := PySem.W.excInit_of I1.kIn ii
  obtain ⟨hp, g', dr, tk', os⟩ := s1
  have big : hp.objs.size ≤ hp.objs.size + 1 := Nat.le_succ _
  have na : H1 (hp.objs.size + 1) = none := I1.hok.fresh big
  have keep : ∀ b o, hp.get? b = some o → ((hp.push (PySem.W.kdv_tup us)).push (PySem.PX.excO C hp.objs.size)).get? b = some o := fun b o e =>
    Heap.get?_push_of_some _ (Heap.get?_push_of_some _ e)
  have new : ((hp.push (PySem.W.kdv_tup us)).push (PySem.PX.excO C hp.objs.size)).get? (hp.objs.size + 1) = some (PySem.PX.excO C hp.objs.size) := by heap_get
  have I2 := I1.laid (t' := tk') (a := hp.objs.size + 1) (o := exo (hp.objs.size + 1) C none) keep big (exo_ok new)
  have r2 : Vals [V.ref (hp.objs.size + 1), v] (Value.ref (hp.objs.size + 1) :: us) := .cons rfl r1
  have hq : spI1 C f [V.ref (hp.objs.size + 1), v] (upd H1 (hp.objs.size + 1) (exo (hp.objs.size + 1) C none))
      (fun r H2 => r = .non ∧ ∃ dx, dx ≠ hp.objs.size + 1 ∧ upd H1 (hp.objs.size + 1) (exo (hp.objs.size + 1) C none) dx = none ∧
        H2 = upd (upd (upd H1 (hp.objs.size + 1) (exo (hp.objs.size + 1) C none)) dx (exd dx [(f, v)])) (hp.objs.size + 1) (exo (hp.objs.size + 1) C (some dx))) (fun _ _ _ => False) :=
    ⟨_, v, rfl, upd_same, fun dx nd ne => ⟨rfl, dx, ne, nd, rfl⟩⟩
  have bl := hb.to ⟨_, g', dr, tk', os⟩ (Value.ref (hp.objs.size + 1)) us [] I2.kIn (by rw [← r2.length]; rfl)
  refine wpAny_call (PySem.Xg.kw_call BF hT cl (PySem.W.looks_findIn I1.kIn T.ini) (fun self => PySem.W.bind_fn I1.kIn self T.tf) ?_ (codeAny_mono (F.run _ X.stack _ _ _ _ _ _ _ (hr.make C us []) (I2.env0.make C us []) bl r2 hq) ?_))
  · rw [← r1.length, sizeLine_eq]
    show 1 ≤ 16777216
    decide
  · rintro (er | (_ | _ | _ | u)) s' z
    · exact (show False from z).elim
    · exact z.elim
    · exact z.elim
    · exact z.elim
    · obtain ⟨r, H2, os2, bare2, un2, hok2, rv, er, dx, ne, nd, e2⟩ := z
      subst er
      obtain ⟨h2, g2, d2, t2, os'⟩ := s'
      subst e2
      refine ⟨rv, mk_end (raises_own T.ex ty) I1 big keep un2 hok2 os2 bare2 upd_same ((upd_ne ne).trans upd_same) ((upd_ne ne).symm.trans nd) ?_⟩
      rw [del_made na ne]
      exact q1 dx ((upd_ne ne).symm.trans nd)
/-- raise C(e) -/
theorem ps_raise1 {W : WX} {t : TA} {rp : Pos} (hc : X.calm = true) (tk : Takes X W) (T : XIn X.K C fI) (ty : PySem.W.typeIn X.K (.ref C) = some (.type "type")) (F : FnOk X.prog X.w X.K X.mg X.base CX0 1 fI fd ["self", f] (spI1 C f)) (hr : Room 2 X.A)
    (hb : XB X.K fd ["self", f] [] (fun us _ => us) (fun vs _ => vs)) (hg : Gl X x) (hm : X.mg x = some (.ref C)) (ha : PA X [e] t)
    (hdb : (x == ("__debug__" : Str)) = false := by decide) (hst : starEach [e] X.env = (false, eval e X.env) :: starEach [] X.env := by rfl) :
    PS X (.Raise (some (.Call (.Name x p) [e] [] pos)) none rp) (fun _ σ H => tMk1 C f t σ H fun cls d H' => W cls d σ H') :=
  ps_raise hc tk (pmk_x1 T ty F hr hb hg hm ha hdb hst)
end
section
variable {X : Cx}
/-- what several clauses 'except x as n' wish of an exception of the body, one after the other: slot i is n's -/
def wManyAs (K : PySem.W.Frag) (i : Nat) (Wout : WX) (D : Ends) : List (Value × (Addr → Value → Option Addr → TS)) → WX
  | [] => Wout
  | (c, ts) :: r => fun cls d σ H => ∃ b, PySem.W.exmOne K cls c = some b ∧
      (b = true → ∀ a, H a = none → ts a cls d { nx := fun σ' H' => D.nx (σ'.set i none) H', rt := D.rt, bk := fun σ' H' => D.bk (σ'.set i none) H', ct := fun σ' H' => D.ct (σ'.set i none) H' } (σ.set i (some (.ref a))) H) ∧
      (b = false → wManyAs K i Wout D r cls d σ H)
inductive HdsAs (X : Cx) (n : Str) : List ExceptHandler → List (Value × (Addr → Value → Option Addr → TS)) → Prop
  | nil : HdsAs X n [] []
  | cons {x : Str} {c : Value} {ts : Addr → Value → Option Addr → TS} {b₀ : Stmt} {suite : List Stmt} {np pos' : Pos} {hds : List ExceptHandler} {l : List (Value × (Addr → Value → Option Addr → TS))} (hc : Names X x c)
      (hsu : ∀ (a : Addr) (oe : Obj) (cls : Value) (d : Option Addr) (pn : List (Addr × Obj)), Zc cls d oe → (∃ vs, oe.data = .fields vs) → PSs (X.suite a ((a, oe) :: pn)) (b₀ :: suite) (ts a cls d)) (r : HdsAs X n hds l) :
      HdsAs X n (.ExceptHandler (some (.Name x np)) (some n) (b₀ :: suite) pos' :: hds) ((c, ts) :: l)
variable {body : List Stmt} {h₀ : ExceptHandler} {hds : List ExceptHandler} {l : List (Value × (Addr → Value → Option Addr → TS))} {n : Str} {i : Nat} {pos : Pos} {tb : WX → TS} {Wout : WX}
/-- try: body, several clauses 'except x as n' -/
theorem ps_try_manyAs (hs : X.stack = X.env :: X.outer) (hf : X.env.frame = some X.env.locals) (hN : X.N.Nodup) (hi : X.N[i]? = some n) (hln : X.env.kindOf n = some .local) (tk : Takes X Wout)
    (hb : ∀ (W : WX) (pn : List (Addr × Obj)) (xe : Value → Shared → Prop), Takes (X.tr pn xe) W → PassesOwn (model X.prog X.w) X.A X.env xe → PSs (X.tr pn xe) body (tb W))
    (hh : HdsAs X n (h₀ :: hds) l) : PS X (.Try body (h₀ :: hds) [] [] pos) (fun D σ H => tb (wManyAs X.K i Wout D l) D σ H) := by
  constructor
  intro pins s σ H D I h
  have ok := I.ok
  have fr : X.A.frames = some (X.env :: X.outer) := by
    rw [ok.frames, hs]
  refine wpAny_Try_except ?_
  have run := hb (wManyAs X.K i Wout D l) (X.pn ++ pins) (fun e s₁ => wpAny (model X.prog X.w) X.A (noteFrame e X.env) (fun _ s₂ => wpAny (model X.prog X.w) X.A (setFlight e none)
    (fun _ s₃ => wpAny (model X.prog X.w) X.A (handleBy e X.env (h₀ :: hds)) (SP X pins D) X.xe s₃) X.xe s₂) X.xe s₁) ?tk PassesOwn.looking
  case tk =>
    rintro u s' ⟨a, B, sI, pins', σ', H', cls, d, rfl, J', nb, up, sky, na, os, ag, wish⟩
    have J := J'.ofTry ok
    rw [show (X.tr (X.pn ++ pins) _).stack = X.env :: X.outer from hs] at sky
    refine Sky.land Zc.steady fr hf sky fun h3 fl3 up3 => ?_
    have J3 : Inv X pins σ' H' { s' with heap := h3 } := J.landed nb fl3.1 (up.trans up3) os ag
    obtain ⟨oe3, vs3, at3, z3, d3⟩ := fl3.there
    have out : a ∉ frs (X.env :: X.outer) := fun m => by
      obtain ⟨_, o', q', nf⟩ := fl3.2.2.1.mem m
      rw [at3] at q'
      cases q'
      exact nf _ d3
    have nL : a ≠ X.env.locals := fun z => out (List.mem_filterMap.mpr ⟨X.env, List.mem_cons_self, by rw [hf, z]⟩)
    have nF : a ∉ X.fs := fun m => by
      obtain ⟨e', he', q'⟩ := List.mem_filterMap.mp m
      exact out (List.mem_filterMap.mpr ⟨e', List.mem_cons_of_mem _ he', q'⟩)
    have S3 := J3.suite at3 d3 na nL nF
    have go : ∀ {hds' l'}, HdsAs X n hds' l' → wManyAs X.K i Wout D l' cls d σ' H' → wpAny (model X.prog X.w) X.A (handleBy (.ref a) X.env hds') (SP X pins D) X.xe { s' with heap := h3 } := by
      intro hds' l' hk
      induction hk with
      | nil =>
        intro wish
        refine wpAny_handleBy_nil ?_
        obtain ⟨k1, k2, k3, oe, vs, T, oT, ts', he, hz, hd, h1, hr⟩ := id fl3
        unfold PySem.passOn
        refine wpAny_bind (wpAny_field he hd h1 ?_)
        rw [if_neg (show ¬ ((Value.ref T == Value.none) = true) from by simp)]
        have fin : wpAny (model X.prog X.w) X.A (setFlight (.ref a) X.env.frame) (fun _ s4 => wpAny (model X.prog X.w) X.A (throw (.ref a) : Sem Flow) (SP X pins D) X.xe s4) X.xe { s' with heap := h3 } := by
          rw [hf]
          refine HandSPX.setFlight_upZ fl3 fun h4 hh4 up4 => wpAny_throw (tk _ _ ?_)
          refine ⟨a, B, sI, pins, σ', H', cls, d, rfl, J, nb, (up.trans up3).trans up4, .inr (.inr ?_), na, os, ag, wish⟩
          rw [hs]
          exact hh4
        first
          | exact wpAny_bind (wpAny_pure (wpAny_bind fin))
          | exact wpAny_bind fin
      | @cons x c ts b₀ suite np pos' hds2 l2 hc hsu r ih =>
        rintro ⟨b, hb1, yes, no⟩
        refine wpAny_handleBy_cons (codeAny_handlers_test ?_) (by intro q; cases q)
        have ty : PySem.W.Looks (model X.prog X.w) h3 (typeOf (.ref a)) cls := fun A Q E s k q => wpAny_typeOf_ref (k _ _ at3) (by rw [z3.1]; exact q)
        have look := PySem.W.exm_one (M := model X.prog X.w) J3.kIn ty hb1
        have name : ∀ {Q : Value → Shared → Prop} {E : Value → Shared → Prop}, Q c { s' with heap := h3 } → wpAny (model X.prog X.w) (X.A.mark (some (.ref a))) (eval (.Name x np) X.env) Q E { s' with heap := h3 } := by
          intro Q E q
          obtain ⟨hg, hdbg, hm | ⟨hm, hv, hnn⟩⟩ := hc
          · exact ld_glob (X := X.suite a ((a, oe3) :: (X.pn ++ pins))) S3 hg hm q hdbg
          · exact ld_blt (X := X.suite a ((a, oe3) :: (X.pn ++ pins))) S3 hg hm hv q hnn hdbg
        refine name (look.here ?_)
        cases b with
        | false =>
          show wpAny _ X.A (handleBy (.ref a) X.env hds2) _ _ _
          exact ih (no rfl)
        | true =>
          refine codeAny_handlers_suite_as ?_
          refine HandSPX.lands_againZ fl3 fun h4 fl4 up4 => ?_
          have J4 : Inv X pins σ' H' { s' with heap := h4 } := J.landed nb fl4.1 ((up.trans up3).trans up4) os ag
          obtain ⟨oe4, vs4, at4, z4, d4⟩ := fl4.there
          have S4 := J4.suite at4 d4 na nL nF
          refine store_ok (X := X.suite a ((a, oe4) :: (X.pn ++ pins))) (v := .ref a) S4 hN hi (.inl hln) rfl (fun s5 S5 => ?_) (.inr hln)
          refine wpAny_mono ((hsu a oe4 cls d (X.pn ++ pins) z4 ⟨_, d4⟩).run [] s5 _ H' _ S5 (yes rfl a na)) (fun f s6 sp => ?_) (fun _ _ z => False.elim z)
          have leave : ∀ {σ6 : L2.St} {H6 : Hp} {Q : Shared → Prop}, Inv (X.suite a ((a, oe4) :: (X.pn ++ pins))) [] σ6 H6 s6 → (∀ s7, Inv X pins (σ6.set i none) H6 s7 → Q s7) →
              wpAny (model X.prog X.w) X.A (do bindName X.env n .none; unbindBehindTheSuite X.env n pos') (fun _ s7 => Q s7) X.xe s6 := fun S6 hq => gone_ok (S6.unsuite ok) hN hi hln hq
          cases f with
          | ret u =>
            obtain ⟨v6, σ6, H6, S6, r6, q6⟩ := sp
            exact leave S6 fun s7 J7 => ⟨_, _, _, J7, r6, q6⟩
          | _ =>
            obtain ⟨σ6, H6, S6, q6⟩ := sp
            exact leave S6 fun s7 J7 => ⟨_, _, J7, q6⟩
    exact go hh wish
  refine wpAny_mono (run.run [] s σ H D (I.toTry _) h) (fun f s1 sp => ?_) (fun e s1 he => he)
  cases f with
  | next =>
    obtain ⟨σ', H', J', q⟩ := sp
    exact wpAny_execs_nil ⟨σ', H', J'.ofTry ok, q⟩
  | ret u =>
    obtain ⟨v, σ', H', J', r, q⟩ := sp
    exact ⟨v, σ', H', J'.ofTry ok, r, q⟩
  | _ =>
    obtain ⟨σ', H', J', q⟩ := sp
    exact ⟨σ', H', J'.ofTry ok, q⟩
end
end Xl

/-! several clauses 'except X as n' and 'except (X, ..) as n'. -/
namespace Xl
open PySem PySem.Spec PyProof.Rows L2 Gy
/-- what a clause names -/
inductive Cl where
  | one (c : Value)
  | tup (cs : List Value)
def Cl.hit (K : PySem.W.Frag) (cls : Value) : Cl → Option Bool
  | .one c => PySem.W.exmOne K cls c
  | .tup cs => PySem.W.exmAny K cls cs
theorem flying_keep {B h h' : Heap} {l : List Env} {e : Addr} {Z : Obj → Prop} (x : HandSPX.FlyingZ B l e Z h) (k : ∀ b o, h.get? b = some o → h'.get? b = some o) : HandSPX.FlyingZ B l e Z h' := by
  obtain ⟨k1, k2, k3, oe, vs, T, oT, ts, e1, z, d, v, n1, n2, e2, r⟩ := x
  exact ⟨fun b o q => k _ _ (k1 b o q), k2, k3.of_keeps fun b o q _ => ⟨o, k _ _ q, rfl⟩, oe, vs, T, oT, ts, k _ _ e1, z, d, v, n1, n2, k _ _ e2, r⟩
section
variable {X : Cx}
def wManyT (K : PySem.W.Frag) (i : Nat) (Wout : WX) (D : Ends) : List (Cl × (Addr → Value → Option Addr → TS)) → WX
  | [] => Wout
  | (c, ts) :: r => fun cls d σ H => ∃ b, c.hit K cls = some b ∧
      (b = true → ∀ a, H a = none → ts a cls d { nx := fun σ' H' => D.nx (σ'.set i none) H', rt := D.rt, bk := fun σ' H' => D.bk (σ'.set i none) H', ct := fun σ' H' => D.ct (σ'.set i none) H' } (σ.set i (some (.ref a))) H) ∧
      (b = false → wManyT K i Wout D r cls d σ H)
/-- the names of a clause's tuple -/
inductive NamesT (X : Cx) : List Expr → List Value → Prop
  | nil : NamesT X [] []
  | cons {x : Str} {c : Value} {np : Pos} {es : List Expr} {cs : List Value} (h : Names X x c) (r : NamesT X es cs) : NamesT X (.Name x np :: es) (c :: cs)
abbrev SuiteOk (X : Cx) (su : List Stmt) (ts : Addr → Value → Option Addr → TS) : Prop := ∀ (a : Addr) (oe : Obj) (cls : Value) (d : Option Addr) (pn : List (Addr × Obj)), Zc cls d oe → (∃ vs, oe.data = .fields vs) → PSs (X.suite a ((a, oe) :: pn)) su (ts a cls d)
inductive HdsT (X : Cx) (n : Str) : List ExceptHandler → List (Cl × (Addr → Value → Option Addr → TS)) → Prop
  | nil : HdsT X n [] []
  | one {x : Str} {c : Value} {ts : Addr → Value → Option Addr → TS} {b₀ : Stmt} {suite : List Stmt} {np pos' : Pos} {hds : List ExceptHandler} {l : List (Cl × (Addr → Value → Option Addr → TS))} (hc : Names X x c)
      (hsu : SuiteOk X (b₀ :: suite) ts) (r : HdsT X n hds l) : HdsT X n (.ExceptHandler (some (.Name x np)) (some n) (b₀ :: suite) pos' :: hds) ((.one c, ts) :: l)
  | tup {es : List Expr} {cs : List Value} {ts : Addr → Value → Option Addr → TS} {b₀ : Stmt} {suite : List Stmt} {k : Nat} {np pos' : Pos} {hds : List ExceptHandler} {l : List (Cl × (Addr → Value → Option Addr → TS))} (hc : NamesT X es cs) (hn : cs.length = 2 ∨ cs.length = 4)
      (hst : backTo np (starEach es X.env) = es.map fun e => (false, eval e X.env)) (hsu : SuiteOk X (b₀ :: suite) ts) (r : HdsT X n hds l) : HdsT X n (.ExceptHandler (some (.Tuple es k np)) (some n) (b₀ :: suite) pos' :: hds) ((.tup cs, ts) :: l)
variable {body : List Stmt} {h₀ : ExceptHandler} {hds : List ExceptHandler} {l : List (Cl × (Addr → Value → Option Addr → TS))} {n : Str} {i : Nat} {pos : Pos} {tb : WX → TS} {Wout : WX}
theorem names_run {Y : Cx} {pins : List (Addr × Obj)} {σ : L2.St} {H : Hp} {s : Shared} (I : Inv Y pins σ H s) (eG : ∀ {x c}, Names X x c → Names Y x c) (env : Y.env = X.env) {E : Value → Shared → Prop} : ∀ {es : List Expr} {cs : List Value}, NamesT X es cs → ∀ {Q : List Value → Shared → Prop}, Q cs s →
    wpAny (model Y.prog Y.w) Y.A (spliced (es.map fun e => (false, eval e Y.env))) Q E s := by
  intro es cs h
  induction h with
  | nil => exact fun q => Calls.spliced_nil q
  | @cons x c np es cs hc r ih =>
    intro Q q
    refine Calls.spliced_cons ?_
    obtain ⟨hg, hdbg, hm | ⟨hm, hv, hnn⟩⟩ := eG hc
    · exact ld_glob I hg hm (ih (Q := fun vs s2 => Q (c :: vs) s2) q) hdbg
    · exact ld_blt I hg hm hv (ih (Q := fun vs s2 => Q (c :: vs) s2) q) hnn hdbg
theorem tup_hit {K : PySem.W.Frag} {M : Model} {cs : List Value} {tp e : Addr} {cls : Value} {b : Bool} {h : Heap} (X : K.In h) (LT : PySem.W.Looks M h (typeOf (.ref e)) cls) (hp : h.get? tp = some { cls := .type "tuple", data := .seq cs.toArray }) (hn : cs.length = 2 ∨ cs.length = 4) (hx : PySem.W.exmAny K cls cs = some b) :
    PySem.W.Looks M h (excMatches (.ref e) (.ref tp)) b := by
  match cs, hn with
  | [c1, c2], _ => exact PySem.W.exm_tup2 X LT hp hx
  | [c1, c2, c3, c4], _ => exact PySem.W.exm_tup4 X LT hp hx
theorem ps_try_T (hs : X.stack = X.env :: X.outer) (hf : X.env.frame = some X.env.locals) (hN : X.N.Nodup) (hi : X.N[i]? = some n) (hln : X.env.kindOf n = some .local) (tk : Takes X Wout)
    (hb : ∀ (W : WX) (pn : List (Addr × Obj)) (xe : Value → Shared → Prop), Takes (X.tr pn xe) W → PassesOwn (model X.prog X.w) X.A X.env xe → PSs (X.tr pn xe) body (tb W))
    (hh : HdsT X n (h₀ :: hds) l) : PS X (.Try body (h₀ :: hds) [] [] pos) (fun D σ H => tb (wManyT X.K i Wout D l) D σ H) := by
  constructor
  intro pins s σ H D I h
  have ok := I.ok
  have fr : X.A.frames = some (X.env :: X.outer) := by
    rw [ok.frames, hs]
  refine wpAny_Try_except ?_
  have run := hb (wManyT X.K i Wout D l) (X.pn ++ pins) (fun e s₁ => wpAny (model X.prog X.w) X.A (noteFrame e X.env) (fun _ s₂ => wpAny (model X.prog X.w) X.A (setFlight e none)
    (fun _ s₃ => wpAny (model X.prog X.w) X.A (handleBy e X.env (h₀ :: hds)) (SP X pins D) X.xe s₃) X.xe s₂) X.xe s₁) ?tk PassesOwn.looking
  case tk =>
    rintro u s' ⟨a, B, sI, pins', σ', H', cls, d, rfl, J', nb, up, sky, na, os, ag, wish⟩
    have J := J'.ofTry ok
    rw [show (X.tr (X.pn ++ pins) _).stack = X.env :: X.outer from hs] at sky
    refine Sky.land Zc.steady fr hf sky fun h3 fl3 up3 => ?_
    -- where the exception stands, in any heap in which it flies
    have S : ∀ {hh : Heap}, HandSPX.FlyingZ B (X.env :: X.outer) a (Zc cls d) hh → s'.heap.UpToSlots hh → ∃ oe vs, hh.get? a = some oe ∧ Zc cls d oe ∧ oe.data = .fields vs ∧ Inv X pins σ' H' { s' with heap := hh } ∧ Inv (X.suite a ((a, oe) :: (X.pn ++ pins))) [] σ' H' { s' with heap := hh } := by
      intro hh fl up'
      have J3 : Inv X pins σ' H' { s' with heap := hh } := J.landed nb fl.1 (up.trans up') os ag
      obtain ⟨oe3, vs3, at3, z3, d3⟩ := fl.there
      have out : a ∉ frs (X.env :: X.outer) := fun m => by
        obtain ⟨_, o', q', nf⟩ := fl.2.2.1.mem m
        rw [at3] at q'
        cases q'
        exact nf _ d3
      have nL : a ≠ X.env.locals := fun z => out (List.mem_filterMap.mpr ⟨X.env, List.mem_cons_self, by rw [hf, z]⟩)
      have nF : a ∉ X.fs := fun m => by
        obtain ⟨e', he', q'⟩ := List.mem_filterMap.mp m
        exact out (List.mem_filterMap.mpr ⟨e', List.mem_cons_of_mem _ he', q'⟩)
      exact ⟨oe3, vs3, at3, z3, d3, J3, J3.suite at3 d3 na nL nF⟩
    have go : ∀ {hds' l'}, HdsT X n hds' l' → ∀ (hh : Heap), HandSPX.FlyingZ B (X.env :: X.outer) a (Zc cls d) hh → s'.heap.UpToSlots hh → wManyT X.K i Wout D l' cls d σ' H' → wpAny (model X.prog X.w) X.A (handleBy (.ref a) X.env hds') (SP X pins D) X.xe { s' with heap := hh } := by
      intro hds' l' hk
      induction hk with
      | nil =>
        intro hh fl3 up3 wish
        refine wpAny_handleBy_nil ?_
        obtain ⟨k1, k2, k3, oe, vs, T, oT, ts', he, hz, hd, h1, hr⟩ := id fl3
        unfold PySem.passOn
        refine wpAny_bind (wpAny_field he hd h1 ?_)
        rw [if_neg (show ¬ ((Value.ref T == Value.none) = true) from by simp)]
        have fin : wpAny (model X.prog X.w) X.A (setFlight (.ref a) X.env.frame) (fun _ s4 => wpAny (model X.prog X.w) X.A (throw (.ref a) : Sem Flow) (SP X pins D) X.xe s4) X.xe { s' with heap := hh } := by
          rw [hf]
          refine HandSPX.setFlight_upZ fl3 fun h4 hh4 up4 => wpAny_throw (tk _ _ ?_)
          refine ⟨a, B, sI, pins, σ', H', cls, d, rfl, J, nb, (up.trans up3).trans up4, .inr (.inr ?_), na, os, ag, wish⟩
          rw [hs]
          exact hh4
        first
          | exact wpAny_bind (wpAny_pure (wpAny_bind fin))
          | exact wpAny_bind fin
      | @one x c ts b₀ suite np pos' hds2 l2 hc hsu r ih =>
        rintro hh fl3 up3 ⟨b, hb1, yes, no⟩
        obtain ⟨oe3, vs3, at3, z3, d3, J3, S3⟩ := S fl3 up3
        refine wpAny_handleBy_cons (codeAny_handlers_test ?_) (by intro q; cases q)
        have ty : PySem.W.Looks (model X.prog X.w) hh (typeOf (.ref a)) cls := fun A Q E s k q => wpAny_typeOf_ref (k _ _ at3) (by rw [z3.1]; exact q)
        have look := PySem.W.exm_one (M := model X.prog X.w) J3.kIn ty hb1
        have name : ∀ {Q : Value → Shared → Prop} {E : Value → Shared → Prop}, Q c { s' with heap := hh } → wpAny (model X.prog X.w) (X.A.mark (some (.ref a))) (eval (.Name x np) X.env) Q E { s' with heap := hh } := by
          intro Q E q
          obtain ⟨hg, hdbg, hm | ⟨hm, hv, hnn⟩⟩ := hc
          · exact ld_glob (X := X.suite a ((a, oe3) :: (X.pn ++ pins))) S3 hg hm q hdbg
          · exact ld_blt (X := X.suite a ((a, oe3) :: (X.pn ++ pins))) S3 hg hm hv q hnn hdbg
        refine name (look.here ?_)
        cases b with
        | false =>
          show wpAny _ X.A (handleBy (.ref a) X.env hds2) _ _ _
          exact ih _ fl3 up3 (no rfl)
        | true =>
          refine codeAny_handlers_suite_as ?_
          refine HandSPX.lands_againZ fl3 fun h4 fl4 up4 => ?_
          obtain ⟨oe4, vs4, at4, z4, d4, J4, S4⟩ := S fl4 (up3.trans up4)
          refine store_ok (X := X.suite a ((a, oe4) :: (X.pn ++ pins))) (v := .ref a) S4 hN hi (.inl hln) rfl (fun s5 S5 => ?_) (.inr hln)
          refine wpAny_mono ((hsu a oe4 cls d (X.pn ++ pins) z4 ⟨_, d4⟩).run [] s5 _ H' _ S5 (yes rfl a na)) (fun f s6 sp => ?_) (fun _ _ z => False.elim z)
          have leave : ∀ {σ6 : L2.St} {H6 : Hp} {Q : Shared → Prop}, Inv (X.suite a ((a, oe4) :: (X.pn ++ pins))) [] σ6 H6 s6 → (∀ s7, Inv X pins (σ6.set i none) H6 s7 → Q s7) →
              wpAny (model X.prog X.w) X.A (do bindName X.env n .none; unbindBehindTheSuite X.env n pos') (fun _ s7 => Q s7) X.xe s6 := fun S6 hq => gone_ok (S6.unsuite ok) hN hi hln hq
          cases f with
          | ret u =>
            obtain ⟨v6, σ6, H6, S6, r6, q6⟩ := sp
            exact leave S6 fun s7 J7 => ⟨_, _, _, J7, r6, q6⟩
          | _ =>
            obtain ⟨σ6, H6, S6, q6⟩ := sp
            exact leave S6 fun s7 J7 => ⟨_, _, J7, q6⟩
      | @tup es cs ts b₀ suite kx np pos' hds2 l2 hc hn hst hsu r ih =>
        rintro hh fl3 up3 ⟨b, hb1, yes, no⟩
        obtain ⟨oe3, vs3, at3, z3, d3, J3, S3⟩ := S fl3 up3
        refine wpAny_handleBy_cons (codeAny_handlers_test ?_) (by intro q; cases q)
        refine wpAny_Tuple_spliced ?_
        rw [hst]
        refine names_run (X := X) (Y := X.suite a ((a, oe3) :: (X.pn ++ pins))) S3 (fun z => z) rfl hc ?_
        refine ⟨by rw [sizeLine_eq]; rcases hn with z | z <;> omega, ?_⟩
        have kp : ∀ b o, hh.get? b = some o → (hh.push { cls := .type "tuple", data := .seq cs.toArray }).get? b = some o := fun b o e => Heap.get?_push_of_some _ e
        have gt : (hh.push { cls := .type "tuple", data := .seq cs.toArray }).get? hh.objs.size = some { cls := .type "tuple", data := .seq cs.toArray } := Heap.get?_push_size _ rfl
        show wpAny _ _ (excMatches (.ref a) (.ref hh.objs.size)) _ _ { s' with heap := hh.push { cls := .type "tuple", data := .seq cs.toArray } }
        generalize hh.push { cls := .type "tuple", data := .seq cs.toArray } = h5 at kp gt
        have fl5 := flying_keep fl3 kp
        have up5 : s'.heap.UpToSlots h5 := up3.trans (.of_keeps kp)
        have ty : PySem.W.Looks (model X.prog X.w) h5 (typeOf (.ref a)) cls := fun A Q E s k q => wpAny_typeOf_ref (k _ _ (kp _ _ at3)) (by rw [z3.1]; exact q)
        have look := tup_hit (M := model X.prog X.w) (J3.kIn.keeps kp) ty gt hn hb1
        refine look.here ?_
        cases b with
        | false =>
          show wpAny _ X.A (handleBy (.ref a) X.env hds2) _ _ _
          exact ih _ fl5 up5 (no rfl)
        | true =>
          refine codeAny_handlers_suite_as ?_
          refine HandSPX.lands_againZ fl5 fun h4 fl4 up4 => ?_
          obtain ⟨oe4, vs4, at4, z4, d4, J4, S4⟩ := S fl4 (up5.trans up4)
          refine store_ok (X := X.suite a ((a, oe4) :: (X.pn ++ pins))) (v := .ref a) S4 hN hi (.inl hln) rfl (fun s5 S5 => ?_) (.inr hln)
          refine wpAny_mono ((hsu a oe4 cls d (X.pn ++ pins) z4 ⟨_, d4⟩).run [] s5 _ H' _ S5 (yes rfl a na)) (fun f s6 sp => ?_) (fun _ _ z => False.elim z)
          have leave : ∀ {σ6 : L2.St} {H6 : Hp} {Q : Shared → Prop}, Inv (X.suite a ((a, oe4) :: (X.pn ++ pins))) [] σ6 H6 s6 → (∀ s7, Inv X pins (σ6.set i none) H6 s7 → Q s7) →
              wpAny (model X.prog X.w) X.A (do bindName X.env n .none; unbindBehindTheSuite X.env n pos') (fun _ s7 => Q s7) X.xe s6 := fun S6 hq => gone_ok (S6.unsuite ok) hN hi hln hq
          cases f with
          | ret u =>
            obtain ⟨v6, σ6, H6, S6, r6, q6⟩ := sp
            exact leave S6 fun s7 J7 => ⟨_, _, _, J7, r6, q6⟩
          | _ =>
            obtain ⟨σ6, H6, S6, q6⟩ := sp
            exact leave S6 fun s7 J7 => ⟨_, _, J7, q6⟩
    exact go hh h3 fl3 up3 wish
  refine wpAny_mono (run.run [] s σ H D (I.toTry _) h) (fun f s1 sp => ?_) (fun e s1 he => he)
  cases f with
  | next =>
    obtain ⟨σ', H', J', q⟩ := sp
    exact wpAny_execs_nil ⟨σ', H', J'.ofTry ok, q⟩
  | ret u =>
    obtain ⟨v, σ', H', J', r, q⟩ := sp
    exact ⟨v, σ', H', J'.ofTry ok, r, q⟩
  | _ =>
    obtain ⟨σ', H', J', q⟩ := sp
    exact ⟨σ', H', J'.ofTry ok, q⟩
end
end Xl

/-! In an except suite: isinstance of the caught error, whose fields stand in its dict. -/
namespace Xl
open PySem PySem.Spec PyProof.Rows L2 Gy
def rIsS (K : PySem.W.Frag) (a : Addr) (cls : Value) (d : Option Addr) : List V → Hp → VK → Prop := fun xs H Q => ∃ (D dd : Addr) (fs : List (Str × V)) (c : V) (cv : Value) (b : Bool),
  xs = [.ref a, c] ∧ cls = .ref D ∧ d = some dd ∧ H dd = some (.xd fs) ∧ XCl K D ∧ ClsV c cv ∧ PySem.W.kitOne K (.ref D) cv = some b ∧ Q (.bl b) H
theorem call_isS {X : Cx} {a : Addr} {oe : Obj} {cls : Value} {d : Option Addr} {pn : List (Addr × Obj)} (cg : PySem.W.specialIn X.K (.builtin "object.__class__") "__get__" = some (some (.builtin "getset_descriptor.__get__")))
    (ct : PySem.W.takesIn X.K (.builtin "object.__class__") = some true) (hz : Zc cls d oe) (hf : ∃ vs, oe.data = .fields vs) : CallR (X.suite a ((a, oe) :: pn)) (.builtin "isinstance") (rIsS X.K a cls d) := by
  intro pins s σ H xs us Q I r h
  obtain ⟨D, dd, fs, c, cv, b, rfl, rfl, rfl, hd, T, hc, e, q⟩ := h
  obtain ⟨u1, u2, rfl, r1, r2⟩ := vals2 r
  cases r1
  have e2 := hc.eq r2
  subst e2
  obtain ⟨ha, _⟩ := I.pin (a, oe) (List.mem_append_left _ List.mem_cons_self)
  obtain ⟨vs, hv⟩ := hf
  obtain ⟨mA, ns, _⟩ := (show ObjOk X.prog X.w H s.heap dd (.xd fs) from I.hok dd _ hd)
  obtain ⟨od, go, _⟩ := lookIn_ns ns
  have cl : (PySem.W.clsIn X.K D).isSome = true := by
    obtain ⟨cd, z, _⟩ := PySem.W.any_some T.hd
    rw [z]
    rfl
  have J : PySem.W.InstAt s.heap a oe D (some od) := by
    obtain ⟨oc, odd, oda, osl⟩ := oe
    obtain ⟨h1, h2⟩ := hz
    dsimp only at h1 h2 hv
    subst h1 h2 hv
    exact ⟨ha, rfl, rfl, go⟩
  exact PySem.W.kia_one (PySem.W.kitx_exc cl T.ga T.gg T.ex T.ca cg ct T.ob) I.kIn J e (fun z => nomatch z) fun tk => ⟨.bl b, H, I.tok tk, rfl, q⟩
end Xl

/-! Tuples that are made in the run, known to have no dict of their own: so their methods can be called. -/
namespace Xt
open PySem PySem.Spec PyProof.Rows L2
/-- a tuple that was made in the run -/
def Tz (H : Hp) (a : Addr) (xs : List V) : Prop := ∃ o : Obj, H a = some (.frz o (.tup xs)) ∧ o.cls = .type "tuple" ∧ o.dict = none
theorem Tz.sq {K : PySem.W.Frag} {H : Hp} {a : Addr} {xs : List V} (h : Tz H a xs) : SqT K H a xs := by
  obtain ⟨o, e, _⟩ := h
  exact .inl (.inr ⟨o, e⟩)
theorem Tz.same {H H' : Hp} {a : Addr} {xs : List V} (h : Tz H a xs) (s : Same H H') : Tz H' a xs := by
  obtain ⟨o, e, c⟩ := h
  exact ⟨o, s _ _ e, c⟩
theorem Tz.ty {K : PySem.W.Frag} {H : Hp} {a : Addr} {xs : List V} (h : Tz H a xs) : TyX K H (.ref a) (.type "tuple") := by
  obtain ⟨o, e, _⟩ := h
  exact .fTuple e
theorem Tz.ne {H : Hp} {a p : Addr} {xs : List V} (h : Tz H a xs) (n : H p = none) : a ≠ p := by
  obtain ⟨o, e, _⟩ := h
  exact ne_of_none e n
/-- the goal behind a new tuple -/
def NewT (xs : List V) (H : Hp) (Q : VK) : Prop := ∀ p o, H p = none → Same H (upd H p o) → Tz (upd H p o) p xs → Q (.ref p) (upd H p o)
section
variable {X : Cx} {pins : List (Addr × Obj)} {σ : L2.St} {H : Hp} {s : Shared} {Q : VK}
theorem lay_new (I : Inv X pins σ H s) {xs : List V} {us : List Value} {n : Nat} (z : xs.length ≤ sizeLine) (r : Vals xs us) (q : NewT xs H Q) :
    EP X pins σ Q (.ref s.heap.objs.size) { s with heap := s.heap.push { cls := .type "tuple", data := .seq us.toArray n } } := by
  have new : H s.heap.objs.size = none := I.hok.fresh (Nat.le_refl _)
  have got : (s.heap.push { cls := .type "tuple", data := .seq us.toArray n }).get? s.heap.objs.size = some { cls := .type "tuple", data := .seq us.toArray n } := Heap.get?_push_size _ rfl
  refine ⟨.ref s.heap.objs.size, upd H s.heap.objs.size (.frz { cls := .type "tuple", data := .seq us.toArray n } (.tup xs)), I.laid (t' := s.toks) (fun b u e => Heap.get?_push_of_some _ e) (Nat.le_refl _) ⟨got, z, us, r, _, got, rfl, n, rfl⟩, rfl, ?_⟩
  refine q _ _ new (fun b x e => ?_) ⟨_, upd_same, rfl, rfl⟩
  rw [upd_ne (ne_of_none e new)]
  exact e
/-- a written tuple -/
def tTupZ (t : TA) : TE := fun σ H Q => t σ H fun xs H1 => xs.length ≤ sizeLine ∧ NewT xs H1 Q
theorem pe_tupZ {es : List Expr} {t : TA} {x1} {pos : Pos} (h : PA X es t) : PE X (.Tuple es x1 pos) (tTupZ t) := by
  refine ⟨fun pins s σ H Q I hq => wpAny_Tuple_spliced (thn (h.run pos pins s σ H _ I hq) fun us s1 ⟨xs, H1, I1, r, z, q⟩ => ⟨by rw [← r.length]; exact z, ?_⟩)⟩
  exact lay_new I1 z r q
/-- tuple(xs), xs a list -/
def rTupOf (K : PySem.W.Frag) : List V → Hp → VK → Prop := fun xs H Q => ∃ p ys, xs = [.ref p] ∧ SqL K H p ys ∧ ys.length ≤ 1000 ∧ NewT ys H Q
theorem call_tupOf : CallR X (.type "tuple") (rTupOf X.K) := by
  intro pins s σ H xs us Q I r h
  obtain ⟨p, ys, rfl, sq, le, q⟩ := h
  obtain ⟨u, rfl, rx⟩ := vals1 r
  cases rx
  obtain ⟨its, rv, pl, z⟩ := I.list sq
  have el := rv.length
  refine call_tuple_list pl.isList (fun h2 keep => ?_) (by simp only [List.size_toArray]; omega)
  exact lay_new (n := 0) (I.kept (t' := s.toks) keep) z rv q
/-- t[a:b], not the whole -/
def rCut (K : PySem.W.Frag) : V → Option Int → Option Int → Hp → VK → Prop := fun x lo hi H Q => ∃ a xs, x = .ref a ∧ SqT K H a xs ∧ ¬ (HT.sIx xs.length 0 lo = 0 ∧ HT.sIx xs.length xs.length hi = xs.length) ∧ NewT (cutV xs lo hi) H Q
theorem sl_cut : SlR X (rCut X.K) := by
  intro pins s σ H x v vl vu lo hi sl Q I rx hs pl pu h
  obtain ⟨a, xs, rfl, sq, part, q⟩ := h
  cases rx
  obtain ⟨its, r, at_, z⟩ := I.tuple sq
  have el : its.toArray.size = xs.length := by rw [List.size_toArray]; exact r.length.symm
  refine ⟨"tuple", _, PyProof.Rows.slot_tuple_getitem.lookup, at_.typeIs, HT.getItem_tuple_cut at_ hs pl pu (by rw [el]; exact part) ?_ (by rw [el]; exact z)⟩
  rw [el]
  exact lay_new I (Nat.le_trans (cutV_length xs lo hi) z) ((r.drop (HT.sIx xs.length 0 lo)).take (HT.sIx xs.length xs.length hi - HT.sIx xs.length 0 lo)) q
/-- t[a:b] of any kind: the whole is t itself; what comes is told by a relation that both give -/
def rCutA (K : PySem.W.Frag) : V → Option Int → Option Int → Hp → VK → Prop := fun x lo hi H Q => ∃ a xs, x = .ref a ∧ Tz H a xs ∧ (cutV xs lo hi = xs → Q (.ref a) H) ∧ NewT (cutV xs lo hi) H Q
theorem cut_whole {xs : List V} {lo hi : Option Int} (h : HT.sIx xs.length 0 lo = 0 ∧ HT.sIx xs.length xs.length hi = xs.length) : cutV xs lo hi = xs := by
  unfold cutV
  rw [h.1, h.2, List.drop_zero, Nat.sub_zero, List.take_of_length_le (Nat.le_refl _)]
theorem sl_cutA : SlR X (rCutA X.K) := by
  intro pins s σ H x v vl vu lo hi sl Q I rx hs pl pu h
  obtain ⟨a, xs, rfl, tz, q1, q2⟩ := h
  by_cases w : HT.sIx xs.length 0 lo = 0 ∧ HT.sIx xs.length xs.length hi = xs.length
  · exact sl_tupA pins s σ H _ v vl vu lo hi sl Q I rx hs pl pu ⟨a, xs, rfl, tz.sq, fun _ => q1 (cut_whole w), fun z => absurd w z⟩
  · exact sl_cut pins s σ H _ v vl vu lo hi sl Q I rx hs pl pu ⟨a, xs, rfl, tz.sq, w, q2⟩
/-- t + u -/
def rSum (K : PySem.W.Frag) : R2 := fun x y H Q => ∃ a b xs ys, x = .ref a ∧ y = .ref b ∧ Tz H a xs ∧ Tz H b ys ∧ xs.length + ys.length ≤ sizeLine ∧ (xs = [] → Q (.ref b) H) ∧ (ys = [] → Q (.ref a) H) ∧ NewT (xs ++ ys) H Q
theorem op_sum : OpR X (binaryOp .Add) (rSum X.K) := by
  intro pins s σ H x y v u Q I rx ry h
  obtain ⟨a, b, xs, ys, rfl, rfl, ta, tb, z, q0, q1, q2⟩ := h
  cases rx
  cases ry
  obtain ⟨its, r1, p1, _⟩ := I.tuple ta.sq
  obtain ⟨its2, r2, p2, _⟩ := I.tuple tb.sq
  by_cases e : xs = []
  · subst e
    cases r1
    exact cat_tup0 p1 p2 ⟨.ref b, H, I, rfl, q0 rfl⟩
  · refine HT.cat_tup p1 p2 (fun w => e (r1.nil_iff.mp w)) (fun w => ⟨.ref a, H, I, rfl, q1 (r2.nil_iff.mp w)⟩) (fun _ => ?_) (by rw [← r1.length, ← r2.length]; exact z)
    exact lay_new I (by rw [List.length_append]; exact z) (r1.append r2) q2
/-- t.m(e, ..), t a tuple made in the run -/
def tTm (r : V → List V → Hp → VK → Prop) (to : TE) (t : TA) : TE := fun σ H Q => to σ H fun x H1 => (∃ a xs, x = .ref a ∧ Tz H1 a xs) ∧ t σ H1 fun ys H2 => r x ys H2 Q
theorem pe_tm {o e : Expr} {es : List Expr} {to : TE} {t : TA} {name : Str} {apos cpos : Pos} {id : String} {r : V → List V → Hp → VK → Prop} (slot : Slot "tuple" name id) (hty : typeOf (.builtin id) = pure (.type "method_descriptor")) (hm : MtR X id r) (ho : PE X o to) (ha : PA X (e :: es) t)
    (hbase : attributeBase o name X.env (eval o X.env) = eval o X.env := by rfl)
    (few : ((backTo cpos (starEach (e :: es) X.env)).all (fun x => !x.1) && (backToKw cpos (keywordEach [] X.env)).all (fun x => x.1.isSome) && decide ((e :: es).length + ([] : List Keyword).length + (if ([] : List Keyword).isEmpty then 0 else 1) < 30)) = true := by rfl)
    (hline : (apos.endLine == cpos.line) = true := by rfl) (hs : starEach (e :: es) X.env = (false, eval e X.env) :: starEach es X.env := by rfl) (hpl : (backTo cpos (starEach es X.env)).any (·.1) = false := by rfl) :
    PE X (.Call (.Attribute o name apos) (e :: es) [] cpos) (tTm r to t) := by
  refine ⟨fun pins s σ H Q I h => wpAny_Call_method_late hbase few hline rfl (thn (ho.run pins s σ H _ I h) fun v s1 ⟨x, H1, I1, r1, ty, q1⟩ => ?_)⟩
  obtain ⟨a, xs, rfl, ob, eo, oc, od⟩ := ty
  cases r1
  have got : s1.heap.get? a = some ob := (show ObjOk X.prog X.w H1 s1.heap a (.frz ob (.tup xs)) from I1.hok a _ eo).1
  refine ⟨"tuple", id, PySem.F.plainAttrs_tuple, slot, hty, ⟨ob, got, oc⟩, fun b eb => by cases eb; exact ⟨ob, got, od⟩, ?_⟩
  have args := ha.run cpos pins s1 σ H1 _ I1 q1
  rw [hs] at args ⊢
  refine Calls.callWith_builtin (by show (false || (backTo cpos (starEach es X.env)).any (·.1)) = false; rw [hpl]; rfl) (Calls.evalArgs_plain (thn args fun us s2 ⟨vs, H2, I2, r2, q2⟩ => ?_))
  exact hm pins s2 σ H2 (.ref a) vs (.ref a) us Q I2 rfl r2 q2
end
end Xt

/-! (x,) * 2: a new tuple made in the run. -/
namespace Xt
open PySem PySem.Spec PyProof.Rows L2 Gy
def rTwoT : R2 := fun x y H Q => ∃ (l : Addr) (z : V), x = .ref l ∧ y = .int 2 ∧ Tz H l [z] ∧ NewT [z, z] H Q
theorem op_twoT {X : Cx} : OpR X (binaryOp .Mult) rTwoT := by
  intro pins s σ H x y v u Q I rx ry h
  obtain ⟨l, z, rfl, rfl, hT, q⟩ := h
  cases rx
  obtain ⟨t, rfl⟩ := ry
  obtain ⟨its, r, ⟨⟨cls, dd, data, sl⟩, ho, hc, n, hd⟩, hs⟩ := I.tuple hT.sq
  simp only at hc hd
  subst hc hd
  obtain ⟨w, rfl, rw_⟩ := vals1 r
  refine wpAny_binaryOp_repeat_ref (T := "tuple") (U := "int") (by decide) ⟨_, ho, rfl⟩ (fun s' => typeIs_int s' 2 t) noFill_tuple_mul PySem.F.fills_int_mul PySem.F.slot_int_rmul repeat_tuple PySem.F.slot_int_index.lookup
    (call_meets PySem.F.slot_int_rmul (typeIs_int s 2 t) PySem.F.entry_int_rmul (PySem.F.args_int_rmul_2 _ _) (int_rmul_tuple 2 t l #[w] n dd sl)
      ⟨ho, rfl, ⟨_, ho, rfl⟩, call_meets PySem.F.slot_tuple_mul ⟨_, ho, rfl⟩ PySem.F.entry_tuple_mul (PySem.F.args_tuple_mul_2 _ _) (tuple_mulW l #[w] n dd sl 2 t (by decide) (by rfl) (by rfl) (by show ¬ ((1 : Int) * 2 > (2 ^ 63 - 1) / 8); decide) (by unfold Builtin.Tuple.tupleTooMany; rw [sizeLine_eq]; rfl) (by rw [sizeLine_eq]; show 2 ≤ _; decide)) ⟨ho, ?_⟩⟩)
  exact lay_new (us := [w, w]) (n := 0) I (by show 2 ≤ sizeLine; decide) (.cons rw_ (.cons rw_ .nil)) q
end Xt

/-! In an except suite: isinstance of the caught error with a tuple of classes. -/
namespace Xl
open PySem PySem.Spec PyProof.Rows L2 Gy Xt
def rIsT (K : PySem.W.Frag) (a : Addr) (cls : Value) (d : Option Addr) : List V → Hp → VK → Prop := fun xs H Q => ∃ (D dd tp : Addr) (fs : List (Str × V)) (cs : List V) (b : Bool),
  xs = [.ref a, .ref tp] ∧ cls = .ref D ∧ d = some dd ∧ H dd = some (.xd fs) ∧ XCl K D ∧ Tz H tp cs ∧ (∀ its, Vals cs its → PySem.W.kitAny K (.ref D) its = some b) ∧ Q (.bl b) H
theorem call_isT {X : Cx} {a : Addr} {oe : Obj} {cls : Value} {d : Option Addr} {pn : List (Addr × Obj)} (cg : PySem.W.specialIn X.K (.builtin "object.__class__") "__get__" = some (some (.builtin "getset_descriptor.__get__")))
    (ct : PySem.W.takesIn X.K (.builtin "object.__class__") = some true) (hz : Zc cls d oe) (hf : ∃ vs, oe.data = .fields vs) : CallR (X.suite a ((a, oe) :: pn)) (.builtin "isinstance") (rIsT X.K a cls d) := by
  intro pins s σ H xs us Q I r h
  obtain ⟨D, dd, tp, fs, cs, b, rfl, rfl, rfl, hd, T, hc, e, q⟩ := h
  obtain ⟨u1, u2, rfl, r1, r2⟩ := vals2 r
  cases r1
  cases r2
  obtain ⟨its, rv, ⟨o, ho, hcl, n, hda⟩, _⟩ := I.tuple hc.sq
  have e' := e its rv
  obtain ⟨ha, _⟩ := I.pin (a, oe) (List.mem_append_left _ List.mem_cons_self)
  obtain ⟨vs, hv⟩ := hf
  obtain ⟨mA, ns, _⟩ := (show ObjOk X.prog X.w H s.heap dd (.xd fs) from I.hok dd _ hd)
  obtain ⟨od, go, _⟩ := lookIn_ns ns
  have cl : (PySem.W.clsIn X.K D).isSome = true := by
    obtain ⟨cd, z, _⟩ := PySem.W.any_some T.hd
    rw [z]
    rfl
  have J : PySem.W.InstAt s.heap a oe D (some od) := by
    obtain ⟨oc, odd, oda, osl⟩ := oe
    obtain ⟨h1, h2⟩ := hz
    dsimp only at h1 h2 hv
    subst h1 h2 hv
    exact ⟨ha, rfl, rfl, go⟩
  obtain ⟨oc, od2, oda, osl⟩ := o
  dsimp only at hcl hda
  subst hcl hda
  exact PySem.W.kia_tup (its := its) (n := n) (PySem.W.kitx_exc cl T.ga T.gg T.ex T.ca cg ct T.ob) I.kIn J ho e' (fun z => nomatch z) fun tk => ⟨.bl b, H, I.tok tk, rfl, q⟩
end Xl

/-! a def that an except suite calls with the caught error. -/
namespace Xl
open PySem PySem.Spec PyProof.Rows L2 L2H Gy Xt
/-- what it is told of the error: where it stands, its class and its dict -/
abbrev SpE := Addr → Value → Option Addr → Sp
structure FnP (P : Program) (w : World) (K : PySem.W.Frag) (mg : Str → Option Value) (base : Heap) (k : Nat) (f : Addr) (fd : FuncData) (ps : List Str) (sp : SpE) : Prop where
  ln : ∀ {a cls d vs H Q E}, sp a cls d vs H Q E → vs.length = ps.length
  go : ∀ {A : Around} {outer : List Env} {s : Shared} {H : Hp} {args : Args} {us : List Value} {vs : List V} {Q : VK} {E : XK} {a : Addr} {oe : Obj} {cls : Value} {d : Option Addr}, RoomH k A → PinOk outer H s (a, oe) → Zc cls d oe → (∃ fs, oe.data = .fields fs) →
    Env0 P w K mg base A outer s H → BindsTo s fd args (ps.zip us) → Vals vs us → sp a cls d vs H Q E → codeAny (model P w) A (.call (.ref f) args) (CR CX0 outer P w H s Q E) s
abbrev bodyP (P : Program) (w : World) (K : PySem.W.Frag) (mg : Str → Option Value) (base : Heap) (N : List Str) (qual : Str) (st : Stmt) (f : Addr) (cdv : Value) (A : Around) (outer : List Env) (s : Shared) (H : Hp) (E : XK) (a : Addr) (oe : Obj) : Cx := cxH CX0 P w K mg base N qual (defScope st) f cdv A outer s H E (a, oe)
section
variable {P : Program} {w : World} {K : PySem.W.Frag} {mg : Str → Option Value} {base : Heap} {k : Nat} {f : Addr} {fd : FuncData} {ps N : List Str} {sp : SpE}
theorem fun_P {x qual : Str} {st : Stmt} (F : Fun K x qual st f fd) (S : FnScope N ps (defScope st)) (ln : ∀ {a cls d vs H Q E}, sp a cls d vs H Q E → vs.length = ps.length)
    (bd : ∀ (cdv : Value) (A : Around) (outer : List Env) (s : Shared) (H : Hp) (vs : List V) (Q : VK) (E : XK) (a : Addr) (oe : Obj) (cls : Value) (d : Option Addr), Zc cls d oe → (∃ fs, oe.data = .fields fs) → RoomH k (A.deeper (envOfC qual (defScope st) s.heap.objs.size f cdv)) → sp a cls d vs H Q E →
      ∃ t, PSs (bodyP P w K mg base N qual st f cdv A outer s H E a oe) (defBody st) t ∧ t { nx := fun _ H' => Q .non H', rt := Q } (L2.start N vs) H) : FnP P w K mg base (k + 1) f fd ps sp := by
  obtain ⟨oc, od, kV, doc, pm, an, cdv, ct, osl, rfl, lk, hcd⟩ := F.ex
  refine ⟨ln, fun {A outer s H args us vs Q E a oe cls d} hr pin hz hf e0 hb rl hsp => ?_⟩
  have up : ∀ b o, base.get? b = some o → s.heap.get? b = some o := fun b o e => (e0.bs b o e).1
  have kin := e0.mod.kin.keeps up
  refine codeAny_call_function hr.depth (kin _ _ lk) rfl S.co S.gen rfl (PySem.W.codeRec_of kin hcd) (hb _ _ _ _ (wpAny_newFunctionEnv_cells S.kind ?_ ?_))
  · rintro ⟨n, v⟩ m
    exact (S.par n (List.of_mem_zip m).1).imp id fun z => ⟨z, PySem.W.cellsFrom_some _ _ _ (.inl z)⟩
  · rintro env rfl s1 y
    refine ⟨(e0.mod.nolimit.keeps up).keeps y.toInCall.keep, codeAny_func ?_⟩
    obtain ⟨t, ht, hq⟩ := bd cdv A outer s H vs Q E a oe cls d hz hf (hr.deeper _) hsp
    refine wpAny_mono (ht.run [] s1 (L2.start N vs) H _ (inv_startH S pin e0 (ln hsp) rl y) hq) ?_ (fun _ _ z => z)
    rintro (_ | _ | _ | u) s' z
    all_goals first
      | (obtain ⟨σ', H', J, q⟩ := z
         exact ⟨V.non, H', J.os, J.bare, J.base, J.hok, rfl, q⟩)
      | (obtain ⟨_, _, _, q⟩ := z
         exact q.elim)
      | (obtain ⟨v, σ', H', J, rv, q⟩ := z
         exact ⟨v, H', J.os, J.bare, J.base, J.hok, rv, q⟩)
end
section
variable {X : Cx} {k : Nat} {f : Addr} {fd : FuncData} {ps : List Str} {sp : SpE} {x : Str} {p pos : Pos} {e : Expr} {es : List Expr} {t : TA} {a : Addr} {oe : Obj} {cls : Value} {d : Option Addr} {pn : List (Addr × Obj)}
/-- f(e, ..) in the suite of an error -/
theorem pe_callP (F : FnP X.prog X.w X.K X.mg X.base k f fd ps sp) (hr : RoomH k (X.suite a ((a, oe) :: pn)).A) (hz : Zc cls d oe) (hf : ∃ fs, oe.data = .fields fs) (hg : Gl (X.suite a ((a, oe) :: pn)) x)
    (hm : X.mg x = some (.ref f)) (hk : PySem.W.keepIn X.K (.ref f) = true) (hb : Binds X.K fd ps []) (ha : PA (X.suite a ((a, oe) :: pn)) (e :: es) t)
    (hdb : (x == ("__debug__" : Str)) = false := by decide) (he : starEach (e :: es) X.env = (false, eval e X.env) :: starEach es X.env := by rfl)
    (hpl : (backTo pos (starEach es X.env)).any (·.1) = false := by rfl) : PE (X.suite a ((a, oe) :: pn)) (.Call (.Name x p) (e :: es) [] pos) (tG (sp a cls d) E0 t) := by
  constructor
  intro pins s σ H Q I h
  refine wpAny_Call_Name_kw (ld_glob I hg hm ?_ hdb)
  refine PySem.W.callWith_K (h₀ := X.base) I.ok.mod.kin hk (thn (ha.run pos pins s σ H _ I h) ?_) he hpl
  rintro us s1 ⟨vs, H1, I1, r, q⟩
  have P1 := I1.pin (a, oe) (List.mem_append_left _ List.mem_cons_self)
  have pk : PinOk (X.suite a ((a, oe) :: pn)).stack H1 s1 (a, oe) := ⟨P1.1, P1.2.1, fun hm => (List.mem_cons.mp (I1.stkSub a hm)).elim P1.2.2.1 P1.2.2.2.1, P1.2.2.2.2⟩
  refine ⟨I1.kIn, wpAny_call (codeAny_mono (F.go (args := ⟨us, []⟩) hr pk hz hf I1.env0 ?_ r q) ?_)⟩
  · have b := hb s1 us I1.kIn (by rw [List.append_nil, ← r.length]; exact F.ln q)
    rwa [List.append_nil] at b
  · rintro (er | (_ | _ | _ | u)) s' z
    · exact (show False from z).elim
    · exact z.elim
    · exact z.elim
    · exact z.elim
    · exact I1.after z
/-! isinstance of the error in such a def -/
theorem call_isSP (ip : (a, oe) ∈ X.pn) (cg : PySem.W.specialIn X.K (.builtin "object.__class__") "__get__" = some (some (.builtin "getset_descriptor.__get__")))
    (ct : PySem.W.takesIn X.K (.builtin "object.__class__") = some true) (hz : Zc cls d oe) (hf : ∃ vs, oe.data = .fields vs) : CallR X (.builtin "isinstance") (rIsS X.K a cls d) := by
  intro pins s σ H xs us Q I r h
  obtain ⟨D, dd, fs, c, cv, b, rfl, rfl, rfl, hd, T, hc, e, q⟩ := h
  obtain ⟨u1, u2, rfl, r1, r2⟩ := vals2 r
  cases r1
  have e2 := hc.eq r2
  subst e2
  obtain ⟨ha, _⟩ := I.pin (a, oe) (List.mem_append_left _ ip)
  obtain ⟨vs, hv⟩ := hf
  obtain ⟨mA, ns, _⟩ := (show ObjOk X.prog X.w H s.heap dd (.xd fs) from I.hok dd _ hd)
  obtain ⟨od, go, _⟩ := lookIn_ns ns
  have cl : (PySem.W.clsIn X.K D).isSome = true := by
    obtain ⟨cd, z, _⟩ := PySem.W.any_some T.hd
    rw [z]
    rfl
  have J : PySem.W.InstAt s.heap a oe D (some od) := by
    obtain ⟨oc, odd, oda, osl⟩ := oe
    obtain ⟨h1, h2⟩ := hz
    dsimp only at h1 h2 hv
    subst h1 h2 hv
    exact ⟨ha, rfl, rfl, go⟩
  exact PySem.W.kia_one (PySem.W.kitx_exc cl T.ga T.gg T.ex T.ca cg ct T.ob) I.kIn J e (fun z => nomatch z) fun tk => ⟨.bl b, H, I.tok tk, rfl, q⟩
theorem call_isTP (ip : (a, oe) ∈ X.pn) (cg : PySem.W.specialIn X.K (.builtin "object.__class__") "__get__" = some (some (.builtin "getset_descriptor.__get__")))
    (ct : PySem.W.takesIn X.K (.builtin "object.__class__") = some true) (hz : Zc cls d oe) (hf : ∃ vs, oe.data = .fields vs) : CallR X (.builtin "isinstance") (rIsT X.K a cls d) := by
  intro pins s σ H xs us Q I r h
  obtain ⟨D, dd, tp, fs, cs, b, rfl, rfl, rfl, hd, T, hc, e, q⟩ := h
  obtain ⟨u1, u2, rfl, r1, r2⟩ := vals2 r
  cases r1
  cases r2
  obtain ⟨its, rv, ⟨o, ho, hcl, n, hda⟩, _⟩ := I.tuple hc.sq
  have e' := e its rv
  obtain ⟨ha, _⟩ := I.pin (a, oe) (List.mem_append_left _ ip)
  obtain ⟨vs, hv⟩ := hf
  obtain ⟨mA, ns, _⟩ := (show ObjOk X.prog X.w H s.heap dd (.xd fs) from I.hok dd _ hd)
  obtain ⟨od, go, _⟩ := lookIn_ns ns
  have cl : (PySem.W.clsIn X.K D).isSome = true := by
    obtain ⟨cd, z, _⟩ := PySem.W.any_some T.hd
    rw [z]
    rfl
  have J : PySem.W.InstAt s.heap a oe D (some od) := by
    obtain ⟨oc, odd, oda, osl⟩ := oe
    obtain ⟨h1, h2⟩ := hz
    dsimp only at h1 h2 hv
    subst h1 h2 hv
    exact ⟨ha, rfl, rfl, go⟩
  obtain ⟨oc, od2, oda, osl⟩ := o
  dsimp only at hcl hda
  subst hcl hda
  exact PySem.W.kia_tup (its := its) (n := n) (PySem.W.kitx_exc cl T.ga T.gg T.ex T.ca cg ct T.ob) I.kIn J ho e' (fun z => nomatch z) fun tk => ⟨.bl b, H, I.tok tk, rfl, q⟩
end
end Xl

/-! Data at any depth, with dicts without entries anywhere in it: how it is read and shown. -/
namespace Gy
open PySem PySem.Spec PyProof.Rows L2 Xt
mutual
inductive Dn (K : PySem.W.Frag) (H : Hp) : V → PyData → Prop
  | non : Dn K H .non .none
  | bl (b : Bool) : Dn K H (.bl b) (.bool b)
  | int (i : Int) : Dn K H (.int i) (.int i)
  | str (x : Str) : Dn K H (.str x) (.str x)
  | lst {a : Addr} {xs : List V} {ds : List PyData} (h : H a = some (.lst xs)) (t : Dns K H xs ds) : Dn K H (.ref a) (.list ds)
  | tup {a : Addr} {xs : List V} {ds : List PyData} (h : Tz H a xs) (t : Dns K H xs ds) : Dn K H (.ref a) (.tuple ds)
  | dic {a : Addr} (h : H a = some (.dK [])) : Dn K H (.ref a) (.dict [])
  | dic1 {a : Addr} (h : H a = some (.dK [(Sum.inr "a", .int 1)])) : Dn K H (.ref a) (.dict [(.str "a", .int 1)])
inductive Dns (K : PySem.W.Frag) (H : Hp) : List V → List PyData → Prop
  | nil : Dns K H [] []
  | cons {v : V} {vs : List V} {d : PyData} {ds : List PyData} (h : Dn K H v d) (t : Dns K H vs ds) : Dns K H (v :: vs) (d :: ds)
end
mutual
theorem Dn.same {K : PySem.W.Frag} {H H' : Hp} (s : Same H H') : ∀ {v : V} {d : PyData}, Dn K H v d → Dn K H' v d
  | _, _, .non => .non
  | _, _, .bl b => .bl b
  | _, _, .int i => .int i
  | _, _, .str x => .str x
  | _, _, .lst h a => .lst (s _ _ h) (Dns.same s a)
  | _, _, .tup h a => .tup (h.same s) (Dns.same s a)
  | _, _, .dic h => .dic (s _ _ h)
  | _, _, .dic1 h => .dic1 (s _ _ h)
theorem Dns.same {K : PySem.W.Frag} {H H' : Hp} (s : Same H H') : ∀ {vs : List V} {ds : List PyData}, Dns K H vs ds → Dns K H' vs ds
  | _, _, .nil => .nil
  | _, _, .cons h t => .cons (Dn.same s h) (Dns.same s t)
end
/-- a dict without entries, as the model has it -/
theorem dict_at {X : Cx} {pins : List (Addr × Obj)} {σ : L2.St} {H : Hp} {s : Shared} (I : Inv X pins σ H s) {a : Addr} (h : H a = some (.dK [])) :
    (a == sysModules) = false ∧ ∃ o es ep, s.heap.get? a = some o ∧ o.cls = .type "dict" ∧ o.data = .dict es ep ∧ es.toList = [] ∧ Reads s.heap (.ref a) (.dict []) [a] := by
  obtain ⟨_, ns, vs, kv, o, es, ep, g1, ex, g2, ks, ps, _⟩ := (show ObjOk X.prog X.w H s.heap a (.dK []) from I.hok a _ h)
  cases kv
  have e : es.toList = [] := by
    generalize es.toList = l at ps
    cases ps
    rfl
  exact ⟨ns, o, es, ep, g1, ex.1, g2, e, .dict g1 ex.1 g2 (as := []) (bs := []) (by rw [e]; exact .nil) (by rw [e]; exact .nil)⟩
/-- a dict with one entry -/
theorem dict_at1 {X : Cx} {pins : List (Addr × Obj)} {σ : L2.St} {H : Hp} {s : Shared} (I : Inv X pins σ H s) {a : Addr} (h : H a = some (.dK [(Sum.inr "a", .int 1)])) :
    (a == sysModules) = false ∧ ∃ o es ep e t1 t2, s.heap.get? a = some o ∧ o.cls = .type "dict" ∧ o.data = .dict es ep ∧ es.toList = [e] ∧ e.key = .str "a" t1 ∧ e.val = .int 1 t2 ∧ Reads s.heap (.ref a) (.dict [(.str "a", .int 1)]) [a] := by
  obtain ⟨_, ns, vs, kv, o, es, ep, g1, ex, g2, ks, ps, _⟩ := (show ObjOk X.prog X.w H s.heap a (.dK [(Sum.inr "a", .int 1)]) from I.hok a _ h)
  obtain ⟨e, t1, t2, e0, e1, e2⟩ : ∃ e t1 t2, es.toList = [e] ∧ e.key = .str "a" t1 ∧ e.val = .int 1 t2 := by
    generalize es.toList = l at ps
    cases kv with
    | cons hk hr =>
      cases hr
      obtain ⟨h1, h2⟩ := hk
      cases ps with
      | cons p1 p2 p3 =>
        cases p3
        rw [← h1] at p1
        rcases keyIs_shape (show keyIs (Sum.inr "a") _ = true from p1) with ⟨j, t, q, _⟩ | ⟨x, t, q, q2⟩
        · cases q
        · cases q
          obtain ⟨t2, h2⟩ := h2
          exact ⟨_, t, t2, rfl, q2, p2.trans h2⟩
  refine ⟨ns, o, es, ep, e, t1, t2, g1, ex.1, g2, e0, e1, e2, ?_⟩
  have q := Reads.dict g1 ex.1 g2 (kvs := [(.str "a", .int 1)]) (as := [] ++ []) (bs := [] ++ []) (by rw [e0, List.map_singleton, e1]; exact .cons (.str "a" t1) .nil) (by rw [e0, List.map_singleton, e2]; exact .cons (.int 1 t2) .nil)
  exact q
section
variable {X : Cx} {pins : List (Addr × Obj)} {σ : L2.St} {H : Hp} {s : Shared}
mutual
theorem Dn.shows (I : Inv X pins σ H s) : ∀ {v : V} {d : PyData} {u : Value}, Dn X.K H v d → RelV v u → d.showable = true → d.shown.length ≤ sizeLine →
    ∃ as bs, Reads s.heap u d as ∧ ReadAtMost s.heap d.depth bs ∧ ReprK X.prog X.w bs s.heap d.depth u d.shown
  | _, _, _, .non, r, hs, hz => by
    cases r
    obtain ⟨bs, h1, h2⟩ := ReprK.of_reads (prog := X.prog) (w := X.w) (h₀ := s.heap) Reads.none hs (fun z => nomatch z) hz
    exact ⟨_, bs, .none, h1, h2⟩
  | _, _, _, .bl b, r, hs, hz => by
    cases r
    obtain ⟨bs, h1, h2⟩ := ReprK.of_reads (prog := X.prog) (w := X.w) (h₀ := s.heap) (Reads.bool b) hs (fun z => nomatch z) hz
    exact ⟨_, bs, .bool b, h1, h2⟩
  | _, _, _, .int i, r, hs, hz => by
    obtain ⟨t, rfl⟩ := r
    obtain ⟨bs, h1, h2⟩ := ReprK.of_reads (prog := X.prog) (w := X.w) (h₀ := s.heap) (Reads.int i t) hs (fun z => nomatch z) hz
    exact ⟨_, bs, .int i t, h1, h2⟩
  | _, _, _, .str x, r, hs, hz => by
    obtain ⟨t, rfl⟩ := r
    obtain ⟨bs, h1, h2⟩ := ReprK.of_reads (prog := X.prog) (w := X.w) (h₀ := s.heap) (Reads.str x t) hs (fun z => nomatch z) hz
    exact ⟨_, bs, .str x t, h1, h2⟩
  | _, _, _, .lst (a := a) (ds := ds) h ha, r, hs, hz => by
    cases r
    have hz' : (listText (PyData.shownAll ds)).length ≤ sizeLine := by simpa only [PyData.shown] using hz
    obtain ⟨its, rv, ⟨o, n, ho, hc, _, hd⟩, _⟩ := I.list (SqL.of h)
    obtain ⟨as, bs, hr, hb, hk⟩ := Dns.shows I ha rv (by simpa [PyData.showable] using hs) (fun t ht => Nat.le_trans (listText_mem_le ht) hz')
    have q : Reads s.heap (.ref a) (.list ds) _ := .list ho hc hd hr
    have hna : a ∉ bs := not_mem_of_deeper q (by simp only [PyData.depth]; omega) hb
    refine ⟨_, a :: bs, q, ReadAtMost.cons q (by simp only [PyData.depth]; omega) hb, ?_⟩
    simp only [PyData.depth, PyData.shown]
    cases its with
    | nil =>
      cases hr
      simp only [PyData.shownAll, listText_nil]
      exact ReprK.listEmpty ho hc hd
    | cons x l => exact ReprK.list ho hc hd hna (by simpa using hk.length_eq) (fun i y e => hk.item i y (by simpa using e))
  | _, _, _, .tup (a := a) (ds := ds) h ha, r, hs, hz => by
    cases r
    have hz' : (tupleText (PyData.shownAll ds)).length ≤ sizeLine := by simpa only [PyData.shown] using hz
    obtain ⟨its, rv, ⟨o, ho, hc, n, hd⟩, _⟩ := I.tuple h.sq
    obtain ⟨as, bs, hr, hb, hk⟩ := Dns.shows I ha rv (by simpa [PyData.showable] using hs) (fun t ht => Nat.le_trans (tupleText_mem_le ht) hz')
    have q : Reads s.heap (.ref a) (.tuple ds) _ := .tuple ho hc hd hr
    have hna : a ∉ bs := not_mem_of_deeper q (by simp only [PyData.depth]; omega) hb
    refine ⟨_, a :: bs, q, ReadAtMost.cons q (by simp only [PyData.depth]; omega) hb, ?_⟩
    simp only [PyData.depth, PyData.shown]
    exact ReprK.tuple ho hc hd hna hk
  | _, _, _, .dic (a := a) h, r, hs, hz => by
    cases r
    obtain ⟨ns, o, es, ep, ho, hc, hd, he, q⟩ := dict_at I h
    refine ⟨_, [a], q, ReadAtMost.cons q (n := 0) (Nat.zero_le _) (fun _ z => nomatch z), ?_⟩
    exact ReprK.dict (as := []) (d := 0) (ps := []) ho hc hd ns (fun z => nomatch z) (by rw [he]; exact .nil)
  | _, _, _, .dic1 (a := a) h, r, hs, hz => by
    cases r
    obtain ⟨ns, o, es, ep, e, t1, t2, ho, hc, hd, he, e1, e2, q⟩ := dict_at1 I h
    obtain ⟨bs, h1, h2⟩ := ReprK.of_reads (prog := X.prog) (w := X.w) (h₀ := s.heap) q hs (fun _ z => by
      rw [List.mem_singleton] at z
      rw [← z] at ns
      cases ns) hz
    exact ⟨_, bs, q, h1, h2⟩
theorem Dns.shows (I : Inv X pins σ H s) : ∀ {vs : List V} {ds : List PyData} {us : List Value}, Dns X.K H vs ds → Vals vs us → PyData.showableAll ds = true → (∀ t ∈ PyData.shownAll ds, t.length ≤ sizeLine) →
    ∃ as bs, ReadsAll s.heap us ds as ∧ ReadAtMost s.heap (PyData.depthAll ds) bs ∧ ReprAllK X.prog X.w bs s.heap (PyData.depthAll ds) us (PyData.shownAll ds)
  | _, _, _, .nil, .nil, _, _ => ⟨[], [], .nil, (fun _ h => nomatch h), .nil⟩
  | _, _, _, .cons (d := d) (ds := ds) h hs, .cons r rs, sh, len => by
    have sh2 : d.showable = true ∧ PyData.showableAll ds = true := by simpa only [PyData.showableAll, Bool.and_eq_true] using sh
    obtain ⟨as, b1, rd, m1, k1⟩ := Dn.shows I h r sh2.1 (len _ List.mem_cons_self)
    obtain ⟨as2, b2, rd2, m2, k2⟩ := Dns.shows I hs rs sh2.2 fun t ht => len t (List.mem_cons_of_mem _ ht)
    have l1 : d.depth ≤ PyData.depthAll (d :: ds) := Nat.le_max_left _ _
    have l2 : PyData.depthAll ds ≤ PyData.depthAll (d :: ds) := Nat.le_max_right _ _
    refine ⟨as ++ as2, b1 ++ b2, .cons rd rd2, (m1.mono l1).append (m2.mono l2), ?_⟩
    exact .cons ((k1.more fun b hb => List.mem_append_left _ hb).level_le l1) (k2.more_le (fun b hb => List.mem_append_right _ hb) l2)
end
end
/-- repr of any such value -/
def rReprN (K : PySem.W.Frag) : List V → Hp → VK → Prop := fun xs H Q => ∃ v d, xs = [v] ∧ Dn K H v d ∧ d.showable = true ∧ d.depth ≤ 60 ∧ d.shown.length ≤ sizeLine ∧ Q (.str d.shown) H
theorem repr_dn {X : Cx} (hg : X.A.guards = some []) (hu : X.A.units + 70 < cLine) : CallR X (.builtin "repr") (rReprN X.K) := by
  intro pins s σ H xs us Q I r h
  obtain ⟨v, d, rfl, dn, sh, dp, len, q⟩ := h
  obtain ⟨u, rfl, ru⟩ := vals1 r
  have fin : ∀ (h' : Heap) (x : Tok) (tk : Nat), (∀ b o, s.heap.get? b = some o → h'.get? b = some o) → ∃ y H', Inv X pins σ H' { s with heap := h', toks := tk } ∧ RelV y (.str d.shown x) ∧ Q y H' := fun h' x tk hk => ⟨.str d.shown, H, I.kept hk, ⟨x, rfl⟩, q⟩
  cases dn with
  | non =>
    cases ru
    exact P.repr_of_none ⟨.str "None", H, I.tok _, ⟨_, rfl⟩, q⟩
  | bl b =>
    cases ru
    exact P.repr_of_bool ⟨.str (PyData.shown (.bool b)), H, I.tok _, ⟨_, by cases b <;> rfl⟩, q⟩
  | int i =>
    obtain ⟨t, rfl⟩ := ru
    exact P.repr_of_int (by simpa [PyData.showable] using sh) ⟨.str (toString i), H, I.tok _, ⟨_, rfl⟩, q⟩
  | str x =>
    obtain ⟨t, rfl⟩ := ru
    exact P.repr_of_str ⟨.str (reprText x), H, I.tok _, ⟨_, rfl⟩, q⟩ len
  | @lst a ys ds h ha =>
    cases ru
    have len' : (listText (PyData.shownAll ds)).length ≤ sizeLine := by simpa only [PyData.shown] using len
    obtain ⟨its, rv, ⟨o, n, g1, g2, _, g3⟩, _⟩ := I.list (SqL.of h)
    obtain ⟨as, bs, rd, at_, sw⟩ := Dns.shows I ha rv (by simpa [PyData.showable] using sh) fun t ht => Nat.le_trans (listText_mem_le ht) len'
    have out : a ∉ bs := not_mem_of_deeper (.list g1 g2 g3 rd) (by simp only [PyData.depth]; omega) at_
    refine call_repr_slot (T := "list") (idr := "list.__repr__") (by omega) ⟨o, g1, g2⟩ F.slot_list_repr.toG ?_
    match its, rv, g3, rd, sw with
    | [], rv, g3, rd, _ =>
      cases rd
      exact call_list_repr_empty ⟨o, g1, g2⟩ g1 g3 ⟨_, _, rfl, .str "[]", H, I.tok _, ⟨_, rfl⟩, by simpa only [PyData.shown, PyData.shownAll, listText_nil] using q⟩
    | x :: rest, _, g3, _, sw =>
      refine call_list_reprK g1 g2 g3 out (by simpa using sw.length_eq) (fun i y e => sw.item i y (by simpa using e)) (g := []) hg (fun b _ => Clear.nil b) (d := PyData.depthAll ds) ?_ (fun _ _ e => e) (fun h' u tk hk => ⟨_, _, rfl, fin h' u tk hk⟩) len'
      simp only [PyData.depth] at dp
      show X.A.units + 1 + (PyData.depthAll ds + 1) < cLine
      omega
  | @tup a ys ds h ha =>
    cases ru
    have len' : (tupleText (PyData.shownAll ds)).length ≤ sizeLine := by simpa only [PyData.shown] using len
    obtain ⟨its, rv, ⟨o, g1, g2, n, g3⟩, _⟩ := I.tuple h.sq
    obtain ⟨as, bs, rd, at_, sw⟩ := Dns.shows I ha rv (by simpa [PyData.showable] using sh) fun t ht => Nat.le_trans (tupleText_mem_le ht) len'
    have out : a ∉ bs := not_mem_of_deeper (.tuple g1 g2 g3 rd) (by simp only [PyData.depth]; omega) at_
    refine call_repr_slot (T := "tuple") (idr := "tuple.__repr__") (by omega) ⟨o, g1, g2⟩ F.slot_tuple_repr ?_
    refine call_tuple_reprK g1 g2 g3 out sw (g := []) hg (fun b _ => Clear.nil b) (d := PyData.depthAll ds) ?_ (fun _ _ e => e) (fun h' u tk hk => ⟨_, _, rfl, fin h' u tk hk⟩) len'
    simp only [PyData.depth] at dp
    show X.A.units + 1 + (PyData.depthAll ds + 1) < cLine
    omega
  | @dic a h =>
    cases ru
    obtain ⟨ns, o, es, ep, g1, g2, g3, he, _⟩ := dict_at I h
    refine call_repr_slot (T := "dict") (idr := "dict.__repr__") (by omega) ⟨o, g1, g2⟩ F.slot_dict_repr ?_
    refine call_dict_reprK (as := []) (d := 0) (ps := []) g1 g2 g3 ns (fun z => nomatch z) (by rw [he]; exact .nil) (g := []) hg (fun b _ => Clear.nil b) ?_ (fun _ _ e => e) (fun h' u tk hk => ⟨_, _, rfl, fin h' u tk hk⟩) len
    show X.A.units + 1 + (0 + 1) < cLine
    omega
  | @dic1 a h =>
    cases ru
    obtain ⟨ns, o, es, ep, e, t1, t2, g1, g2, g3, he, e1, e2, rd⟩ := dict_at1 I h
    obtain ⟨b1, m1, k1⟩ := ReprK.of_reads (prog := X.prog) (w := X.w) (h₀ := s.heap) (Reads.str "a" t1) rfl (fun z => nomatch z) (by decide +kernel)
    obtain ⟨b2, m2, k2⟩ := ReprK.of_reads (prog := X.prog) (w := X.w) (h₀ := s.heap) (Reads.int 1 t2) (by decide +kernel) (fun z => nomatch z) (by decide +kernel)
    have out : a ∉ b1 ++ b2 := not_mem_of_deeper (n := 0) rd (by decide) (m1.append m2)
    refine call_repr_slot (T := "dict") (idr := "dict.__repr__") (by omega) ⟨o, g1, g2⟩ F.slot_dict_repr ?_
    refine call_dict_reprK (as := b1 ++ b2) (d := 0) (ps := [reprText "a" ++ ": " ++ PyData.shown (.int 1)]) g1 g2 g3 ns out (by rw [he]; exact .cons (by rw [e1]; exact k1.more fun b hb => List.mem_append_left _ hb) (by rw [e2]; exact k2.more fun b hb => List.mem_append_right _ hb) .nil) (g := []) hg (fun b _ => Clear.nil b) ?_ (fun _ _ e => e) (fun h' u tk hk => ⟨_, _, rfl, fin h' u tk hk⟩) len
    show X.A.units + 1 + (0 + 1) < cLine
    omega
end Gy

/-! len(set(t)) of a tuple of texts, of any number of them. -/
namespace Xs
open PySem PySem.Spec PyProof.Rows L2
/-- how many different ones the first i are -/
def numd (xs : List Str) : Nat → Nat
  | 0 => 0
  | i + 1 => if xs.getD i Str.empty ∈ xs.take i then numd xs i else numd xs i + 1
theorem numd_le (xs : List Str) : ∀ i, numd xs i ≤ i
  | 0 => Nat.le_refl _
  | i + 1 => by
    have := numd_le xs i
    unfold numd
    split <;> omega
theorem numd_full (xs : List Str) : ∀ i, i ≤ xs.length → (numd xs i = i ↔ (xs.take i).Nodup)
  | 0, _ => by simp [numd]
  | i + 1, hi => by
    have lt : i < xs.length := hi
    have ih := numd_full xs i (Nat.le_of_lt lt)
    have le := numd_le xs i
    have e : xs.getD i Str.empty = xs[i] := by rw [List.getD_eq_getElem?_getD, List.getElem?_eq_getElem lt]; rfl
    have t : xs.take (i + 1) = xs.take i ++ [xs[i]] := by rw [List.take_add_one, List.getElem?_eq_getElem lt]; rfl
    unfold numd
    rw [e, t]
    by_cases m : xs[i] ∈ xs.take i
    · rw [if_pos m]
      refine ⟨fun z => by omega, fun z => ?_⟩
      rw [List.nodup_append] at z
      exact absurd rfl (z.2.2 _ m _ List.mem_cons_self)
    · rw [if_neg m]
      refine ⟨fun z => ?_, fun z => ?_⟩
      · rw [List.nodup_append]
        refine ⟨ih.mp (by omega), by simp, fun a ha b hb ab => ?_⟩
        rw [List.mem_singleton.mp hb] at ab
        exact m (ab ▸ ha)
      · rw [List.nodup_append] at z
        rw [ih.mpr z.1]
section
variable {P : Program} {w : World} {A : Around} {R : Result → Shared → Prop} {J : Addr} {fp wr : List Addr} {G : Array GenState → Array GenState → Prop} {n : Nat} {Y : Nat → Value → Prop} {Z : Nat → Shared → Prop}
/-- the set takes text after text -/
theorem take_texts (W : WalksS P w A.in1 J fp wr G n Y Z) (S : Addr) (out : S ∉ fp) (xs : List Str) (len : xs.length = n) (room : n + 1 < scanBound) (val : ∀ i v, Y i v → ∃ t, v = .str (xs.getD i Str.empty) t) :
    ∀ (k i : Nat) (s : Shared), n - i = k → i ≤ n → Z i s → s.heap.SetOf (strKind P w) S (fun x => decide (x ∈ xs.take i)) (numd xs i) →
      (∀ s2, Moved (S :: wr) G s s2 → s2.heap.SetOf (strKind P w) S (fun x => decide (x ∈ xs.take n)) (numd xs n) → R (.ok (.ret .none)) s2) →
      codeAny (model P w) A (.builtin "set.update.loop" ⟨[.ref S, .ref J], []⟩) R s := by
  have out2 : S ∉ wr := fun h => out (W.sub _ h)
  have more : ∀ b ∈ wr, b ∈ S :: wr := fun b hb => List.mem_cons_of_mem _ hb
  intro k
  induction k with
  | zero =>
    intro i s ek le z hS fin
    obtain rfl : i = n := by omega
    refine codeAny_builtin PyProof.Rows.F.entry_set_update_loop ?_; rw [Around.under_plainId PyProof.Rows.F.plain_set_update_loop _]
    show wpAny _ A.in1 (pyNext (.ref J) >>= _) _ _ s
    refine wpAny_bind (W.done s _ _ z fun s2 mv => ?_)
    obtain ⟨o, es, ep, t, ho, rest⟩ := hS
    exact wpAny_pure (fin s2 (mv.mono more) ⟨o, es, ep, t, mv.heap S _ out2 ho, rest⟩)
  | succ k ih =>
    intro i s ek le z hS fin
    have lt : i < n := by omega
    refine codeAny_builtin PyProof.Rows.F.entry_set_update_loop ?_; rw [Around.under_plainId PyProof.Rows.F.plain_set_update_loop _]
    show wpAny _ A.in1 (pyNext (.ref J) >>= _) _ _ s
    refine wpAny_bind (W.item i s _ _ lt z fun v s2 hY z2 mv => ?_)
    obtain ⟨t, rfl⟩ := val i v hY
    have hS2 : s2.heap.SetOf (strKind P w) S (fun x => decide (x ∈ xs.take i)) (numd xs i) := by
      obtain ⟨o, es, ep, tb, ho, rest⟩ := hS
      exact ⟨o, es, ep, tb, mv.heap S _ out2 ho, rest⟩
    show wpAny _ A.in1 (holding [Value.str (xs.getD i Str.empty) t] (setAdd S (.str (xs.getD i Str.empty) t)) >>= _) _ _ s2
    refine wpAny_bind (wpAny_holding ?_); unfold setAdd; refine wpAny_holding ?_
    refine wpAny_bind ((strKind P w).pyHash (k := xs.getD i Str.empty) (strKind_is _ _ _ _) ?_)
    have nl := numd_le xs i
    refine wpAny_setAddHashed_of (knd := strKind P w) (s := { s2 with toks := s2.toks + 1 }) (strKind_is _ _ _ _) rfl hS2 (by omega) fun h3 sb hS3 => ?_
    have hS4 : h3.SetOf (strKind P w) S (fun x => decide (x ∈ xs.take (i + 1))) (numd xs (i + 1)) := by
      have lt' : i < xs.length := by omega
      have e : xs.getD i Str.empty = xs[i] := by rw [List.getD_eq_getElem?_getD, List.getElem?_eq_getElem lt']; rfl
      have t : xs.take (i + 1) = xs.take i ++ [xs[i]] := by rw [List.take_add_one, List.getElem?_eq_getElem lt']; rfl
      refine SetOf_congr hS3 (fun x => ?_) ?_
      · show (decide (x ∈ xs.take i) || decide (x = xs.getD i Str.empty)) = decide (x ∈ xs.take (i + 1))
        rw [e, ← Bool.decide_or]
        congr 1
        rw [t, List.mem_append, List.mem_singleton]
      · show _ = if xs.getD i Str.empty ∈ xs.take i then numd xs i else numd xs i + 1
        simp only [decide_eq_true_eq]
    refine wpAny_pure ⟨plainId_quiet PyProof.Rows.F.plain_set_update_loop _, ih (i + 1) _ (by omega) lt (W.frame _ s2 _ _ z2 (Nat.le_succ _) fun b hb o e => ?_) hS4 fun s4 mv4 hS5 => ?_⟩
    · rw [sb.2 b (fun h : b = S => out (h ▸ hb))]
      exact e
    · refine fin s4 (Moved.trans W.gtrans ((mv.mono more).then_heap (Nat.le_succ _) fun b o hb e => ?_) mv4) hS5
      rw [sb.2 b (fun h : b = S => hb (h ▸ List.mem_cons_self))]
      exact e
end
/-- the set before anything is in it -/
def set0 (b : Bool) : Obj := { cls := .type "set", dict := none, data := .set #[] 0 (.fresh 0 0 b) }
section
variable {P : Program} {w : World} {A : Around} {E : Value → Shared → Prop} {s : Shared}
set_option maxHeartbeats 3200000 in
theorem set_of_texts {l : Addr} {its : Array Value} {xs : List Str} {Q : Value → Shared → Prop} (calm : A.handled = none) (at_ : s.heap.IsTuple l its) (are : StrsAre its.toList xs) (room : xs.length + 1 < scanBound)
    (fin : ∀ (h2 : Heap) (tk : Nat), h2.SetOf (strKind P w) s.heap.objs.size (fun x => decide (x ∈ xs)) (numd xs xs.length) → (∀ b o, b < s.heap.objs.size → s.heap.get? b = some o → h2.get? b = some o) → Q (.ref s.heap.objs.size) { s with heap := h2, toks := tk }) :
    wpAny (model P w) A (call (.type "set") [.ref l]) Q E s := by
  have sz : xs.length = its.size := by rw [← StrsAre.len_eq are, Array.length_toList]
  obtain ⟨_, _, m0⟩ := PySem.F.called_set.mro
  have m1 := PySem.F.called_set.made; have m2 := PySem.F.called_set.sub
  refine wpAny_call (codeAny_of_tree ?_); show wpAny _ _ (callAny (.type "set") _) _ _ _
  refine wpAny_pure ⟨Code.quiet_builtin _ (by decide +kernel), codeAny_builtin PySem.F.entry_type_call ?_⟩; rw [Around.under_plain (weight_type_call_type "set" [.ref l] []) rfl]
  have m3 := PySem.F.called_set.notType; have m4 := PySem.F.called_set.canCreate; have m5 := PySem.F.typeCall_set_1 (.ref l)
  repeat (any_goals (first | assumption | wp_step))
  refine codeAny_mono (code_set_new_1 (.ref l) (E := E) (Q₁ := fun ob s1 => ∃ led : Bool, ob = .ref s.heap.objs.size ∧ s1 = { s with heap := s.heap.push (set0 led) }) fun led => ⟨led, rfl, rfl⟩) fun r s1 hr => ?_
  rcases r with e | (_ | _ | _ | ob)
  · exact hr
  · exact hr.elim
  · exact hr.elim
  · exact hr.elim
  obtain ⟨led, rfl, rfl⟩ := hr
  have got : (s.heap.push (set0 led)).get? s.heap.objs.size = some (set0 led) := Heap.get?_push_size _ rfl
  have ty : Shared.TypeIs { s with heap := s.heap.push (set0 led) } (.ref s.heap.objs.size) "set" := ⟨_, got, rfl⟩
  have m6 := PySem.F.called_set.init.lookup; have m7 := PySem.F.called_set.init.bind (.ref s.heap.objs.size)
  repeat (any_goals (first | assumption | wp_step))
  refine codeAny_mono (codeAny_call_builtin (R := wants (fun r s2 => r = .none ∧ ∃ h2 tk, s2 = { s with heap := h2, toks := tk } ∧ h2.SetOf (strKind P w) s.heap.objs.size (fun x => decide (x ∈ xs)) (numd xs xs.length) ∧
      (∀ b o, b < s.heap.objs.size → s.heap.get? b = some o → h2.get? b = some o)) E) PySem.F.called_set.init.plain PySem.F.entry_set_init (check_set_init_1 ty ?_)) fun r2 s2 hr2 => ?_
  · obtain ⟨ol, go, co, nl, dl⟩ := at_
    obtain ⟨ocls, odict, odata, oslots⟩ := ol
    simp only at co dl
    subst co dl
    have go2 : (s.heap.push (set0 led)).get? l = some { cls := .type "tuple", dict := odict, data := .seq its nl, slots := oslots } := Heap.get?_push_of_some _ go
    have m8 := PySem.F.sub_tuple_set; have m9 := PySem.F.sub_tuple_frozenset
    have m10 : (Value.type "tuple" == Value.type "dict") = false := by decide
    have at2 : (s.heap.push (set0 led)).IsTuple l its := ⟨_, go2, rfl, nl, rfl⟩
    unfold Builtin.«set.__init__» noKeywords Builtin.Frozenset.updateFrom; generalize ePI : pyIter = PI
    wp_walk
    subst ePI
    refine wpAny_pyIter_tuple at2 (wpAny_bind (wpAny_runValue ?_))
    have low : l < s.heap.objs.size := Heap.lt_size go
    have calm3 : A.in1.in1.in1.handled = none := by simp [calm]
    have far : l ≠ (s.heap.push (set0 led)).objs.size := by rw [Heap.size_push]; exact Nat.ne_of_lt (Nat.lt_succ_of_lt low)
    have out : s.heap.objs.size ∉ [(s.heap.push (set0 led)).objs.size, l] := by
      rw [Heap.size_push]
      simp only [List.mem_cons, List.not_mem_nil, or_false, not_or]
      exact ⟨Nat.ne_of_lt (Nat.lt_succ_self _), Nat.ne_of_gt low⟩
    refine take_texts ((Walks.tuple calm3 _ l far its).toS) s.heap.objs.size out xs sz (by rw [← sz]; exact room) (fun i v hv => SS.strs_at are i v (by rw [Array.getElem?_toList]; exact hv)) (its.size - 0) 0 _ (by omega) (Nat.zero_le _)
      ⟨⟨_, Heap.get?_push_size _ rfl, rfl, rfl⟩, at2.push _⟩ ?first ?last
    case first =>
      have got2 : ((s.heap.push (set0 led)).push { cls := .type "tuple_iterator", data := .fields #[.ref l, .int 0 0] }).get? s.heap.objs.size = some (set0 led) := Heap.get?_push_of_some _ got
      exact SetOf_congr ((setObjOf_fresh (knd := strKind P w) led).setOf got2 (by unfold scanBound; omega)) (fun _ => rfl) rfl
    case last =>
      intro s2 mv hS
      obtain ⟨h2, g2, d2, tk2, os2⟩ := s2
      obtain rfl : g2 = s.gens := mv.gens
      obtain rfl : d2 = s.drawn := mv.drawn
      obtain rfl : os2 = s.os := mv.os
      rw [← sz, List.take_of_length_le (Nat.le_refl _)] at hS
      show wpAny _ _ _ _ _ _
      refine wpAny_pure (wpAny_pure ⟨rfl, h2, tk2, rfl, hS, fun b o lb e => ?_⟩)
      refine mv.heap b o ?_ (Heap.get?_push_of_some _ (Heap.get?_push_of_some _ e))
      rw [Heap.size_push]
      simp only [List.mem_cons, List.not_mem_nil, or_false, not_or]
      exact ⟨Nat.ne_of_lt lb, Nat.ne_of_lt (Nat.lt_succ_of_lt lb)⟩
  · rcases r2 with e | (_ | _ | _ | r)
    · exact hr2
    · exact hr2.elim
    · exact hr2.elim
    · exact hr2.elim
    obtain ⟨rfl, h2, tk, rfl, hS, keep⟩ := hr2
    repeat (any_goals (first | assumption | wp_step))
    exact fin _ _ hS keep
end
section
variable {X : Cx}
/-- len(set(t)), t a tuple of texts -/
def tLenTexts (K : PySem.W.Frag) (ta : TE) : TE := fun σ H Q => ta σ H fun x H1 => ∃ (l : Addr) (xs : List Str), x = .ref l ∧ SqT K H1 l (xs.map V.str) ∧ xs.length ≤ 4000 ∧ Q (.int (numd xs xs.length : Nat)) H1
theorem pe_lenTexts {a : Expr} {ta : TE} {p p2 q pos : Pos} (hg : Gl X "len") (hm : X.mg "len" = none) (hg2 : Gl X "set") (hm2 : X.mg "set" = none) (ha : PE X a ta) (calm : X.calm = true := by rfl)
    (na : starEach [a] X.env = (false, eval a X.env) :: starEach [] X.env := by rfl) : PE X (.Call (.Name "len" p) [.Call (.Name "set" p2) [a] [] q] [] pos) (tLenTexts X.K ta) := by
  refine ⟨fun pins s σ H Q I h => Call_ (ld_blt I hg hm boot_len ?_)⟩
  refine PyProof.Rows.callWith_builtin1 (PyProof.Rows.args_cons (Call_ (ld_blt I hg2 hm2 boot_set ?_)) rfl) rfl rfl
  refine PyProof.Rows.callWith_type1 (PyProof.Rows.args_cons (thn (ha.run pins s σ H _ I h) fun v s1 ⟨x, H1, I1, r1, q1⟩ => PyProof.Rows.args_nil ?_) na) na rfl
  obtain ⟨l, xs, rfl, sq, le, q1⟩ := q1
  cases r1
  obtain ⟨its, r, pl, _⟩ := I1.tuple sq
  refine set_of_texts (I1.ok.hd calm) pl (by simpa using strsAre_of r) (by unfold scanBound; omega) fun h2 tk hS keep => ?_
  refine PyProof.Rows.args_nil ?_
  obtain ⟨o, es, ep, t, ho, ex, hd, _, _, _, hf, hn⟩ := hS
  have I2 : Inv X pins σ H1 { s1 with heap := h2, toks := tk } := I1.kept fun b o e => keep b o (Heap.lt_size e) e
  have nl := numd_le xs xs.length
  exact call_len_set ho ex hd hf (by rw [hn]; omega) ⟨.int (numd xs xs.length : Nat), H1, I2.tok _, ⟨_, by rw [hn]⟩, q1⟩
end
end Xs

/-! A tuple turned about: t[::-1]. Tuples, and any value, compared. -/
namespace Xt
open PySem PySem.Spec PyProof.Rows L2 Gy
theorem back_ends (n : Nat) : Builtin.Slice.sliceAdjust none none (-1) (n : Int) = ((n : Int) - 1, -1) := rfl
theorem back_places (n : Nat) : Builtin.Slice.slicePlaces ((n : Int) - 1) (-1) (-1) = n := by
  unfold Builtin.Slice.slicePlaces
  rw [if_neg (by decide)]
  by_cases h : n = 0
  · subst h
    rfl
  · rw [if_pos (by omega), show (- -1 : Int) = 1 from rfl, Int.ediv_one]
    omega
theorem back_pick (xs : Array Value) : ((List.range xs.size).filterMap fun (m : Nat) => xs[(((xs.size : Int) - 1) + (m : Int) * (-1)).toNat]?).toArray = xs.toList.reverse.toArray := by
  congr 1
  refine List.ext_getElem? fun i => ?_
  have key : ∀ k, k ≤ xs.size → (List.range k).filterMap (fun (m : Nat) => xs[(((xs.size : Int) - 1) + (m : Int) * (-1)).toNat]?) = xs.toList.reverse.take k := by
    intro k
    induction k with
    | zero => intro _; rfl
    | succ k ih =>
      intro hk
      have lt : xs.size - 1 - k < xs.size := by omega
      have e : (((xs.size : Int) - 1) + (k : Int) * (-1)).toNat = xs.size - 1 - k := by omega
      have g : xs.toList.reverse[k]? = some xs[xs.size - 1 - k] := by
        have l : k < xs.toList.reverse.length := by
          rw [List.length_reverse, Array.length_toList]
          omega
        rw [List.getElem?_eq_getElem l, List.getElem_reverse]
        simp
      rw [List.range_succ, List.filterMap_append, ih (by omega), List.take_add_one, g]
      congr 1
      rw [List.filterMap_cons_some (b := xs[xs.size - 1 - k]) (by rw [e]; exact Array.getElem?_eq_getElem lt)]
      rfl
  rw [key xs.size (Nat.le_refl _), List.take_of_length_le (by rw [List.length_reverse, Array.length_toList]; exact Nat.le_refl _)]
section
variable {prog : Program} {w : World} {A : Around} {E : Value → Shared → Prop} {s : Shared}
theorem applied_back {sl : Addr} {vl vu vs : Value} {n : Nat} {Q : Int × Int × Nat → Shared → Prop} (hs : s.heap.IsSliceOf sl vl vu vs) (pl : IsPart vl none) (pu : IsPart vu none) (ps : IsPart vs (some (-1)))
    (h : Q ((n : Int) - 1, -1, n) s) : wpAny (model prog w) A (Builtin.Slice.sliceApplied (.ref sl) (pure (n : Int))) Q E s := by
  obtain ⟨o, e1, e2, e3⟩ := id hs
  unfold Builtin.Slice.sliceApplied Builtin.Slice.sliceFields
  refine wpAny_bind (wpAny_bind (wpAny_field e1 e3 (x := vl) rfl ?_))
  refine wpAny_bind (wpAny_field e1 e3 (x := vu) rfl ?_)
  refine wpAny_bind (wpAny_field e1 e3 (x := vs) rfl (wpAny_pure ?_))
  refine wpAny_bind (HT.slicePart_ ps ?_)
  show wpAny _ _ (if ((-1 : Int) == 0) = true then _ else _) _ _ s
  rw [if_neg (by decide)]
  refine wpAny_bind (HT.slicePart_ pl ?_)
  refine wpAny_bind (HT.slicePart_ pu ?_)
  refine wpAny_bind (wpAny_pure ?_)
  show wpAny _ _ (pure ((Builtin.Slice.sliceAdjust none none (-1) (n : Int)).1, (-1 : Int), Builtin.Slice.slicePlaces (Builtin.Slice.sliceAdjust none none (-1) (n : Int)).1 (Builtin.Slice.sliceAdjust none none (-1) (n : Int)).2 (-1))) _ _ s
  rw [back_ends, back_places]
  exact wpAny_pure h
theorem item_back {t sl : Addr} {items : Array Value} {vl vu vs : Value} {Q : Value → Shared → Prop} (ht : IsTup s.heap t items) (hs : s.heap.IsSliceOf sl vl vu vs) (pl : IsPart vl none) (pu : IsPart vu none) (ps : IsPart vs (some (-1)))
    (h : Q (.ref s.heap.objs.size) { s with heap := s.heap.push { cls := .type "tuple", data := .seq items.toList.reverse.toArray } }) (hz : items.size ≤ sizeLine) : wpAny (model prog w) A (getItem (.ref t) (.ref sl)) Q E s := by
  have fits : sizeOk (.seq items.toList.reverse.toArray) := by
    show items.toList.reverse.toArray.size ≤ sizeLine
    rw [List.size_toArray, List.length_reverse, Array.length_toList]
    exact hz
  obtain ⟨o, e1, e2, e3⟩ := id hs
  have ty : s.TypeIs (.ref sl) "slice" := ⟨o, e1, e2⟩
  unfold getItem
  try with_reducible refine wpAny_holding ?_
  first
    | refine wpAny_bind (wpAny_pure ?_)
    | skip
  refine wpAny_bind (wpAny_sequenceKey ht.typeIs (by decide) ?_)
  refine wpAny_bind (wpAny_callSpecial?_slot (name := Str.ofString "__getitem__") ht.typeIs PyProof.Rows.slot_tuple_getitem (wpAny_call_entry PyProof.Rows.slot_tuple_getitem ht.typeIs entry_tuple_getitem ?_ (args_tuple_getitem _ _)))
  refine (?_ : wpAny _ _ (Builtin.Tuple.tupleItemsOf (.ref t) >>= _) _ _ s)
  refine wpAny_bind (tupleItemsOf_ ht ?_)
  refine wpAny_bind (wpAny_typeOf ty ?_)
  rw [if_pos (by decide)]
  refine wpAny_bind (applied_back hs pl pu ps ?_)
  have no : ¬ ((((items.size : Int) - 1) == 0 && (-1 : Int) == 1 && items.size == items.size) = true) := fun q => by
    rw [Bool.and_eq_true, Bool.and_eq_true] at q
    exact absurd q.1.2 (by decide)
  refine (?_ : wpAny _ _ (if (((items.size : Int) - 1) == 0 && (-1 : Int) == 1 && items.size == items.size) = true then _ else _) _ _ s)
  rw [if_neg no, back_pick]
  first
    | exact wpAny_bind (m := Builtin.Tuple.tupleExact _) (wpAny_newObj_type (wpAny_pure ⟨_, rfl, wpAny_pure h⟩) fits)
    | exact wpAny_bind (wpAny_bind (m := Builtin.Tuple.tupleExact _) (wpAny_newObj_type (wpAny_pure (wpAny_pure ⟨_, rfl, wpAny_pure h⟩)) fits))
    | exact wpAny_bind (wpAny_bind (m := Builtin.Tuple.tupleExact _) (wpAny_newObj_type (wpAny_pure ⟨_, rfl, wpAny_pure h⟩) fits))
end
section
variable {X : Cx}
/-- t[::-1] -/
def tRevT (K : PySem.W.Frag) (te : TE) : TE := fun σ H Q => te σ H fun x H1 => ∃ a xs, x = .ref a ∧ SqT K H1 a xs ∧ NewT xs.reverse H1 Q
theorem pe_revT {e : Expr} {te : TE} {k : Nat} {p1 p2 p3 pos : Pos} (he : PE X e te) : PE X (.Subscript e (.Slice none none (some (.UnaryOp .USub (.Constant (.int 1) k p1) p2)) p3) pos) (tRevT X.K te) := by
  constructor
  intro pins s σ H Q I h
  refine Subscript_ (thn (he.run pins s σ H _ I h) ?_)
  rintro v s1 ⟨x, H1, I1, r1, a, xs, rfl, hx, q⟩
  cases r1
  have hst : PO X (some (.UnaryOp .USub (.Constant (.int 1) k p1) p2)) (tPart (tUn (rU fun i => .int (-i)) (tC (.int 1)))) := po_some (pe_un un_neg pe_int)
  refine wpAny_Slice (thn (po_none.run pins s1 σ H1 (fun o H2 => o = none ∧ H2 = H1) I1 ⟨rfl, rfl⟩) ?_)
  rintro vl s2 ⟨l, H2, I2, pl, rfl, rfl⟩
  refine thn (po_none.run pins s2 σ H2 (fun o H3 => o = none ∧ H3 = H2) I2 ⟨rfl, rfl⟩) ?_
  rintro vu s3 ⟨u, H3, I3, pu, rfl, rfl⟩
  refine thn (hst.run pins s3 σ H3 (fun o H4 => o = some (-1) ∧ H4 = H3) I3 ⟨1, rfl, -1, rfl, rfl, rfl⟩) ?_
  rintro vs s4 ⟨o, H4, I4, ps, rfl, rfl⟩
  have I5 : Inv X pins σ H4 { s4 with heap := s4.heap.push { cls := .type "slice", data := .fields #[vl, vu, vs] } } := I4.kept (t' := s4.toks) fun b ob z => Heap.get?_push_of_some _ z
  obtain ⟨its, r, ht, hz⟩ := I5.tuple hx
  have len := r.length
  refine (?_ : wpAny (model X.prog X.w) X.A (subscriptTail e _ (.ref a) (.ref s4.heap.objs.size)) (EP X pins σ Q) X.xe _)
  refine tail_any (ops := [.ref a, .ref s4.heap.objs.size]) ht.typeIs (PyProof.Rows.slot_tuple_getitem.lookup) ?_ (by with_unfolding_all rfl)
  refine item_back ht (Heap.IsSliceOf.new _ vl vu vs) pl pu ps ?_ (by rw [List.size_toArray]; omega)
  exact lay_new (n := 0) I5 (by rw [List.length_reverse]; exact hz) r.reverse q
/-- t == u, t != u: one of them has no items -/
def rEmT (K : PySem.W.Frag) (f : Bool → Bool) : R2 := fun x y H Q => ∃ a b xs, x = .ref a ∧ y = .ref b ∧ SqT K H a xs ∧ SqT K H b [] ∧ Q (.bl (f xs.isEmpty)) H
theorem op_eqEmT (hu : X.A.units < cLine) : OpR X (compareOp .Eq) (rEmT X.K id) := by
  intro pins s σ H x y v u Q I rx ry h
  obtain ⟨a, b, xs, rfl, rfl, ha, hb, q⟩ := h
  cases rx
  cases ry
  obtain ⟨i1, r1, t1, _⟩ := I.tuple ha
  obtain ⟨i2, r2, t2, _⟩ := I.tuple hb
  cases r2
  refine SeqAt.eq_tupleAt (e := fun _ => true) t1 t2 hu (fun j h1 h2 => absurd h2 (Nat.not_lt_zero j)) ?_
  refine ⟨.bl (id xs.isEmpty), H, I, ?_, q⟩
  have l := r1.length
  cases xs with
  | nil =>
    cases r1
    rfl
  | cons y ys =>
    cases i1 with
    | nil => cases l
    | cons z zs => rfl
theorem op_neEmT (hu : X.A.units < cLine) : OpR X (compareOp .NotEq) (rEmT X.K not) := by
  intro pins s σ H x y v u Q I rx ry h
  obtain ⟨a, b, xs, rfl, rfl, ha, hb, q⟩ := h
  cases rx
  cases ry
  obtain ⟨i1, r1, t1, _⟩ := I.tuple ha
  obtain ⟨i2, r2, t2, _⟩ := I.tuple hb
  cases r2
  refine SeqAt.RcNeAt.tuples (e := fun _ => true) t1 t2 hu (fun j h1 h2 => absurd h2 (Nat.not_lt_zero j)) _ _ _ _ ?_
  refine ⟨.bl (not xs.isEmpty), H, I, ?_, q⟩
  have l := r1.length
  cases xs with
  | nil =>
    cases r1
    rfl
  | cons y ys =>
    cases i1 with
    | nil => cases l
    | cons z zs => rfl
end
end Xt
namespace Xt
open PySem PySem.Spec PyProof.Rows L2 Gy
/-- l == []: a list and one without items -/
def rEmL (K : PySem.W.Frag) : R2 := fun x y H Q => ∃ a b xs, x = .ref a ∧ y = .ref b ∧ SqL K H a xs ∧ SqL K H b [] ∧ Q (.bl xs.isEmpty) H
theorem op_eqEmL {X : Cx} (hu : X.A.units < cLine) : OpR X (compareOp .Eq) (rEmL X.K) := by
  intro pins s σ H x y v u Q I rx ry h
  obtain ⟨a, b, xs, rfl, rfl, ha, hb, q⟩ := h
  cases rx
  cases ry
  obtain ⟨i1, r1, t1, _⟩ := I.list ha
  obtain ⟨i2, r2, t2, _⟩ := I.list hb
  cases r2
  cases xs with
  | nil =>
    cases r1
    exact SeqAt.eq_listAt (e := fun _ => true) t1.isList t2.isList rfl hu (fun j h1 h2 => absurd h2 (Nat.not_lt_zero j)) ⟨.bl true, H, I, rfl, q⟩
  | cons y ys =>
    cases r1 with
    | cons h t =>
      exact SeqAt.eq_list_lengthsAt t1.isList t2.isList (by simp) hu ⟨.bl false, H, I, rfl, q⟩
end Xt

/-! sorted of a tuple of texts. -/
namespace Xt
open PySem PySem.Spec PyProof.Rows L2 Gy
section
variable {prog : Program} {w : World} {A : Around} {E : Value → Shared → Prop} {s : Shared}
theorem isTup_get {h : Heap} {a : Addr} {xs : Array Value} (t : h.IsTuple a xs) : ∃ o n, h.get? a = some o ∧ o.cls = .type "tuple" ∧ o.data = .seq xs n := by
  obtain ⟨o, ho, hc, n, hd⟩ := t
  exact ⟨o, n, ho, hc, hd⟩
/-- the heap behind the items of a tuple were taken -/
def took (h : Heap) (vs : List Value) : Heap := Heap.update (h.push (seqObj "list" #[] 0)) h.objs.size (Obj.mapSeq (· ++ vs.toArray))
theorem collect_tup {l : Addr} {vs : List Value} {o : Obj} {n : Nat} {Q : List Value → Shared → Prop} (ho : s.heap.get? l = some o) (hc : o.cls = .type "tuple") (hd : o.data = .seq vs.toArray n) (hz : vs.length ≤ sizeLine)
    (h : Q vs { s with heap := took s.heap vs }) : wpAny (model prog w) A (collect (.ref l)) Q E s := by
  unfold collect
  have new := Heap.get?_push_size (h := s.heap) (o := seqObj "list" #[] 0)
  refine wpAny_bind (wpAny_runValue (codeAny_builtin entry_proto_collect' ?_))
  show wpAny _ _ (newList [] >>= fun r => again (.builtin "list.__iadd__" ⟨[r, .ref l], []⟩)) _ _ s
  refine wpAny_bind (wpAny_newList (wpAny_pure ⟨Code.quiet_builtin _ (by decide +kernel), codeAny_builtin entry_list_iadd' ?_⟩))
  refine (?_ : wpAny _ _ (Builtin.List.listExtendWith _ (.ref l) _) _ _ _)
  unfold Builtin.List.listExtendWith
  have hold : Heap.get? (s.heap.push (seqObj "list" #[] 0)) l = some o := Heap.get?_push_of_some _ ho
  refine wpAny_bind (wpAny_typeOf (T := "tuple") ⟨o, hold, hc⟩ ?_)
  rw [if_pos (by rw [show (Value.type "tuple" == Value.type "tuple") = true by rfl]; simp)]
  refine wpAny_bind (listItems_at hold hd ?_)
  refine wpAny_bind (listItems_at (n := 0) (xs := #[]) (Heap.get?_push_size s.heap rfl) rfl ?_)
  rw [if_neg (by simp)]
  refine wpAny_bind (listUpdate_at (n := 0) (xs := #[]) (Heap.get?_push_size s.heap rfl) rfl ?_ (Nat.zero_le _) ?_)
  · refine wpAny_pure ?_
    refine wpAny_bind (wpAny_load (get?_update_seq (Heap.get?_push_size s.heap rfl) _) ?_)
    refine wpAny_pure ?_
    have e : ((#[] : Array Value) ++ vs.toArray).toList = vs := by simp
    rw [e]
    exact h
  · rw [Array.size_append, List.size_toArray]
    show 0 + vs.length ≤ sizeLine + 1
    omega
theorem sorted_tup {l : Addr} {vs : List Value} {ss : List Str} {o : Obj} {n : Nat} {Q : Value → Shared → Prop} (ho : s.heap.get? l = some o) (hc : o.cls = .type "tuple") (hd : o.data = .seq vs.toArray n) (hS : StrsAre vs ss) (h64 : vs.length < 64)
    (h : ∀ (out : Array Value) (zs : List Str), StrsAre out.toList zs → zs.Perm ss → sortedS zs = true → Q (.ref (s.heap.objs.size + 1)) { s with heap := sortedAll s.heap vs out }) :
    wpAny (model prog w) A (call (.builtin "sorted") [.ref l]) Q E s := by
  refine Calls.call_function_entry kind_sorted plain_sorted entry_sorted (args_sorted1 _) ?_
  unfold Builtin.«sorted»
  refine wpAny_bind (m := checkCount "sorted" 1 1 _) (wpAny_pure ?_)
  refine wpAny_bind (collect_tup ho hc hd (small64 h64) ?_)
  refine wpAny_bind (wpAny_newList ?_)
  have sz : (took s.heap vs).objs.size = s.heap.objs.size + 1 := (Heap.size_update ..).trans (size_push' ..)
  have at1 : Heap.get? ((took s.heap vs).push (seqObj "list" vs.toArray 0)) (s.heap.objs.size + 1) = some (seqObj "list" vs.toArray 0) := by
    rw [← sz]
    exact Heap.get?_push_size _ rfl
  refine (?_ : wpAny _ _ _ _ _ { s with heap := (took s.heap vs).push (seqObj "list" vs.toArray 0) })
  dsimp only
  rw [sz]
  refine wpAny_bind (wpAny_holding (wpAny_call_entry slot_list_sort ⟨_, at1, rfl⟩ entry_list_sort (list_sort_treeK strKind_oneLt at1 hS.keysOf (fun v₁ v₂ rest e => keyKind_strs (by rw [← e]; exact hS)) h64 fun st hp hs => ⟨_, rfl, ?_⟩) (args_list_sort _)))
  obtain ⟨zs, h1, h2, h3⟩ := sorted_out_str hS hp hs
  exact wpAny_pure ⟨_, rfl, h _ zs h1 h2 h3⟩
end
section
variable {X : Cx}
/-- sorted of a list or a tuple of texts -/
def rSortX (K : PySem.W.Frag) : List V → Hp → VK → Prop := fun vs H Q => ∃ (a : Addr) (xs : List Str), vs = [.ref a] ∧ (SqL K H a (xs.map V.str) ∨ SqT K H a (xs.map V.str)) ∧ xs.length < 64 ∧
  ∀ (ys : List Str) (p : Addr), ys.Perm xs → sortedS ys = true → H p = none → Q (.ref p) (upd H p (.lst (ys.map V.str)))
theorem cr_sortX : CallR X (.builtin "sorted") (rSortX X.K) := by
  intro pins s σ H vs us Q I r h
  obtain ⟨a, xs, rfl, hs | hs, h64, q⟩ := h
  · exact cr_sortedS pins s σ H _ us Q I r ⟨a, xs, rfl, hs, h64, q⟩
  · obtain ⟨its, rv, ⟨o, ho, hc, n, hd⟩, _⟩ := I.tuple hs
    rw [Vals.ref1 r]
    have len := rv.length
    rw [List.length_map] at len
    refine sorted_tup ho hc hd rv.strs (by rw [← len]; exact h64) fun out ys h1 h2 h3 => ?_
    obtain ⟨ep, he⟩ := PyProof.Rows.sortedAll_at s.heap its out
    have lz : (ys.map V.str).length ≤ sizeLine := by
      rw [List.length_map, h2.length_eq]
      exact small64 h64
    exact ⟨.ref _, upd H (s.heap.objs.size + 1) (.lst (ys.map V.str)), I.laid (t' := s.toks) (fun _ _ => PyProof.Rows.sortedAll_old) (Nat.le_succ _) ⟨lz, out.toList, ep, vals_of_strs h1, he⟩, rfl, q ys _ h2 h3 (I.hok.fresh (Nat.le_succ _))⟩
end
end Xt

/-! sorted(set(xs)), xs a list or a tuple of texts. -/
namespace Xs
open PySem PySem.Spec PyProof.Rows L2 Gy Xt
/-- the text of a set's row -/
def rowX (e : Int × Value) : Str := match e.2 with
  | .str x _ => x
  | _ => Str.empty
def IsRow (P : Program) (w : World) (e : Int × Value) : Prop := ∃ x tk, e = ((strKind P w).hash x, Value.str x tk)
/-- the rows of a set of texts, and how they lie -/
structure Rws (P : Program) (w : World) (xs : List Str) (es : Array (Int × Value)) (t : SetTable) : Prop where
  rows : ∀ e ∈ es.toList, IsRow P w e
  nd : (es.toList.map rowX).Nodup
  mem : ∀ x, x ∈ es.toList.map rowX ↔ x ∈ xs
  few : es.size ≤ xs.length
  room : es.size < scanBound
  fit : t.fits es.size = true
  ris : Ris t.place.toList
  led : w.params.followText "set-order" = true ∨ t.led = true
def Txs (P : Program) (w : World) (h : Heap) (a : Addr) (xs : List Str) : Prop := ∃ o es ep t, h.get? a = some o ∧ o.ExactSet ∧ o.data = .set es ep t ∧ Rws P w xs es t
theorem rows_elems {P : Program} {w : World} {l : List (Int × Value)} (h : ∀ e ∈ l, IsRow P w e) : ElemsOf (strKind P w) l := fun e he => by
  obtain ⟨x, tk, rfl⟩ := h e he
  exact ⟨⟨x, strKind_is _ _ _ _, rfl⟩, rfl⟩
section
variable {P : Program} {w : World} {A : Around} {E : Value → Shared → Prop} {s : Shared} {a : Addr} {xs : List Str}
/-- the rows are stored, and laid anew if the table is too full -/
theorem store_rows {g : Bool → Sem Unit} (gq : ∀ (b : Bool) (s1 : Shared) (Q' : Unit → Shared → Prop), Q' () s1 → wpAny (model P w) A (g b) Q' E s1) {o : Obj} {es ens : Array (Int × Value)} {ep : Nat} {t tn : SetTable} (ho : s.heap.get? a = some o) (hx : o.ExactSet)
    (hd : o.data = .set es ep t) (R : Rws P w xs ens tn) {dm : Bool} {Z : Option Bool → Shared → Prop} (fin : ∀ h', Heap.SameBut a s.heap h' → Txs P w h' a xs → Z (some true) { s with heap := h' }) :
    wpAny (model P w) A (do
        storeSet a ens tn
        if (!dm && tn.tooFull) = true then do
            g (relayAll tn ens (SetTable.grown ens.size)).2.2
            storeSet a (relayAll tn ens (SetTable.grown ens.size)).1 (relayAll tn ens (SetTable.grown ens.size)).2.1
            pure (some true)
          else pure (some true)) Z E s := by
  have g1 := store_at (es' := ens) (t' := tn) ho hd
  have b1 := Heap.SameBut.update s.heap a (Obj.putSet ens tn)
  refine wpAny_bind (wpAny_storeSet_of ho hd ?_ (fits_of_scanBound R.room))
  by_cases c : (!dm && tn.tooFull) = true
  · rw [if_pos c]
    have p := relayAll_perm tn ens (SetTable.grown ens.size)
    have f3 := relayAll_fits tn ens (SetTable.grown ens.size)
    have i3 := relayAll_ris tn ens (SetTable.grown ens.size)
    have l3 := relayAll_led tn ens (SetTable.grown ens.size)
    generalize relayAll tn ens (SetTable.grown ens.size) = Y at p f3 i3 l3 ⊢
    have sz : Y.1.size = ens.size := by
      have := p.length_eq
      simpa using this
    have rm : Y.1.size < scanBound := by rw [sz]; exact R.room
    refine wpAny_bind (gq _ _ _ ?_)
    refine wpAny_bind (wpAny_storeSet_of g1 rfl ?_ (fits_of_scanBound rm))
    refine wpAny_pure (fin _ (b1.trans (Heap.SameBut.update _ a _)) ⟨_, Y.1, _, Y.2.1, store_at g1 rfl, hx, rfl, ?_⟩)
    exact ⟨fun e he => R.rows e (p.mem_iff.mp he), (p.map rowX).nodup_iff.mpr R.nd, fun x => ((p.map rowX).mem_iff).trans (R.mem x), by rw [sz]; exact R.few, rm, f3, i3, R.led.imp id fun z => by rw [l3]; exact z⟩
  · rw [if_neg c]
    exact wpAny_pure (fin _ b1 ⟨_, ens, _, tn, g1, hx, rfl, R⟩)
/-- one text more -/
theorem add_txt {x : Str} {tk : Tok} {Q : Bool → Shared → Prop} (R : Txs P w s.heap a xs) (room : xs.length + 1 < scanBound) (fin : ∀ h' b, Heap.SameBut a s.heap h' → Txs P w h' a (xs ++ [x]) → Q b { s with heap := h' }) :
    wpAny (model P w) A (setAddHashed a (.str x tk) ((strKind P w).hash x)) Q E s := by
  obtain ⟨o, es, ep, t, ho, hx, hd, r⟩ := R
  have key := strKind_is P w x tk
  have sc : (Value.str x tk).scannable = true := rfl
  have el := rows_elems r.rows
  have few := r.few
  unfold setAddHashed setAddHashedIn
  refine wpAny_holding (wpAny_bind (wpAny_setState_of ho hd r.fit ?_))
  dsimp only
  rw [byScan_of sc r.room el]
  simp only [↓reduceIte]
  unfold setAddByScan
  refine wpAny_bind (wpAny_bind (wpAny_rule (wpAny_bind (wpAny_setScan_of key ho hd r.fit el ?_))))
  cases fi : List.findIdx? (fun e => (strKind P w).is x e.2) es.toList with
  | some j =>
    dsimp only
    obtain ⟨lt, hit, _⟩ := List.findIdx?_eq_some_iff_getElem.mp fi
    have mx : x ∈ xs := by
      refine (r.mem x).mp (List.mem_map.mpr ⟨es.toList[j], List.getElem_mem lt, ?_⟩)
      obtain ⟨y, ty, ey⟩ := r.rows _ (List.getElem_mem lt)
      rw [ey] at hit ⊢
      have := (strKind P w).inj _ _ _ hit (strKind_is P w y ty)
      exact this.symm
    refine wpAny_pure (wpAny_pure (fin s.heap _ (Heap.SameBut.refl a s.heap) ⟨o, es, ep, t, ho, hx, hd, r.rows, r.nd, fun y => ?_, by rw [List.length_append]; omega, r.room, r.fit, r.ris, r.led⟩))
    rw [r.mem y, List.mem_append, List.mem_singleton]
    exact ⟨.inl, fun z => z.elim id fun e => e ▸ mx⟩
  | none =>
    dsimp only
    have nx : x ∉ es.toList.map rowX := fun z => by
      obtain ⟨e, he, ex⟩ := List.mem_map.mp z
      have no := List.findIdx?_eq_none_iff.mp fi e he
      obtain ⟨y, ty, rfl⟩ := r.rows e he
      have e2 : y = x := ex
      rw [e2, strKind_is] at no
      cases no
    have pm := layNew_perm t es ((strKind P w).hash x) (.str x tk)
    have f1 := layNew_fits t es ((strKind P w).hash x) (.str x tk)
    have i1 := layNew_ris t es ((strKind P w).hash x) (.str x tk) r.ris
    have l1 := layNew_led t es ((strKind P w).hash x) (.str x tk)
    generalize layNew t es ((strKind P w).hash x) (.str x tk) = Y at pm f1 i1 l1 ⊢
    obtain ⟨ens, tn, dm, gv⟩ := Y
    dsimp only at pm f1 i1 l1 ⊢
    have pc : ens.toList.Perm (((strKind P w).hash x, Value.str x tk) :: es.toList) := by
      rw [Array.toList_push] at pm
      exact pm.trans (List.perm_append_singleton _ _)
    have px : (ens.toList.map rowX).Perm (x :: es.toList.map rowX) := pc.map rowX
    have sz : ens.size = es.size + 1 := by
      have := pc.length_eq
      simpa using this
    have rw1 : ∀ {tt : SetTable}, tt.fits ens.size = true → Ris tt.place.toList → tt.led = t.led → Rws P w (xs ++ [x]) ens tt := fun {tt} ff ii ll => by
      refine ⟨fun e he => ?_, px.nodup_iff.mpr (List.nodup_cons.mpr ⟨nx, r.nd⟩), fun y => ?_, by rw [sz, List.length_append]; exact Nat.succ_le_succ few, by rw [sz]; omega, ff, ii, r.led.imp id fun z => by rw [ll]; exact z⟩
      · rcases List.mem_cons.mp (pc.mem_iff.mp he) with z | z
        · exact ⟨x, tk, z⟩
        · exact r.rows e z
      · rw [px.mem_iff, List.mem_cons, r.mem y, List.mem_append, List.mem_singleton]
        exact Or.comm
    have gw : ∀ (b : Bool) (s1 : Shared) (Q' : Unit → Shared → Prop), Q' () s1 → wpAny (model P w) A (match b with | true => rule "set.scan.the-table-gave-way" | false => pure ()) Q' E s1 := fun b s1 Q' q => by
      cases b
      · exact wpAny_pure q
      · exact wpAny_rule q
    refine wpAny_bind (gw _ _ _ ?_)
    split
    · refine wpAny_bind ?_
      rw [hashByValue_scannable 8 sc]
      refine wpAny_pure ?_
      refine store_rows (xs := xs ++ [x]) ?_ ho hx hd ?_ ?_
      · exact gw
      · refine rw1 ?_ ?_ ?_
        · first | exact f1 | (split <;> first | exact f1 | exact SetTable.fits_plain_off f1)
        · first | exact i1 | (split <;> exact i1)
        · first | exact l1 | (split <;> exact l1)
      · intro h' sb q
        dsimp only
        exact wpAny_pure (fin h' _ sb q)
    · refine wpAny_bind (wpAny_pure ?_)
      simp only [↓reduceIte]
      refine store_rows (xs := xs ++ [x]) gw ho hx hd (rw1 f1 i1 l1) fun h' sb q => ?_
      dsimp only
      exact wpAny_pure (fin h' _ sb q)
end
end Xs

/-! sorted(set(xs)), xs a list or a tuple of texts: the set is made, and sorted. -/
namespace Xs
open PySem PySem.Spec PyProof.Rows L2 Gy Xt
abbrev setL (w : World) : Obj := set0 (!w.params.followText "set-order")
theorem txs_new {P : Program} {w : World} {h : Heap} {a : Addr} (e : h.get? a = some (setL w)) : Txs P w h a [] := by
  refine ⟨_, #[], 0, _, e, ⟨rfl, rfl, rfl⟩, rfl, (fun e he => nomatch he), List.nodup_nil, (fun x => Iff.rfl), Nat.le_refl _, by decide, rfl, List.Pairwise.nil, ?_⟩
  show _ ∨ (!w.params.followText "set-order") = true
  cases w.params.followText "set-order" with
  | true => exact .inl rfl
  | false => exact .inr rfl
section
variable {P : Program} {w : World} {A : Around} {R : Result → Shared → Prop} {J : Addr} {fp wr : List Addr} {G : Array GenState → Array GenState → Prop} {n : Nat} {Y : Nat → Value → Prop} {Z : Nat → Shared → Prop}
/-- the set takes text after text -/
theorem take_txs (W : WalksS P w A.in1 J fp wr G n Y Z) (S : Addr) (out : S ∉ fp) (xs : List Str) (len : xs.length = n) (room : n + 1 < scanBound) (val : ∀ i v, Y i v → ∃ t, v = .str (xs.getD i Str.empty) t) :
    ∀ (k i : Nat) (s : Shared), n - i = k → i ≤ n → Z i s → Txs P w s.heap S (xs.take i) → (∀ s2, Moved (S :: wr) G s s2 → Txs P w s2.heap S xs → R (.ok (.ret .none)) s2) →
      codeAny (model P w) A (.builtin "set.update.loop" ⟨[.ref S, .ref J], []⟩) R s := by
  have out2 : S ∉ wr := fun h => out (W.sub _ h)
  have more : ∀ b ∈ wr, b ∈ S :: wr := fun b hb => List.mem_cons_of_mem _ hb
  intro k
  induction k with
  | zero =>
    intro i s ek le z hS fin
    obtain rfl : i = n := by omega
    refine codeAny_builtin PyProof.Rows.F.entry_set_update_loop ?_; rw [Around.under_plainId PyProof.Rows.F.plain_set_update_loop _]
    show wpAny _ A.in1 (pyNext (.ref J) >>= _) _ _ s
    refine wpAny_bind (W.done s _ _ z fun s2 mv => ?_)
    obtain ⟨o, es, ep, t, ho, rest⟩ := hS
    rw [List.take_of_length_le (by omega)] at rest
    exact wpAny_pure (fin s2 (mv.mono more) ⟨o, es, ep, t, mv.heap S _ out2 ho, rest⟩)
  | succ k ih =>
    intro i s ek le z hS fin
    have lt : i < n := by omega
    refine codeAny_builtin PyProof.Rows.F.entry_set_update_loop ?_; rw [Around.under_plainId PyProof.Rows.F.plain_set_update_loop _]
    show wpAny _ A.in1 (pyNext (.ref J) >>= _) _ _ s
    refine wpAny_bind (W.item i s _ _ lt z fun v s2 hY z2 mv => ?_)
    obtain ⟨t, rfl⟩ := val i v hY
    have hS2 : Txs P w s2.heap S (xs.take i) := by
      obtain ⟨o, es, ep, tb, ho, rest⟩ := hS
      exact ⟨o, es, ep, tb, mv.heap S _ out2 ho, rest⟩
    show wpAny _ A.in1 (holding [Value.str (xs.getD i Str.empty) t] (setAdd S (.str (xs.getD i Str.empty) t)) >>= _) _ _ s2
    refine wpAny_bind (wpAny_holding ?_); unfold setAdd; refine wpAny_holding ?_
    refine wpAny_bind ((strKind P w).pyHash (k := xs.getD i Str.empty) (strKind_is _ _ _ _) ?_)
    have lt2 : i < xs.length := by omega
    have e : xs.getD i Str.empty = xs[i] := by rw [List.getD_eq_getElem?_getD, List.getElem?_eq_getElem lt2]; rfl
    have tk1 : xs.take (i + 1) = xs.take i ++ [xs.getD i Str.empty] := by rw [e, List.take_add_one, List.getElem?_eq_getElem lt2]; rfl
    refine add_txt (s := { s2 with toks := s2.toks + 1 }) hS2 (by rw [List.length_take]; omega) fun h3 b sb hS3 => ?_
    rw [← tk1] at hS3
    refine wpAny_pure ⟨plainId_quiet PyProof.Rows.F.plain_set_update_loop _, ih (i + 1) _ (by omega) lt (W.frame _ s2 _ _ z2 (Nat.le_succ _) fun b hb o e => ?_) hS3 fun s4 mv4 hS5 => ?_⟩
    · rw [sb.2 b (fun h : b = S => out (h ▸ hb))]
      exact e
    · refine fin s4 (Moved.trans W.gtrans ((mv.mono more).then_heap (Nat.le_succ _) fun b o hb e => ?_) mv4) hS5
      rw [sb.2 b (fun h : b = S => hb (h ▸ List.mem_cons_self))]
      exact e
end
section
variable {P : Program} {w : World} {A : Around} {E : Value → Shared → Prop} {s : Shared}
set_option maxHeartbeats 3200000 in
theorem set_of_tuple {l : Addr} {its : Array Value} {xs : List Str} {Q : Value → Shared → Prop} (calm : A.handled = none) (at_ : s.heap.IsTuple l its) (are : StrsAre its.toList xs) (room : xs.length + 1 < scanBound)
    (fin : ∀ (h2 : Heap) (tk : Nat), Txs P w h2 s.heap.objs.size xs → (∀ b o, s.heap.get? b = some o → h2.get? b = some o) → Q (.ref s.heap.objs.size) { s with heap := h2, toks := tk }) :
    wpAny (model P w) A (call (.type "set") [.ref l]) Q E s := by
  have sz : xs.length = its.size := by rw [← StrsAre.len_eq are, Array.length_toList]
  obtain ⟨_, _, m0⟩ := PySem.F.called_set.mro
  have m1 := PySem.F.called_set.made; have m2 := PySem.F.called_set.sub
  refine wpAny_call (codeAny_of_tree ?_); show wpAny _ _ (callAny (.type "set") _) _ _ _
  refine wpAny_pure ⟨Code.quiet_builtin _ (by decide +kernel), codeAny_builtin PySem.F.entry_type_call ?_⟩; rw [Around.under_plain (weight_type_call_type "set" [.ref l] []) rfl]
  have m3 := PySem.F.called_set.notType; have m4 := PySem.F.called_set.canCreate; have m5 := PySem.F.typeCall_set_1 (.ref l)
  repeat (any_goals (first | assumption | wp_step))
  refine codeAny_mono (code_set_led1 (.ref l) (E := E) (Q₁ := fun ob s1 => ob = .ref s.heap.objs.size ∧ s1 = { s with heap := s.heap.push (setL w) }) ⟨rfl, rfl⟩) fun r s1 hr => ?_
  rcases r with e | (_ | _ | _ | ob)
  · exact hr
  · exact hr.elim
  · exact hr.elim
  · exact hr.elim
  obtain ⟨rfl, rfl⟩ := hr
  have got : (s.heap.push (setL w)).get? s.heap.objs.size = some (setL w) := Heap.get?_push_size _ rfl
  have ty : Shared.TypeIs { s with heap := s.heap.push (setL w) } (.ref s.heap.objs.size) "set" := ⟨_, got, rfl⟩
  have m6 := PySem.F.called_set.init.lookup; have m7 := PySem.F.called_set.init.bind (.ref s.heap.objs.size)
  repeat (any_goals (first | assumption | wp_step))
  refine codeAny_mono (codeAny_call_builtin (R := wants (fun r s2 => r = .none ∧ ∃ h2 tk, s2 = { s with heap := h2, toks := tk } ∧ Txs P w h2 s.heap.objs.size xs ∧ (∀ b o, s.heap.get? b = some o → h2.get? b = some o)) E) PySem.F.called_set.init.plain PySem.F.entry_set_init (check_set_init_1 ty ?_)) fun r2 s2 hr2 => ?_
  · obtain ⟨ol, go, co, nl, dl⟩ := at_
    obtain ⟨ocls, odict, odata, oslots⟩ := ol
    simp only at co dl
    subst co dl
    have go2 : (s.heap.push (setL w)).get? l = some { cls := .type "tuple", dict := odict, data := .seq its nl, slots := oslots } := Heap.get?_push_of_some _ go
    have m8 := PySem.F.sub_tuple_set; have m9 := PySem.F.sub_tuple_frozenset
    have m10 : (Value.type "tuple" == Value.type "dict") = false := by decide
    have at2 : (s.heap.push (setL w)).IsTuple l its := ⟨_, go2, rfl, nl, rfl⟩
    unfold Builtin.«set.__init__» noKeywords Builtin.Frozenset.updateFrom; generalize ePI : pyIter = PI
    wp_walk
    subst ePI
    refine wpAny_pyIter_tuple at2 (wpAny_bind (wpAny_runValue ?_))
    have low : l < s.heap.objs.size := Heap.lt_size go
    have calm3 : A.in1.in1.in1.handled = none := by simp [calm]
    have far : l ≠ (s.heap.push (setL w)).objs.size := by rw [Heap.size_push]; exact Nat.ne_of_lt (Nat.lt_succ_of_lt low)
    have out : s.heap.objs.size ∉ [(s.heap.push (setL w)).objs.size, l] := by
      rw [Heap.size_push]
      simp only [List.mem_cons, List.not_mem_nil, or_false, not_or]
      exact ⟨Nat.ne_of_lt (Nat.lt_succ_self _), Nat.ne_of_gt low⟩
    refine take_txs ((Walks.tuple calm3 _ l far its).toS) s.heap.objs.size out xs sz (by rw [← sz]; exact room) (fun i v hv => SS.strs_at are i v (by rw [Array.getElem?_toList]; exact hv)) (its.size - 0) 0 _ (by omega) (Nat.zero_le _)
      ⟨⟨_, Heap.get?_push_size _ rfl, rfl, rfl⟩, ⟨_, Heap.get?_push_of_some _ go2, rfl, nl, rfl⟩⟩ ?first ?last
    case first =>
      have got2 : ((s.heap.push (setL w)).push { cls := .type "tuple_iterator", data := .fields #[.ref l, .int 0 0] }).get? s.heap.objs.size = some (setL w) := Heap.get?_push_of_some _ got
      exact txs_new got2
    case last =>
      intro s2 mv hS
      obtain ⟨h2, g2, d2, tk2, os2⟩ := s2
      obtain rfl : g2 = s.gens := mv.gens
      obtain rfl : d2 = s.drawn := mv.drawn
      obtain rfl : os2 = s.os := mv.os
      show wpAny _ _ _ _ _ _
      refine wpAny_pure (wpAny_pure ⟨rfl, h2, tk2, rfl, hS, fun b o e => ?_⟩)
      have lb := Heap.lt_size e
      refine mv.heap b o ?_ (Heap.get?_push_of_some _ (Heap.get?_push_of_some _ e))
      rw [Heap.size_push]
      simp only [List.mem_cons, List.not_mem_nil, or_false, not_or]
      exact ⟨Nat.ne_of_lt lb, Nat.ne_of_lt (Nat.lt_succ_of_lt lb)⟩
  · rcases r2 with e | (_ | _ | _ | r)
    · exact hr2
    · exact hr2.elim
    · exact hr2.elim
    · exact hr2.elim
    obtain ⟨rfl, h2, tk, rfl, hS, keep⟩ := hr2
    repeat (any_goals (first | assumption | wp_step))
    exact fin _ _ hS keep
end
section
variable {P : Program} {w : World} {A : Around} {E : Value → Shared → Prop} {s : Shared}
set_option maxHeartbeats 3200000 in
theorem set_of_list {l : Addr} {its : Array Value} {xs : List Str} {Q : Value → Shared → Prop} (calm : A.handled = none) (at_ : s.heap.IsList l its) (are : StrsAre its.toList xs) (room : xs.length + 1 < scanBound)
    (fin : ∀ (h2 : Heap) (tk : Nat), Txs P w h2 s.heap.objs.size xs → (∀ b o, s.heap.get? b = some o → h2.get? b = some o) → Q (.ref s.heap.objs.size) { s with heap := h2, toks := tk }) :
    wpAny (model P w) A (call (.type "set") [.ref l]) Q E s := by
  have sz : xs.length = its.size := by rw [← StrsAre.len_eq are, Array.length_toList]
  obtain ⟨_, _, m0⟩ := PySem.F.called_set.mro
  have m1 := PySem.F.called_set.made; have m2 := PySem.F.called_set.sub
  refine wpAny_call (codeAny_of_tree ?_); show wpAny _ _ (callAny (.type "set") _) _ _ _
  refine wpAny_pure ⟨Code.quiet_builtin _ (by decide +kernel), codeAny_builtin PySem.F.entry_type_call ?_⟩; rw [Around.under_plain (weight_type_call_type "set" [.ref l] []) rfl]
  have m3 := PySem.F.called_set.notType; have m4 := PySem.F.called_set.canCreate; have m5 := PySem.F.typeCall_set_1 (.ref l)
  repeat (any_goals (first | assumption | wp_step))
  refine codeAny_mono (code_set_led1 (.ref l) (E := E) (Q₁ := fun ob s1 => ob = .ref s.heap.objs.size ∧ s1 = { s with heap := s.heap.push (setL w) }) ⟨rfl, rfl⟩) fun r s1 hr => ?_
  rcases r with e | (_ | _ | _ | ob)
  · exact hr
  · exact hr.elim
  · exact hr.elim
  · exact hr.elim
  obtain ⟨rfl, rfl⟩ := hr
  have got : (s.heap.push (setL w)).get? s.heap.objs.size = some (setL w) := Heap.get?_push_size _ rfl
  have ty : Shared.TypeIs { s with heap := s.heap.push (setL w) } (.ref s.heap.objs.size) "set" := ⟨_, got, rfl⟩
  have m6 := PySem.F.called_set.init.lookup; have m7 := PySem.F.called_set.init.bind (.ref s.heap.objs.size)
  repeat (any_goals (first | assumption | wp_step))
  refine codeAny_mono (codeAny_call_builtin (R := wants (fun r s2 => r = .none ∧ ∃ h2 tk, s2 = { s with heap := h2, toks := tk } ∧ Txs P w h2 s.heap.objs.size xs ∧ (∀ b o, s.heap.get? b = some o → h2.get? b = some o)) E) PySem.F.called_set.init.plain PySem.F.entry_set_init (check_set_init_1 ty ?_)) fun r2 s2 hr2 => ?_
  · obtain ⟨ol, go, co, nl, dl⟩ := at_
    obtain ⟨ocls, odict, odata, oslots⟩ := ol
    simp only at co dl
    subst co dl
    have go2 : (s.heap.push (setL w)).get? l = some { cls := .type "list", dict := odict, data := .seq its nl, slots := oslots } := Heap.get?_push_of_some _ go
    have m8 := PySem.F.sub_list_set; have m9 := PySem.F.sub_list_frozenset
    have m10 : (Value.type "list" == Value.type "dict") = false := by decide
    have at2 : (s.heap.push (setL w)).IsList l its := ⟨_, go2, rfl, nl, rfl⟩
    unfold Builtin.«set.__init__» noKeywords Builtin.Frozenset.updateFrom; generalize ePI : pyIter = PI
    wp_walk
    subst ePI
    refine wpAny_pyIter_list at2 (wpAny_bind (wpAny_runValue ?_))
    have low : l < s.heap.objs.size := Heap.lt_size go
    have calm3 : A.in1.in1.in1.handled = none := by simp [calm]
    have far : l ≠ (s.heap.push (setL w)).objs.size := by rw [Heap.size_push]; exact Nat.ne_of_lt (Nat.lt_succ_of_lt low)
    have out : s.heap.objs.size ∉ [(s.heap.push (setL w)).objs.size, l] := by
      rw [Heap.size_push]
      simp only [List.mem_cons, List.not_mem_nil, or_false, not_or]
      exact ⟨Nat.ne_of_lt (Nat.lt_succ_self _), Nat.ne_of_gt low⟩
    refine take_txs ((Walks.list calm3 _ l far its).toS) s.heap.objs.size out xs sz (by rw [← sz]; exact room) (fun i v hv => SS.strs_at are i v (by rw [Array.getElem?_toList]; exact hv)) (its.size - 0) 0 _ (by omega) (Nat.zero_le _)
      ⟨⟨_, Heap.get?_push_size _ rfl, rfl, rfl⟩, ⟨_, Heap.get?_push_of_some _ go2, rfl, nl, rfl⟩⟩ ?first ?last
    case first =>
      have got2 : ((s.heap.push (setL w)).push { cls := .type "list_iterator", data := .fields #[.ref l, .int 0 0] }).get? s.heap.objs.size = some (setL w) := Heap.get?_push_of_some _ got
      exact txs_new got2
    case last =>
      intro s2 mv hS
      obtain ⟨h2, g2, d2, tk2, os2⟩ := s2
      obtain rfl : g2 = s.gens := mv.gens
      obtain rfl : d2 = s.drawn := mv.drawn
      obtain rfl : os2 = s.os := mv.os
      show wpAny _ _ _ _ _ _
      refine wpAny_pure (wpAny_pure ⟨rfl, h2, tk2, rfl, hS, fun b o e => ?_⟩)
      have lb := Heap.lt_size e
      refine mv.heap b o ?_ (Heap.get?_push_of_some _ (Heap.get?_push_of_some _ e))
      rw [Heap.size_push]
      simp only [List.mem_cons, List.not_mem_nil, or_false, not_or]
      exact ⟨Nat.ne_of_lt lb, Nat.ne_of_lt (Nat.lt_succ_of_lt lb)⟩
  · rcases r2 with e | (_ | _ | _ | r)
    · exact hr2
    · exact hr2.elim
    · exact hr2.elim
    · exact hr2.elim
    obtain ⟨rfl, h2, tk, rfl, hS, keep⟩ := hr2
    repeat (any_goals (first | assumption | wp_step))
    exact fin _ _ hS keep
end
end Xs

namespace Xs
open PySem PySem.Spec PyProof.Rows L2 Gy Xt
theorem strs_rows {P : Program} {w : World} : ∀ (vs : List Value), (∀ v ∈ vs, ∃ x tk, v = Value.str x tk) → ∃ ss, StrsAre vs ss
  | [], _ => ⟨[], .nil⟩
  | v :: vs, h => by
    obtain ⟨x, tk, rfl⟩ := h v List.mem_cons_self
    obtain ⟨ss, hs⟩ := strs_rows (P := P) (w := w) vs fun u hu => h u (List.mem_cons_of_mem _ hu)
    exact ⟨x :: ss, .cons x tk hs⟩
def txV (v : Value) : Str := match v with
  | .str x _ => x
  | _ => Str.empty
theorem strs_txV : ∀ {vs : List Value} {ss : List Str}, StrsAre vs ss → ss = vs.map txV
  | _, _, .nil => rfl
  | _, _, .cons x t h => by
    rw [List.map_cons, ← strs_txV h]
    rfl
section
variable {P : Program} {w : World} {A : Around} {E : Value → Shared → Prop} {s : Shared} {a : Addr} {xs : List Str}
/-- sorted of a set of texts -/
theorem sorted_txs {Q : Value → Shared → Prop} (R : Txs P w s.heap a xs) (calm : A.handled = none) (few : xs.length < 64)
    (fin : ∀ (s2 : Shared) (p : Addr) (out : Array Value) (c : Nat) (ys : List Str), (∀ b o, s.heap.get? b = some o → s2.heap.get? b = some o) → s2.gens = s.gens → s2.os = s.os → s.heap.objs.size ≤ p → s2.heap.get? p = some (seqObj "list" out c) → StrsAre out.toList ys → sortedS ys = true → ys.Nodup → (∀ x, x ∈ ys ↔ x ∈ xs) → ys.length ≤ xs.length → Q (.ref p) s2) :
    wpAny (model P w) A (call (.builtin "sorted") [.ref a]) Q E s := by
  obtain ⟨o, es, ep, t, ho, hx, hd, r⟩ := R
  refine Calls.call_function_entry kind_sorted plain_sorted entry_sorted (args_sorted1 _) ?_
  unfold Builtin.«sorted»
  refine wpAny_bind (m := checkCount "sorted" 1 1 _) (wpAny_pure ?_)
  refine wpAny_bind (collect_set (A := A.in1) calm ⟨o, ho, hx.1, hd⟩ r.fit r.room r.ris r.led fun s1 vs k1 z1 g1 o1 pm => ?_)
  have lv : vs.length = es.size := by rw [pm.length_eq, List.length_map, Array.length_toList]
  have l64 : vs.length < 64 := by have := r.few; omega
  obtain ⟨ss, hS⟩ := strs_rows (P := P) (w := w) vs fun v hv => by
    obtain ⟨e, he, q⟩ := List.mem_map.mp (pm.mem_iff.mp hv)
    obtain ⟨x, tk, e2⟩ := r.rows e he
    exact ⟨x, tk, by rw [← q, e2]⟩
  have ps : ss.Perm (es.toList.map rowX) := by
    rw [strs_txV hS]
    have q := pm.map txV
    rw [List.map_map] at q
    exact q
  refine wpAny_bind (wpAny_newList ?_ (by rw [sizeLine_eq]; omega))
  have at1 : (s1.heap.push (seqObj "list" vs.toArray 0)).get? s1.heap.objs.size = some (seqObj "list" vs.toArray 0) := Heap.get?_push_size _ rfl
  refine wpAny_bind (wpAny_holding (wpAny_call_entry slot_list_sort ⟨_, at1, rfl⟩ entry_list_sort (list_sort_treeK strKind_oneLt at1 hS.keysOf (fun v₁ v₂ rest e => keyKind_strs (by rw [← e]; exact hS)) l64 fun st hp hs => ⟨_, rfl, ?_⟩) (args_list_sort _)))
  obtain ⟨zs, h1, h2, h3⟩ := sorted_out_str hS hp hs
  obtain ⟨c, hc⟩ := sortedHeap_at (vs := vs) (out := (arrOf st).map (·.2)) at1
  have pz := h2.trans ps
  refine wpAny_pure ⟨_, rfl, fin _ s1.heap.objs.size _ c zs (fun b u e => ?_) g1 o1 z1 hc h1 h3 (pz.nodup_iff.mpr r.nd) (fun x => ?_) (by rw [pz.length_eq, List.length_map, Array.length_toList]; exact r.few)⟩
  · have q := k1 b u e
    have lt := Heap.lt_size q
    show (sortedHeap (s1.heap.push (seqObj "list" vs.toArray 0)) s1.heap.objs.size vs _).get? b = some u
    rw [sortedHeap_old (Nat.ne_of_lt lt) (by rw [size_push']; exact Nat.lt_succ_of_lt lt)]
    exact Heap.get?_push_of_some _ q
  · rw [pz.mem_iff]
    exact r.mem x
end
section
variable {X : Cx}
/-- sorted(set(xs)), xs a list or a tuple of texts -/
def tSrtSet (K : PySem.W.Frag) (ta : TE) : TE := fun σ H Q => ta σ H fun x H1 => ∃ (l : Addr) (xs : List Str), x = .ref l ∧ (SqL K H1 l (xs.map V.str) ∨ SqT K H1 l (xs.map V.str)) ∧ xs.length < 64 ∧
  ∀ (ys : List Str) (p : Addr), sortedS ys = true → ys.Nodup → (∀ x, x ∈ ys ↔ x ∈ xs) → H1 p = none → Q (.ref p) (upd H1 p (.lst (ys.map V.str)))
theorem pe_srtSet {a : Expr} {ta : TE} {p p2 q pos : Pos} (hg : Gl X "sorted") (hm : X.mg "sorted" = none) (hg2 : Gl X "set") (hm2 : X.mg "set" = none) (ha : PE X a ta) (calm : X.calm = true := by rfl)
    (na : starEach [a] X.env = (false, eval a X.env) :: starEach [] X.env := by rfl) : PE X (.Call (.Name "sorted" p) [.Call (.Name "set" p2) [a] [] q] [] pos) (tSrtSet X.K ta) := by
  refine ⟨fun pins s σ H Q I h => Call_ (ld_blt I hg hm (by decide +kernel : bootBuiltins "sorted" = some (.builtin "sorted")) ?_)⟩
  refine PyProof.Rows.callWith_builtin1 (PyProof.Rows.args_cons (Call_ (ld_blt I hg2 hm2 boot_set ?_)) rfl) rfl rfl
  refine PyProof.Rows.callWith_type1 (PyProof.Rows.args_cons (thn (ha.run pins s σ H _ I h) fun v s1 ⟨x, H1, I1, r1, q1⟩ => PyProof.Rows.args_nil ?_) na) na rfl
  obtain ⟨l, xs, rfl, sq, few, q1⟩ := q1
  cases r1
  have hd := I1.ok.hd calm
  have go : ∀ (s2 : Shared), Inv X pins σ H1 s2 → Txs X.prog X.w s2.heap s1.heap.objs.size xs → wpAny (model X.prog X.w) X.A (call (.builtin "sorted") [.ref s1.heap.objs.size]) (EP X pins σ Q) X.xe s2 := by
    intro s2 I2 R
    refine sorted_txs R hd few fun s3 p out c ys k g o hp hg hi hs hn hm hl => ?_
    have np : H1 p = none := I2.hok.fresh hp
    have len : (ys.map V.str).length ≤ sizeLine := by
      rw [List.length_map, sizeLine_eq]
      omega
    have J : Inv X pins σ (upd H1 p (.lst (ys.map V.str))) { s2 with heap := s3.heap, gens := s3.gens, drawn := s3.drawn, toks := s3.toks } :=
      I2.call (ch := []) (Un.laid k hp np) (I2.hok.laid k hp ⟨len, out.toList, c, vals_of_strs hi, hg⟩) (by rw [g]; exact I2.bare) (fun _ z => nomatch z)
    have e : s3 = { s2 with heap := s3.heap, gens := s3.gens, drawn := s3.drawn, toks := s3.toks } := by
      cases s3
      cases s2
      cases o
      rfl
    rw [e]
    exact ⟨.ref p, _, J, rfl, q1 ys p hs hn hm np⟩
  have kp : ∀ (h2 : Heap) (tk : Nat), (∀ b o, s1.heap.get? b = some o → h2.get? b = some o) → Inv X pins σ H1 { s1 with heap := h2, toks := tk } := fun h2 tk keep => I1.kept fun b o e => keep b o e
  rcases sq with sq | sq
  · obtain ⟨its, r, pl, _⟩ := I1.list sq
    obtain ⟨ol, nl, gl, cl, _, dl⟩ := pl
    exact set_of_list hd ⟨ol, gl, cl, nl, dl⟩ (by simpa using strsAre_of r) (by unfold scanBound; omega) fun h2 tk R keep => PyProof.Rows.args_nil (go _ (kp h2 tk keep) R)
  · obtain ⟨its, r, pl, _⟩ := I1.tuple sq
    exact set_of_tuple hd pl (by simpa using strsAre_of r) (by unfold scanBound; omega) fun h2 tk R keep => PyProof.Rows.args_nil (go _ (kp h2 tk keep) R)
end
end Xs

/-! v == text, for any value of data. -/
namespace Gy
open PySem PySem.Spec PyProof.Rows L2 Xt
theorem dict_no_str (l : Addr) (es : Array DictEntry) (ep : Nat) (dd : Option Addr) (sl : Array (Option Value)) (b : Str) (u : Tok) :
    Meets (Builtin.«dict.__eq__» ⟨[.ref l, .str b u], []⟩) (fun _ R s => s.heap.get? l = some ⟨.type "dict", dd, .dict es ep, sl⟩ ∧ R (.ok (.ret .notImplemented)) s) := by
  refine .of_wp fun prog w A R s h => ?_
  obtain ⟨hp, g, d, tk, os⟩ := s
  obtain ⟨hl, h⟩ := h
  have f1 : isSubtype (.type "str") (.type "dict") = pure false := by rw [isSubtype_type]; kernel_rfl
  wp_walk using wpAny_loadPart' hl, wpAny_load hl
  exact ⟨_, rfl, h⟩
theorem str_no_dict (l : Addr) (es : Array DictEntry) (ep : Nat) (dd : Option Addr) (sl : Array (Option Value)) (b : Str) (u : Tok) :
    Meets (Builtin.«str.__eq__» ⟨[.str b u, .ref l], []⟩) (fun _ R s => s.heap.get? l = some ⟨.type "dict", dd, .dict es ep, sl⟩ ∧ R (.ok (.ret .notImplemented)) s) := by
  refine .of_wp fun prog w A R s h => ?_
  obtain ⟨hp, g, d, tk, os⟩ := s
  obtain ⟨hl, h⟩ := h
  wp_walk using wpAny_loadPart' hl, wpAny_load hl
  exact ⟨_, rfl, h⟩
theorem rc_dict_str {A : Around} {s : Shared} {l : Addr} {o : Obj} {es : Array DictEntry} {ep : Nat} (b : Str) (u : Tok) (ho : s.heap.get? l = some o) (hc : o.cls = .type "dict") (hd : o.data = .dict es ep) (hu : A.units < cLine)
    {prog : Program} {w : World} {E Q : Value → Shared → Prop} (h : Q (.bool false) s) : wpAny (model prog w) A (richCompare .Eq (.ref l) (.str b u)) Q E s := by
  obtain ⟨cls, dd, dat, sl⟩ := o
  dsimp only at hc hd
  subst hc hd
  refine SeqAt.rc_eq_decline_or (k := false) ⟨_, ho, rfl⟩ (typeIs_str s b u) (by decide) F.sub_str_dict F.slot_dict_eq F.slot_str_eq_refl ?_ ?_ ?_ (.inr hu) h
  · exact fun _ q => call_meets F.slot_dict_eq ⟨_, ho, rfl⟩ F.entry_dict_eq (F.args_dict_eq_2 _ _) (dict_no_str l es ep dd sl b u) ⟨ho, q⟩
  · exact fun _ q => call_meets F.slot_str_eq_refl (typeIs_str s b u) F.entry_str_eq (F.args_str_eq_2 _ _) (str_no_dict l es ep dd sl b u) ⟨ho, q⟩
  · exact fun _ q => wpAny_of_eq (rfl : isSame (.ref l) (.str b u) = pure false) q
/-- whether it is this text -/
def isTx (x : Str) : PyData → Bool
  | .str y => decide (V.str y = V.str x)
  | _ => false
def rEqS (K : PySem.W.Frag) : R2 := fun a b H Q => ∃ (d : PyData) (x : Str), b = .str x ∧ Dn K H a d ∧ Q (.bl (isTx x d)) H
theorem op_eqS {X : Cx} (hu : X.A.units < cLine) : OpR X (compareOp .Eq) (rEqS X.K) := by
  intro pins s σ H a b v u Q I rx ry h
  obtain ⟨d, x, rfl, dn, q⟩ := h
  cases dn with
  | non => exact op_eq pins s σ H _ _ v u Q I rx ry ⟨rfl, q⟩
  | bl c => exact op_eq pins s σ H _ _ v u Q I rx ry ⟨rfl, q⟩
  | int i => exact op_eq pins s σ H _ _ v u Q I rx ry ⟨rfl, q⟩
  | str y => exact op_eq pins s σ H _ _ v u Q I rx ry ⟨rfl, q⟩
  | lst h1 _ =>
    cases rx
    obtain ⟨t, rfl⟩ := ry
    obtain ⟨its, _, hl, _⟩ := I.list (SqL.of h1)
    exact SeqAt.RcAt.list_str x t hl.isList hu _ _ _ _ ⟨.bl false, H, I, rfl, q⟩
  | tup h1 _ =>
    cases rx
    obtain ⟨t, rfl⟩ := ry
    obtain ⟨its, _, ht, _⟩ := I.tuple h1.sq
    exact SeqAt.RcAt.tuple_str x t ht hu _ _ _ _ ⟨.bl false, H, I, rfl, q⟩
  | dic h1 =>
    cases rx
    obtain ⟨t, rfl⟩ := ry
    obtain ⟨_, o, es, ep, g1, g2, g3, _, _⟩ := dict_at I h1
    exact rc_dict_str x t g1 g2 g3 hu ⟨.bl false, H, I, rfl, q⟩
  | dic1 h1 =>
    cases rx
    obtain ⟨t, rfl⟩ := ry
    obtain ⟨_, o, es, ep, _, _, _, g1, g2, g3, _, _, _, _⟩ := dict_at1 I h1
    exact rc_dict_str x t g1 g2 g3 hu ⟨.bl false, H, I, rfl, q⟩
end Gy

/-! v not in a tuple of texts, for any value of data. -/
namespace Gy
open PySem PySem.Spec PyProof.Rows L2 Xt
theorem rc_str_dict {A : Around} {s : Shared} {l : Addr} {o : Obj} {es : Array DictEntry} {ep : Nat} (b : Str) (u : Tok) (ho : s.heap.get? l = some o) (hc : o.cls = .type "dict") (hd : o.data = .dict es ep) (hu : A.units < cLine)
    {prog : Program} {w : World} {E Q : Value → Shared → Prop} (h : Q (.bool false) s) : wpAny (model prog w) A (richCompare .Eq (.str b u) (.ref l)) Q E s := by
  obtain ⟨cls, dd, dat, sl⟩ := o
  dsimp only at hc hd
  subst hc hd
  refine SeqAt.rc_eq_decline_or (k := false) (typeIs_str s b u) ⟨_, ho, rfl⟩ (by decide) F.sub_dict_str F.slot_str_eq F.slot_dict_eq_refl ?_ ?_ ?_ (.inr hu) h
  · exact fun _ q => call_meets F.slot_str_eq (typeIs_str s b u) F.entry_str_eq (F.args_str_eq_2 _ _) (str_no_dict l es ep dd sl b u) ⟨ho, q⟩
  · exact fun _ q => call_meets F.slot_dict_eq_refl ⟨_, ho, rfl⟩ F.entry_dict_eq (F.args_dict_eq_2 _ _) (dict_no_str l es ep dd sl b u) ⟨ho, q⟩
  · exact fun _ q => wpAny_of_eq (rfl : isSame (.str b u) (.ref l) = pure false) q
theorem eq_str_dict {A : Around} {s : Shared} {l : Addr} {o : Obj} {es : Array DictEntry} {ep : Nat} (b : Str) (u : Tok) (ho : s.heap.get? l = some o) (hc : o.cls = .type "dict") (hd : o.data = .dict es ep) (hu : A.units < cLine) : SeqAt.EqAt A s (.str b u) (.ref l) false := fun prog w E Q h => by
  unfold eqBool
  refine wpAny_holding ?_
  refine wpAny_ite_split (fun hab => absurd (eq_of_beq hab) nofun) (fun _ => ?_)
  exact wpAny_bind (rc_str_dict b u ho hc hd hu (wpAny_truthy_bool h))
/-- whether it is one of these texts -/
def memD (xs : List Str) : PyData → Bool
  | .str x => inV (.str x) (xs.map V.str)
  | _ => false
def rNotInT (K : PySem.W.Frag) : R2 := fun a b H Q => ∃ (p : Addr) (d : PyData) (xs : List Str), b = .ref p ∧ SqT K H p (xs.map V.str) ∧ Dn K H a d ∧ Q (.bl (!memD xs d)) H
theorem strs_of : ∀ {xs : List Str} {us : List Value}, Vals (xs.map V.str) us → ∀ u ∈ us, ∃ a t, u = .str a t
  | [], _, .nil => fun u hu => by cases hu
  | x :: xs, _, .cons r t => fun u hu => by
    obtain ⟨tk, rfl⟩ := r
    rcases List.mem_cons.mp hu with rfl | hu
    · exact ⟨_, _, rfl⟩
    · exact strs_of t u hu
theorem flats (xs : List Str) : (xs.map V.str).all flatV = true := by
  induction xs with
  | nil => rfl
  | cons x xs ih => rw [List.map_cons, List.all_cons, ih]; rfl
theorem inV_no {v : V} (h : ∀ x, eqV (.str x) v = false) (xs : List Str) : inV v (xs.map V.str) = false := by
  unfold inV
  rw [List.any_map, List.any_eq_false]
  intro x _
  show ¬ eqV (.str x) v = true
  rw [h]
  exact Bool.false_ne_true
theorem op_notInT {X : Cx} (hu : X.A.units + 64 < cLine) : OpR X (compareOp .NotIn) (rNotInT X.K) := by
  intro pins s σ H a b v u Q I rx ry h
  obtain ⟨p, d, xs, rfl, hs, dn, q⟩ := h
  have hu1 : X.A.in1.units < cLine := by
    have : X.A.in1.units = X.A.units + 1 := rfl
    omega
  have go : (∀ (b : Str) (t : Tok), SeqAt.EqAt X.A.in1 s (.str b t) v false) → (Q (.bl true) H) → wpAny (model X.prog X.w) X.A (compareOp .NotIn v u) (EP X pins σ Q) X.xe s := fun he q => by
    cases ry
    obtain ⟨its, r, pl, hz⟩ := I.tuple hs
    refine SeqAt.notIn_tupleAt (fun _ => false) pl (fun w hw => ?_) ⟨.bl true, H, I, ?_, q⟩
    · obtain ⟨b, t, rfl⟩ := strs_of r w (by simpa using hw)
      exact he b t
    · have : (its.toArray.any fun _ => false) = false := by simp
      rw [this]
      rfl
  have fl : flatV a = true → Q (.bl (!inV a (xs.map V.str))) H → _ := fun fx q => op_notIn_seq pins s σ H a (.ref p) v u Q I rx ry ⟨p, _, rfl, .inr hs, fx, flats xs, q⟩
  cases dn with
  | non => exact fl rfl (by rw [inV_no (fun _ => rfl)]; exact q)
  | bl c => exact fl rfl (by rw [inV_no (fun _ => rfl)]; exact q)
  | int i => exact fl rfl (by rw [inV_no (fun _ => rfl)]; exact q)
  | str y => exact fl rfl q
  | lst h1 _ =>
    cases rx
    obtain ⟨its, _, hl, _⟩ := I.list (SqL.of h1)
    exact go (fun b t => SeqAt.EqAt.str_list b t hl.isList hu1) q
  | tup h1 _ =>
    cases rx
    obtain ⟨its, _, ht, _⟩ := I.tuple h1.sq
    exact go (fun b t => SeqAt.EqAt.str_tuple b t ht hu1) q
  | dic h1 =>
    cases rx
    obtain ⟨_, o, es, ep, g1, g2, g3, _, _⟩ := dict_at I h1
    exact go (fun b t => eq_str_dict b t g1 g2 g3 hu1) q
  | dic1 h1 =>
    cases rx
    obtain ⟨_, o, es, ep, _, _, _, g1, g2, g3, _, _, _, _⟩ := dict_at1 I h1
    exact go (fun b t => eq_str_dict b t g1 g2 g3 hu1) q
def rNotInL (K : PySem.W.Frag) : R2 := fun a b H Q => ∃ (p : Addr) (d : PyData) (xs : List Str), b = .ref p ∧ SqL K H p (xs.map V.str) ∧ Dn K H a d ∧ Q (.bl (!memD xs d)) H
/-- whether any value is none of the texts of a list -/
theorem op_notInL {X : Cx} (hu : X.A.units + 64 < cLine) : OpR X (compareOp .NotIn) (rNotInL X.K) := by
  intro pins s σ H a b v u Q I rx ry h
  obtain ⟨p, d, xs, rfl, hs, dn, q⟩ := h
  have hu1 : X.A.in1.units < cLine := by
    have : X.A.in1.units = X.A.units + 1 := rfl
    omega
  have go : (∀ (b : Str) (t : Tok), SeqAt.EqAt X.A.in1 s (.str b t) v false) → (Q (.bl true) H) → wpAny (model X.prog X.w) X.A (compareOp .NotIn v u) (EP X pins σ Q) X.xe s := fun he q => by
    cases ry
    obtain ⟨its, r, pl, hz⟩ := I.list hs
    refine SeqAt.notIn_listAt (fun _ => false) pl.isList (fun w hw => ?_) ⟨.bl true, H, I, ?_, q⟩
    · obtain ⟨b, t, rfl⟩ := strs_of r w (by simpa using hw)
      exact he b t
    · have : (its.toArray.any fun _ => false) = false := by simp
      rw [this]
      rfl
  have fl : flatV a = true → Q (.bl (!inV a (xs.map V.str))) H → _ := fun fx q => op_notIn_seq pins s σ H a (.ref p) v u Q I rx ry ⟨p, _, rfl, .inl hs, fx, flats xs, q⟩
  cases dn with
  | non => exact fl rfl (by rw [inV_no (fun _ => rfl)]; exact q)
  | bl c => exact fl rfl (by rw [inV_no (fun _ => rfl)]; exact q)
  | int i => exact fl rfl (by rw [inV_no (fun _ => rfl)]; exact q)
  | str y => exact fl rfl q
  | lst h1 _ =>
    cases rx
    obtain ⟨its, _, hl, _⟩ := I.list (SqL.of h1)
    exact go (fun b t => SeqAt.EqAt.str_list b t hl.isList hu1) q
  | tup h1 _ =>
    cases rx
    obtain ⟨its, _, ht, _⟩ := I.tuple h1.sq
    exact go (fun b t => SeqAt.EqAt.str_tuple b t ht hu1) q
  | dic h1 =>
    cases rx
    obtain ⟨_, o, es, ep, g1, g2, g3, _, _⟩ := dict_at I h1
    exact go (fun b t => eq_str_dict b t g1 g2 g3 hu1) q
  | dic1 h1 =>
    cases rx
    obtain ⟨_, o, es, ep, _, _, _, g1, g2, g3, _, _, _, _⟩ := dict_at1 I h1
    exact go (fun b t => eq_str_dict b t g1 g2 g3 hu1) q
end Gy

/-! Own __len__, own __repr__, a list in an f-string by !r; dict comprehensions over any walk; pairs of texts sorted. -/
namespace Xo
open PySem PySem.Spec PyProof.Rows L2 Gy Xt
section
variable {X : Cx} {pins : List (Addr × Obj)} {σ : L2.St} {H : Hp} {s : Shared}
theorem env_in1 (I : Inv X pins σ H s) : Env0 X.prog X.w X.K X.mg X.base X.A.in1 X.stack s H := by
  have e := I.env0
  exact ⟨e.frames, e.mod, e.bs, e.bsz, e.funs, e.frf, e.hok, e.bare⟩
/-- len(o), o of an own class with a __len__ -/
def rLenO (C : Addr) (sp : Sp) (E : XK) : List V → Hp → VK → Prop := fun xs H Q => ∃ a dx fs, xs = [.ref a] ∧ H a = some (.ins C dx fs) ∧ sp [.ref a] H (fun v H' => ∃ n : Nat, v = .int (n : Int) ∧ n < 9223372036854775808 ∧ Q (.int (n : Int)) H') E
theorem call_lenO {CX : CXT} {k : Nat} {C f : Addr} {fd : FuncData} {ps : List Str} {sp : Sp} {E : XK} (F : FnOk X.prog X.w X.K X.mg X.base CX k f fd ps sp) (hr : Room (k + 1) X.A)
    (hm : Meth X.K C "__len__" f) (hb : Binds X.K fd ps []) (hx : Passes CX X E) : CallR X (.builtin "len") (rLenO C sp E) := by
  intro pins s σ H xs us Q I r h
  obtain ⟨a, dx, fs, rfl, ha, q⟩ := h
  obtain ⟨u, rfl, ru⟩ := vals1 r
  cases ru
  obtain ⟨mA, J, _⟩ := ins_get I.hok ha
  obtain ⟨od, J, _⟩ := J.look
  refine Calls.call_function_entry kind_len plain_len entry_len (args_len1 _) ?_
  unfold Builtin.«len»
  refine wpAny_bind (m := oneArg "len" _) (wpAny_pure ?_)
  refine wpAny_bind (m := callSpecial? (.ref a) (Str.ofString "__len__")) (PySem.W.special_fn I.kIn J hm.at_ (beq_iff_eq.mp hm.fn) ?_)
  have hl := F.len _ _ _ _ q
  refine wpAny_call (codeAny_mono (F.run X.A.in1 X.stack s H ⟨[.ref a], []⟩ [.ref a] [.ref a] _ E hr.in1 (env_in1 I) (by
    have := hb s [.ref a] I.kIn (by simpa using hl)
    simpa using this) (.cons rfl .nil) q) fun r s' hq => ?_)
  cases r with
  | error e => exact hx pins σ H s e s' I hq
  | ok fl =>
    cases fl with
    | ret w =>
      obtain ⟨z, H', I', rz, n, rfl, hn, qq⟩ := I.after hq
      obtain ⟨t, rfl⟩ := rz
      refine wpAny_bind (wpAny_holding (wpAny_pure ?_))
      refine wpAny_bind (wpAny_letGo ?_)
      show wpAny _ _ (if (n : Int) < 0 then _ else _) _ _ _
      rw [if_neg (by omega)]
      show wpAny _ _ (if (n : Int) ≥ 2 ^ 63 then _ else _) _ _ _
      rw [if_neg (by omega)]
      exact wpAny_bind (wpAny_mkInt (wpAny_pure ⟨_, rfl, .int n, H', I'.tok _, ⟨_, rfl⟩, qq⟩))
    | next => exact False.elim hq
    | brk => exact False.elim hq
    | cont => exact False.elim hq
/-- repr(o), o of an own class with a __repr__ -/
def rReprO (C : Addr) (sp : Sp) (E : XK) : List V → Hp → VK → Prop := fun xs H Q => ∃ a dx fs, xs = [.ref a] ∧ H a = some (.ins C dx fs) ∧ sp [.ref a] H (fun v H' => ∃ t : Str, v = .str t ∧ Q (.str t) H') E
theorem call_reprO {CX : CXT} {k : Nat} {C f : Addr} {fd : FuncData} {ps : List Str} {sp : Sp} {E : XK} (F : FnG X.prog X.w X.K X.mg X.base CX k f fd ps sp) (gd : X.A.guards = some []) (hr : Room (k + 1) X.A)
    (hm : Meth X.K C "__repr__" f) (hb : Binds X.K fd ps []) (hx : Passes CX X E) : CallR X (.builtin "repr") (rReprO C sp E) := by
  intro pins s σ H xs us Q I r h
  obtain ⟨a, dx, fs, rfl, ha, q⟩ := h
  obtain ⟨u, rfl, ru⟩ := vals1 r
  cases ru
  obtain ⟨mA, J, _⟩ := ins_get I.hok ha
  obtain ⟨od, J, _⟩ := J.look
  refine Calls.call_function_entry PySem.F.kind_repr PySem.F.plain_repr PySem.F.entry_repr (PySem.F.args_repr1 _) ?_
  unfold Builtin.«repr»
  refine wpAny_bind (m := oneArg "repr" _) (wpAny_pure ?_)
  refine wpAny_bind (m := cRoomFor _ _) (wpAny_cRoomFor hr.in1.units0 ?_)
  refine wpAny_bind (m := specialOf (.ref a) (Str.ofString "__repr__")) (wpAny_bind (J.type.here ((PySem.W.looks_findIn I.kIn hm.at_).here ?_)))
  show wpAny _ _ (if (some (Value.ref f)).isNone = true then _ else _) _ _ _
  rw [if_neg (by simp)]
  refine wpAny_bind (m := callSpecialIfBound? (.ref a) (Str.ofString "__repr__") _) (PySem.W.ifBound_K I.kIn J hm.at_ hm.fn ?_)
  have hl := F.ln q
  refine wpAny_call (codeAny_mono (F.go (A := X.A.in1) (outer := X.stack) (s := s) (args := ⟨[.ref a], []⟩) (us := [.ref a]) (vs := [.ref a]) gd hr.in1 (env_in1 I) (by
    have := hb s [.ref a] I.kIn (by simpa using hl)
    simpa using this) (.cons rfl .nil) q) fun r s' hq => ?_)
  cases r with
  | error e => exact hx pins σ H s e s' I hq
  | ok fl =>
    cases fl with
    | ret w =>
      obtain ⟨z, H', I', rz, n, rfl, qq⟩ := I.after hq
      obtain ⟨t, rfl⟩ := rz
      refine wpAny_bind (wpAny_isInstance (T := "str") (b := true) (typeIs_str _ _ _) isSubtype_str_str ?_)
      first
        | exact wpAny_pure ⟨_, rfl, .str n, H', I', ⟨_, rfl⟩, qq⟩
        | (rw [if_pos rfl]; exact wpAny_pure ⟨_, rfl, .str n, H', I', ⟨_, rfl⟩, qq⟩)
        | (simp only [if_true]; exact wpAny_pure ⟨_, rfl, .str n, H', I', ⟨_, rfl⟩, qq⟩)
    | next => exact False.elim hq
    | brk => exact False.elim hq
    | cont => exact False.elim hq
/-- {e!r}, a list of data -/
def tFmtL (K : PySem.W.Frag) (te : TE) : TE := fun σ H Q => te σ H fun x H1 => ∃ a xs ds, x = .ref a ∧ H1 a = some (.lst xs) ∧ Dns K H1 xs ds ∧ PyData.showableAll ds = true ∧ PyData.depthAll ds ≤ 50 ∧ (PyData.shown (.list ds)).length ≤ sizeLine ∧ Q (.str (PyData.shown (.list ds))) H1
theorem pe_fmtL {e : Expr} {te : TE} {pos : Pos} (hg : X.A.guards = some []) (hu : X.A.units + 70 < cLine) (he : PE X e te) : PE X (.FormattedValue e 114 none pos) (tFmtL X.K te) := by
  refine ⟨fun pins s σ H Q I h => ?_⟩
  refine wpAny_FormattedValue_repr (thn (he.run pins s σ H _ I h) fun v s1 hv => ?_)
  obtain ⟨x, H1, I1, r1, a, ys, ds, rfl, h, ha, sh, dp, len, q⟩ := hv
  cases r1
  have len' : (listText (PyData.shownAll ds)).length ≤ sizeLine := by simpa only [PyData.shown] using len
  have fin : ∀ (h' : Heap) (x : Tok) (tk : Nat), (∀ b o, s1.heap.get? b = some o → h'.get? b = some o) → wpAny (model X.prog X.w) X.A (formatField (.str (PyData.shown (.list ds)) x) Str.empty) (EP X pins σ Q) X.xe { s1 with heap := h', toks := tk } := fun h' x tk hk =>
    wpAny_formatField_str ⟨.str _, H1, I1.kept hk, ⟨x, rfl⟩, q⟩ ⟨.str _, H1, (I1.kept hk).tok _, ⟨_, rfl⟩, q⟩ len
  obtain ⟨its, rv, ⟨o, n, g1, g2, _, g3⟩, _⟩ := I1.list (SqL.of h)
  obtain ⟨as, bs, rd, at_, sw⟩ := Dns.shows I1 ha rv sh fun t ht => Nat.le_trans (listText_mem_le ht) len'
  have out : a ∉ bs := not_mem_of_deeper (.list g1 g2 g3 rd) (by simp only [PyData.depth]; omega) at_
  match its, rv, g3, rd, sw with
  | [], rv, g3, rd, _ =>
    cases rd
    refine wpAny_pyReprObj_list_empty ⟨o, g1, g2⟩ (by omega) g1 g3 ?_
    have z := fin s1.heap s1.toks (s1.toks + 1) (fun _ _ e => e)
    simpa only [PyData.shown, PyData.shownAll, listText_nil] using z
  | x :: rest, _, g3, _, sw =>
    refine wpAny_pyReprObj_listK g1 g2 g3 out (by simpa using sw.length_eq) (fun i y e => sw.item i y (by simpa using e)) (g := []) hg (fun b _ => Clear.nil b) (d := PyData.depthAll ds) ?_ (fun _ _ e => e) (fun h' u tk hk => fin h' u tk hk) len'
    omega
end
/-- a dict comprehension over a walk -/
theorem dc_it {J : It} {n : Nat} {G : Hp → Prop} {Y : Nat → Hp → V → Hp → Prop} (w : Walk J n G Y) {g : TG} {tt : TT} {tk tv : TE} {vs : List Nat} {σ : L2.St} {H1 : Hp} {D : Addr} {Qd : Hp → Prop} (Pv : Nat → Hp → Prop) (h0 : Pv 0 (upd H1 D (.dK []))) (hG : ∀ i H, i ≤ n → Pv i H → G H)
    (hs : ∀ i x H H', i < n → Pv i H → Y i H x H' → g x (wipe σ vs) H' fun σ2 H2 => wipe σ2 vs = wipe σ vs ∧ tt σ2 H2 fun b H3 =>
      if b = true then tk σ2 H3 fun y H4 => tv σ2 H4 fun z H5 => ∃ kvs k, y = kV k ∧ H5 D = some (.dK kvs) ∧ kvs.length < sizeLine ∧ Pv (i + 1) (upd H5 D (.dK (putK kvs k z))) else Pv (i + 1) H3) (hd : ∀ H, Pv n H → Qd H) :
    ∃ W : Nat → Nat → Hp → Prop, (∃ m, W 0 m (upd H1 D (.dK []))) ∧ ∀ i m H, W i m H →
      (J.stop i H ∧ Qd H) ∨ (J.go i H ∧ ∃ Nx : Hp → Prop, (∀ H', Nx H' → ∃ m', m' < m ∧ W (i + 1) m' H') ∧ ∀ x H', J.yld i H x H' → g x (wipe σ vs) H' fun σ2 H2 => wipe σ2 vs = wipe σ vs ∧ tt σ2 H2 fun b H3 =>
        if b = true then tk σ2 H3 fun y H4 => tv σ2 H4 fun z H5 => ∃ kvs k, y = kV k ∧ H5 D = some (.dK kvs) ∧ kvs.length < sizeLine ∧ Nx (upd H5 D (.dK (putK kvs k z))) else Nx H3) := by
  refine ⟨fun i m H => m = n - i ∧ i ≤ n ∧ Pv i H, ⟨n, by simp, Nat.zero_le _, h0⟩, ?_⟩
  rintro i m H ⟨rfl, hi, p⟩
  have q := hG i H hi p
  by_cases hlt : i < n
  · refine .inr ⟨w.goes i H hlt q, Pv (i + 1), fun H' p' => ⟨n - (i + 1), by omega, rfl, hlt, p'⟩, fun x H' y => hs i x H H' hlt p (w.yields i H x H' hlt q y)⟩
  · have e : i = n := by omega
    subst e
    exact .inl ⟨w.stops H q, hd H p⟩
/-- the inner walk of a comprehension with two -/
theorem lc_in {J1 : It} {n : Nat} {G : Hp → Prop} {Y : Nat → Hp → V → Hp → Prop} (w : Walk J1 n G Y) {g1 : TG} {tt1 : TT} {te : TE} {vs1 : List Nat} {σ2 : L2.St} {H4 : Hp} {D : Addr} {Nx : Hp → Prop} (Pv : Nat → Hp → Prop) (h0 : Pv 0 H4) (hG : ∀ i H, i ≤ n → Pv i H → G H)
    (hs : ∀ i x H H', i < n → Pv i H → Y i H x H' → g1 x (wipe σ2 vs1) H' fun σ3 H5 => wipe σ3 vs1 = wipe σ2 vs1 ∧ tt1 σ3 H5 fun b H6 =>
      if b = true then te σ3 H6 fun y H7 => ∃ acc, H7 D = some (.lst acc) ∧ acc.length < sizeLine ∧ Pv (i + 1) (upd H7 D (.lst (acc ++ [y]))) else Pv (i + 1) H6) (hd : ∀ H, Pv n H → Nx H) :
    ∃ W1 : Nat → Nat → Hp → Prop, (∃ m, W1 0 m H4) ∧ ∀ j k H, W1 j k H →
      (J1.stop j H ∧ Nx H) ∨ (J1.go j H ∧ ∃ Nx1 : Hp → Prop, (∀ H', Nx1 H' → ∃ k', k' < k ∧ W1 (j + 1) k' H') ∧ ∀ x H', J1.yld j H x H' → g1 x (wipe σ2 vs1) H' fun σ3 H5 => wipe σ3 vs1 = wipe σ2 vs1 ∧ tt1 σ3 H5 fun b H6 =>
        if b = true then te σ3 H6 fun y H7 => ∃ acc, H7 D = some (.lst acc) ∧ acc.length < sizeLine ∧ Nx1 (upd H7 D (.lst (acc ++ [y]))) else Nx1 H6) := by
  refine ⟨fun i m H => m = n - i ∧ i ≤ n ∧ Pv i H, ⟨n, by simp, Nat.zero_le _, h0⟩, ?_⟩
  rintro i m H ⟨rfl, hi, p⟩
  have q := hG i H hi p
  by_cases hlt : i < n
  · refine .inr ⟨w.goes i H hlt q, Pv (i + 1), fun H' p' => ⟨n - (i + 1), by omega, rfl, hlt, p'⟩, fun x H' y => hs i x H H' hlt p (w.yields i H x H' hlt q y)⟩
  · have e : i = n := by omega
    subst e
    exact .inl ⟨w.stops H q, hd H p⟩
/-- the outer walk -/
theorem lc_out {J : It} {n : Nat} {G : Hp → Prop} {Y : Nat → Hp → V → Hp → Prop} (w : Walk J n G Y) {g g1 : TG} {tt tt1 : TT} {wi1 : TI} {te : TE} {vs vs1 : List Nat} {σ : L2.St} {H1 : Hp} {D : Addr} {Qd : Hp → Prop} (Pv : Nat → Hp → Prop) (h0 : Pv 0 (upd H1 D (.lst []))) (hG : ∀ i H, i ≤ n → Pv i H → G H)
    (hs : ∀ i x H H', i < n → Pv i H → Y i H x H' → g x (wipe σ vs) H' fun σ2 H2 => wipe σ2 vs = wipe σ vs ∧ tt σ2 H2 fun b H3 =>
      if b = true then wi1 σ2 H3 fun J1 H4 => ∃ W1 : Nat → Nat → Hp → Prop, (∃ m, W1 0 m H4) ∧ ∀ j k H, W1 j k H →
        (J1.stop j H ∧ Pv (i + 1) H) ∨ (J1.go j H ∧ ∃ Nx1 : Hp → Prop, (∀ H', Nx1 H' → ∃ k', k' < k ∧ W1 (j + 1) k' H') ∧ ∀ x H', J1.yld j H x H' → g1 x (wipe σ2 vs1) H' fun σ3 H5 => wipe σ3 vs1 = wipe σ2 vs1 ∧ tt1 σ3 H5 fun b H6 =>
          if b = true then te σ3 H6 fun y H7 => ∃ acc, H7 D = some (.lst acc) ∧ acc.length < sizeLine ∧ Nx1 (upd H7 D (.lst (acc ++ [y]))) else Nx1 H6)
      else Pv (i + 1) H3) (hd : ∀ H, Pv n H → Qd H) :
    ∃ W : Nat → Nat → Hp → Prop, (∃ m, W 0 m (upd H1 D (.lst []))) ∧ ∀ i m H, W i m H →
      (J.stop i H ∧ Qd H) ∨ (J.go i H ∧ ∃ Nx : Hp → Prop, (∀ H', Nx H' → ∃ m', m' < m ∧ W (i + 1) m' H') ∧ ∀ x H', J.yld i H x H' → g x (wipe σ vs) H' fun σ2 H2 => wipe σ2 vs = wipe σ vs ∧ tt σ2 H2 fun b H3 =>
        if b = true then wi1 σ2 H3 fun J1 H4 => ∃ W1 : Nat → Nat → Hp → Prop, (∃ m, W1 0 m H4) ∧ ∀ j k H, W1 j k H →
          (J1.stop j H ∧ Nx H) ∨ (J1.go j H ∧ ∃ Nx1 : Hp → Prop, (∀ H', Nx1 H' → ∃ k', k' < k ∧ W1 (j + 1) k' H') ∧ ∀ x H', J1.yld j H x H' → g1 x (wipe σ2 vs1) H' fun σ3 H5 => wipe σ3 vs1 = wipe σ2 vs1 ∧ tt1 σ3 H5 fun b H6 =>
            if b = true then te σ3 H6 fun y H7 => ∃ acc, H7 D = some (.lst acc) ∧ acc.length < sizeLine ∧ Nx1 (upd H7 D (.lst (acc ++ [y]))) else Nx1 H6)
        else Nx H3) := by
  refine ⟨fun i m H => m = n - i ∧ i ≤ n ∧ Pv i H, ⟨n, by simp, Nat.zero_le _, h0⟩, ?_⟩
  rintro i m H ⟨rfl, hi, p⟩
  have q := hG i H hi p
  by_cases hlt : i < n
  · refine .inr ⟨w.goes i H hlt q, Pv (i + 1), fun H' p' => ⟨n - (i + 1), by omega, rfl, hlt, p'⟩, fun x H' y => hs i x H H' hlt p (w.yields i H x H' hlt q y)⟩
  · have e : i = n := by omega
    subst e
    exact .inl ⟨w.stops H q, hd H p⟩
end Xo
/-! ### pairs of texts sorted -/
namespace Xp
open PySem PyProof.Rows Srt SrtO
def ltS (x y : Str) : Bool := decide (x.cps.toList < y.cps.toList)
theorem ltS_tri {x y : Str} (h1 : ltS x y = false) (h2 : ltS y x = false) : x = y := by
  have e : x.cps.toList = y.cps.toList := List.le_antisymm (List.not_lt.mp (of_decide_eq_false h2)) (List.not_lt.mp (of_decide_eq_false h1))
  cases x with
  | mk a =>
    cases y with
    | mk b =>
      have e' : a.toList = b.toList := e
      rw [Array.toList_inj.mp e']
theorem ltS_irr (x : Str) : ltS x x = false := decide_eq_false (List.lt_irrefl _)
theorem ltS_asym {x y : Str} (h : ltS x y = true) : ltS y x = false := decide_eq_false fun z => List.lt_irrefl _ (List.lt_trans (of_decide_eq_true h) z)
theorem ltS_trans {x y z : Str} (h1 : ltS x y = true) (h2 : ltS y z = true) : ltS x z = true := decide_eq_true (List.lt_trans (of_decide_eq_true h1) (of_decide_eq_true h2))
theorem ltS_ntr {x y z : Str} (h1 : ltS y x = false) (h2 : ltS z y = false) : ltS z x = false := by
  cases h : ltS z x with
  | false => rfl
  | true =>
    cases h3 : ltS x y with
    | true =>
      rw [ltS_trans h h3] at h2
      cases h2
    | false =>
      have := ltS_tri h1 h3
      subst this
      rw [h] at h2
      cases h2
/-- by the first, then by the second -/
def lexS (p q : Str × Str) : Bool := if p.1 = q.1 then ltS p.2 q.2 else ltS p.1 q.1
theorem lexS_swo {α : Type} (k : α → Str × Str) : Swo fun v u => lexS (k v) (k u) := by
  refine ⟨fun x y h => ?_, fun x y z h1 h2 => ?_⟩
  · skip
    unfold lexS at h ⊢
    by_cases e : (k x).1 = (k y).1
    · rw [if_pos e] at h
      rw [if_pos e.symm]
      exact ltS_asym h
    · rw [if_neg e] at h
      rw [if_neg fun z => e z.symm]
      exact ltS_asym h
  · skip
    unfold lexS at h1 h2 ⊢
    by_cases e1 : (k y).1 = (k x).1
    · by_cases e2 : (k z).1 = (k y).1
      · rw [if_pos e1] at h1
        rw [if_pos e2] at h2
        rw [if_pos (e2.trans e1)]
        exact ltS_ntr h1 h2
      · rw [if_neg e2] at h2
        rw [if_neg fun w => e2 (w.trans e1.symm), ← e1]
        exact h2
    · rw [if_neg e1] at h1
      by_cases e2 : (k z).1 = (k y).1
      · rw [if_neg fun w => e1 (e2.symm.trans w), e2]
        exact h1
      · rw [if_neg e2] at h2
        have h3 := ltS_ntr h1 h2
        by_cases e3 : (k z).1 = (k x).1
        · rw [e3] at h2
          exact absurd (ltS_tri h1 h2) e1
        · rw [if_neg e3]
          exact h3
def IsPr (h : Heap) (v : Value) (x y : Str) : Prop := ∃ a o t u n, v = .ref a ∧ h.get? a = some o ∧ o.cls = .type "tuple" ∧ o.data = .seq #[.str x t, .str y u] n
theorem IsPr.keeps {h h' : Heap} {v : Value} {x y : Str} (p : IsPr h v x y) (k : ∀ b o, h.get? b = some o → o.cls = .type "tuple" → h'.get? b = some o) : IsPr h' v x y := by
  obtain ⟨a, o, t, u, n, e, ho, hc, hd⟩ := p
  exact ⟨a, o, t, u, n, e, k a o ho hc, hc, hd⟩
theorem pr_firsts {h : Heap} : ∀ {vs : List Value}, (∀ v ∈ vs, ∃ x y, IsPr h v x y) → ∃ fs : List Value, PySem.W.KatTups h vs fs ∧ fs.length = vs.length ∧ ∀ f ∈ fs, ∃ x t, f = Value.str x t
  | [], _ => ⟨[], PySem.W.KatTups.nil, rfl, fun f hf => by simp at hf⟩
  | v :: vs, x => by
    obtain ⟨fs, k, hl, hi⟩ := pr_firsts (vs := vs) fun u hu => x u (List.mem_cons_of_mem _ hu)
    obtain ⟨y, z, a, o, t, u, n, rfl, ho, hc, hd⟩ := x v List.mem_cons_self
    refine ⟨.str y t :: fs, PySem.W.KatTups.cons ho hc hd rfl k, by rw [List.length_cons, List.length_cons, hl], fun f hf => ?_⟩
    rcases List.mem_cons.mp hf with rfl | hf
    · exact ⟨y, t, rfl⟩
    · exact hi f hf
section
variable {prog : Program} {w : World} {A : Around} {E : Value → Shared → Prop} {s : Shared}
theorem pr_cmp {vs : List Value} {k : Value → Str × Str} (hp : ∀ v ∈ vs, IsPr s.heap v (k v).1 (k v).2) : Cmp prog w A s (tuples' true) (fun p => p.1 ∈ vs) (lt2 fun v u => lexS (k v) (k u)) := by
  intro p q hm hm'
  have h1 := hp _ hm
  have h2 := hp _ hm'
  show wpAny (model prog w) A (keyLt' (tuples' true) p.1 q.1) (fun r s' => s' = s ∧ r = lexS (k p.1) (k q.1)) (fun _ _ => False) s
  unfold lexS
  generalize (k p.1).1 = x at h1 ⊢
  generalize (k p.1).2 = y at h1 ⊢
  generalize (k q.1).1 = x' at h2 ⊢
  generalize (k q.1).2 = y' at h2 ⊢
  obtain ⟨a, o, t, u, n, e, ho, hc, hd⟩ := h1
  obtain ⟨a', o', t', u', n', e', ho', hc', hd'⟩ := h2
  rw [e, e']
  refine PySem.W.kat_lt ho hd ho' hd' ?_
  show PySem.W.KatLex prog w A true (decide (2 < 2)) _ [(.str x t, .str x' t'), (.str y u, .str y' u')] 0 s
  refine PySem.W.kat_cons (SeqAt.EqAt.str_str x t x' t' prog w _ _ ?_)
  refine PySem.W.kat_go (fun e1 => ?_) (fun e1 => ?_)
  · have ex : x = x' := by simpa using e1
    refine PySem.W.kat_yes (PySem.W.kat_cons (SeqAt.EqAt.str_str y u y' u' prog w _ _ ?_))
    refine PySem.W.kat_go (fun e2 => ?_) (fun e2 => ?_)
    · have ey : y = y' := by simpa using e2
      have e3 : (if x = x' then ltS y y' else ltS x x') = false := by
        rw [if_pos ex, ey]
        exact ltS_irr _
      exact PySem.W.kat_yes (PySem.W.kat_nil ⟨rfl, e3.symm⟩)
    · have e3 : (if x = x' then ltS y y' else ltS x x') = ltS y y' := if_pos ex
      refine PySem.W.kat_no (PySem.W.kat_one _ _ (PyProof.Rows.lt_str ?_))
      exact (show s = s ∧ decide (y.cps.toList < y'.cps.toList) = (if x = x' then ltS y y' else ltS x x') from ⟨rfl, e3.symm⟩)
  · have ex : ¬ x = x' := by simpa using e1
    have e3 : (if x = x' then ltS y y' else ltS x x') = ltS x x' := if_neg ex
    exact PySem.W.kat_no (oneLt_str ⟨rfl, e3.symm⟩)
theorem pr_sortable {a : Addr} {vs : List Value} {k : Value → Str × Str} (h0 : 0 < vs.length) (hp : ∀ v ∈ vs, IsPr s.heap v (k v).1 (k v).2) (ha : ∀ o, s.heap.get? a = some o → o.cls ≠ .type "tuple") : SortableO prog w A s a vs fun v u => lexS (k v) (k u) := by
  intro h' keep
  have hp' : ∀ v ∈ vs, IsPr h' v (k v).1 (k v).2 := fun v hm => (hp v hm).keeps fun b o e c => keep b o (fun z => by subst z; exact ha o e c) e
  obtain ⟨fs, h1, h2, h3⟩ := pr_firsts fun v hm => ⟨_, _, hp' v hm⟩
  refine ⟨tuples' true, fun Q E hq => ?_, pr_cmp hp'⟩
  refine PySem.W.kat_kind (T := .type "str") h1 (by omega) (fun f hm => ?_) (by rfl) ?_
  · obtain ⟨x, t, rfl⟩ := h3 f hm
    exact PySem.W.Looks.now
  · have e : (Value.type "str" != Value.type "tuple") = true := by first | decide +kernel | rfl | decide
    rw [e]
    exact hq
theorem sorted_prs {l : Addr} {vs : List Value} {k : Value → Str × Str} {Q : Value → Shared → Prop} (hl : s.heap.IsList l vs.toArray) (hz : vs.length ≤ sizeLine) (hp : ∀ v ∈ vs, IsPr s.heap v (k v).1 (k v).2)
    (h : ∀ (h' : Heap) (d : Addr) (out : List Value), Srtd (fun v u => lexS (k v) (k u)) out → Stb (fun v u => lexS (k v) (k u)) out vs → (∀ b o, s.heap.get? b = some o → h'.get? b = some o) → s.heap.objs.size ≤ d → (∃ n, h'.get? d = some (seqObj "list" out.toArray n)) → Q (.ref d) { s with heap := h' }) :
    wpAny (model prog w) A (call (.builtin "sorted") [.ref l]) Q E s := by
  refine sorted_ord (lexS_swo k) hl hz (fun h2 h₁ a ha kk => ?_) fun out hs hb => ?_
  · refine pr_sortable (s := { s with heap := h₁ }) (by omega) (fun v hm => (hp v hm).keeps fun b o e _ => (kk b o e).2) fun o e => ?_
    have e' : some o = some (seqObj "list" vs.toArray 0) := e.symm.trans ha
    cases e'
    intro c
    exact absurd (Value.type.inj c) (by decide)
  · exact h _ _ out hs hb (fun b o e => sortedAll_old e) (Nat.le_succ _) (sortedAll_at s.heap vs out.toArray)
end
end Xp
namespace Xp
open PySem PySem.Spec PyProof.Rows L2 Gy Xt
/-- the pair of texts at a place -/
def prOf (H : Hp) : V → Str × Str
  | .ref t => match H t with
    | some (.frz _ (.tup [.str a, .str b])) => (a, b)
    | _ => ("", "")
  | _ => ("", "")
theorem prOf_of {H : Hp} {t : Addr} {a b : Str} (h : Tz H t [.str a, .str b]) : prOf H (.ref t) = (a, b) := by
  obtain ⟨o, e, _⟩ := h
  simp only [prOf, e]
/-- v is the pair p -/
def Pr (H : Hp) (v : V) (p : Str × Str) : Prop := ∃ t, v = .ref t ∧ Tz H t [.str p.1, .str p.2]
theorem Pr.of {H : Hp} {v : V} {p : Str × Str} (h : Pr H v p) : prOf H v = p := by
  obtain ⟨t, rfl, z⟩ := h
  exact prOf_of z
theorem Pr.same {H H' : Hp} {v : V} {p : Str × Str} (h : Pr H v p) (s : Same H H') : Pr H' v p := by
  obtain ⟨t, e, z⟩ := h
  exact ⟨t, e, z.same s⟩
inductive Prs (H : Hp) : List V → List (Str × Str) → Prop
  | nil : Prs H [] []
  | cons {v : V} {p : Str × Str} {vs : List V} {ps : List (Str × Str)} (h : Pr H v p) (t : Prs H vs ps) : Prs H (v :: vs) (p :: ps)
theorem Prs.same {H H' : Hp} {vs : List V} {ps : List (Str × Str)} (h : Prs H vs ps) (s : Same H H') : Prs H' vs ps := by
  induction h with
  | nil => exact .nil
  | cons h t ih => exact .cons (h.same s) ih
theorem Prs.map {H : Hp} {vs : List V} {ps : List (Str × Str)} (h : Prs H vs ps) : ps = vs.map (prOf H) := by
  induction h with
  | nil => rfl
  | cons h t ih => rw [List.map_cons, h.of, ← ih]
theorem Prs.mem {H : Hp} {vs : List V} {ps : List (Str × Str)} (h : Prs H vs ps) : ∀ v ∈ vs, Pr H v (prOf H v) := by
  induction h with
  | nil => exact fun v z => nomatch z
  | @cons v p vs ps h t ih =>
    intro x hx
    rcases List.mem_cons.mp hx with rfl | hx
    · rw [h.of]
      exact h
    · exact ih x hx
theorem Prs.of {H : Hp} : ∀ {vs : List V}, (∀ v ∈ vs, Pr H v (prOf H v)) → Prs H vs (vs.map (prOf H))
  | [], _ => .nil
  | v :: vs, h => .cons (h v List.mem_cons_self) (Prs.of fun x hx => h x (List.mem_cons_of_mem _ hx))
theorem Prs.length {H : Hp} {vs : List V} {ps : List (Str × Str)} (h : Prs H vs ps) : vs.length = ps.length := by
  rw [h.map, List.length_map]
theorem Prs.snoc {H : Hp} {vs : List V} {ps : List (Str × Str)} {v : V} {p : Str × Str} (h : Prs H vs ps) (g : Pr H v p) : Prs H (vs ++ [v]) (ps ++ [p]) := by
  induction h with
  | nil => exact .cons g .nil
  | cons h t ih => exact .cons h ih
theorem Prs.get {H : Hp} {vs : List V} {ps : List (Str × Str)} (h : Prs H vs ps) {i : Nat} {v : V} (e : vs[i]? = some v) : ∃ p, ps[i]? = some p ∧ Pr H v p := by
  induction h generalizing i with
  | nil => simp at e
  | @cons w p vs ps h t ih =>
    cases i with
    | zero =>
      simp only [List.getElem?_cons_zero, Option.some.injEq] at e
      subst e
      exact ⟨p, rfl, h⟩
    | succ i =>
      simp only [List.getElem?_cons_succ] at e
      exact ih e
def prD (p : Str × Str) : PyData := .tuple [.str p.1, .str p.2]
theorem Prs.dns {K : PySem.W.Frag} {H : Hp} {vs : List V} {ps : List (Str × Str)} (h : Prs H vs ps) : Dns K H vs (ps.map prD) := by
  induction h with
  | nil => exact .nil
  | cons h t ih =>
    obtain ⟨t, rfl, z⟩ := h
    exact .cons (.tup z (.cons (.str _) (.cons (.str _) .nil))) ih
def leQ (p q : Str × Str) : Prop := lexS q p = false
/-- sorted(xs), xs a list of pairs of texts -/
def rSortQ (K : PySem.W.Frag) : List V → Hp → VK → Prop := fun vs H Q => ∃ (a : Addr) (xs : List V) (ps : List (Str × Str)), vs = [.ref a] ∧ SqL K H a xs ∧ Prs H xs ps ∧
  ∀ (ys : List V) (qs : List (Str × Str)) (p : Addr), qs.Perm ps → qs.Pairwise leQ → Prs H ys qs → H p = none → Q (.ref p) (upd H p (.lst ys))
section
variable {X : Cx}
theorem cr_sortQ : CallR X (.builtin "sorted") (rSortQ X.K) := by
  intro pins s σ H vs us Q I r h
  obtain ⟨a, xs, ps, rfl, hs, hp, q⟩ := h
  obtain ⟨its, rv, hl, hz⟩ := I.list hs
  obtain ⟨u, rfl, ru⟩ := vals1 r
  obtain rfl : u = Value.ref a := ru
  have hx := hp.mem
  obtain ⟨e1, e2⟩ := refs_back rv fun x m => by
    obtain ⟨t, e, _⟩ := hx x m
    exact ⟨t, e⟩
  refine sorted_prs (k := fun u => prOf H (backV u)) hl.isList (by rw [← rv.length]; exact hz) (fun v hv => ?_) fun h' d out h1 h2 kp hd hn => ?_
  · obtain ⟨t, rfl⟩ := e2 v hv
    have hm : V.ref t ∈ xs := by rw [e1]; exact List.mem_map.mpr ⟨_, hv, rfl⟩
    obtain ⟨t', e, z⟩ := hx _ hm
    cases e
    obtain ⟨its2, r2, ⟨o, ho, hc, n, hd⟩, _⟩ := I.tuple z.sq
    obtain ⟨u1, u2, rfl, ri, rj⟩ := vals2 r2
    obtain ⟨t1, rfl⟩ := ri
    obtain ⟨t2, rfl⟩ := rj
    exact ⟨t, o, t1, t2, n, rfl, ho, hc, hd⟩
  · have h3 : ∀ u ∈ out, ∃ a, u = Value.ref a := fun u hu => e2 u (h2.perm.mem_iff.mp hu)
    obtain ⟨n, hn⟩ := hn
    have pm : (out.map backV).Perm xs := by
      rw [e1]
      exact h2.perm.map backV
    have hy : Prs H (out.map backV) ((out.map backV).map (prOf H)) := Prs.of fun v hv => hx v (pm.mem_iff.mp hv)
    have pm2 : ((out.map backV).map (prOf H)).Perm ps := by
      rw [hp.map]
      exact pm.map _
    refine ⟨.ref d, upd H d (.lst (out.map backV)), I.laid (t' := s.toks) kp hd ⟨?_, out, n, vals_back h3, hn⟩, rfl, q _ _ d pm2 ?_ hy (I.hok.fresh hd)⟩
    · rw [pm.length_eq]
      exact hz
    · rw [List.map_map]
      exact List.pairwise_map.mpr h1
end
/-- one sorted arrangement -/
theorem leQ_anti {p q : Str × Str} (h1 : leQ p q) (h2 : leQ q p) : p = q := by
  unfold leQ lexS at h1 h2
  by_cases e : p.1 = q.1
  · rw [if_pos e.symm] at h1
    rw [if_pos e] at h2
    exact Prod.ext e (ltS_tri h2 h1)
  · rw [if_neg fun z => e z.symm] at h1
    rw [if_neg e] at h2
    exact absurd (ltS_tri h2 h1) e
theorem sortQ_one : ∀ {ys zs : List (Str × Str)}, ys.Perm zs → ys.Pairwise leQ → zs.Pairwise leQ → ys = zs
  | [], zs, p, _, _ => (List.Perm.eq_nil p.symm).symm
  | y :: ys, [], p, _, _ => absurd (List.Perm.eq_nil p) (by simp)
  | y :: ys, z :: zs, p, h1, h2 => by
    have e : y = z := by
      have m1 : y ∈ z :: zs := p.mem_iff.mp List.mem_cons_self
      have m2 : z ∈ y :: ys := p.mem_iff.mpr List.mem_cons_self
      rcases List.mem_cons.mp m1 with e | m1
      · exact e
      · rcases List.mem_cons.mp m2 with e | m2
        · exact e.symm
        · exact leQ_anti ((List.pairwise_cons.mp h1).1 z m2) ((List.pairwise_cons.mp h2).1 y m1)
    subst e
    rw [sortQ_one (List.perm_cons y |>.mp p) (List.pairwise_cons.mp h1).2 (List.pairwise_cons.mp h2).2]
end Xp

/-! A method's call in a try: what is raised is wished for at the caller's slots. -/
namespace Xo
open PySem PySem.Spec PyProof.Rows L2 Gy Xt
section
variable {X : Cx} {CX : CXT} {k : Nat} {f C : Addr} {fd : FuncData} {ps : List Str} {sp : Sp} {E : L2.St → XK} {m : Str} {pos apos : Pos} {e o : Expr} {es : List Expr} {ta : TE} {t : TA}
def tMethT (C : Addr) (m : Str) (sp : Sp) (E : L2.St → XK) (ta : TE) (t : TA) : TE := fun σ H Q => ta σ H fun x H1 => ∃ a dx fs, x = .ref a ∧ H1 a = some (.ins C dx fs) ∧ fs.lookup m = none ∧ t σ H1 fun vs H2 => sp (x :: vs) H2 Q (E σ)
theorem pe_methT {pl : Sem Bool} (he : PE X o ta) (c : Cls X.K C) (hm : Meth X.K C m f) (F : FnOk X.prog X.w X.K X.mg X.base CX k f fd ps sp) (hr : Room k X.A) (hb : Binds X.K fd ps []) (hx : ∀ σ, PassesAt CX X σ (E σ)) (ha : PA X (e :: es) t)
    (h1 : starEach (e :: es) X.env = (false, eval e X.env) :: starEach es X.env := by rfl) (h2 : (backTo pos (starEach es X.env)).any (·.1) = false := by rfl)
    (h3 : eval (.Call (.Attribute o m apos) (e :: es) [] pos) X.env = (do let ov ← eval o X.env; standAt apos.atName; let (f, first) ← holding [ov] (getMethod ov m pl); callWith pos f first (backTo pos (starEach (e :: es) X.env)) (backToKw pos (keywordEach [] X.env))) := by rfl) :
    PE X (.Call (.Attribute o m apos) (e :: es) [] pos) (tMethT C m sp E ta t) := by
  constructor
  intro pins s σ H Q I h
  refine PySem.W.methodCall_KW (pl := pl) (thn (he.run pins s σ H _ I h) fun u s1 w1 => ?_) h3
  obtain ⟨x, H1, I1, rx, a, dx, fs, rfl, ea, l, q⟩ := w1
  obtain rfl : u = .ref a := rx
  refine getmeth_ok I1 ea c hm l (PySem.W.callWith_K (first := [.ref a]) (h₀ := X.base) I.ok.mod.kin hm.kp (thn (ha.run pos pins s1 σ H1 _ I1 q) fun us s2 w2 => ?_) h1 h2)
  obtain ⟨vs, H2, I2, r, q2⟩ := w2
  exact ⟨I2.kIn, run_fnS (us := .ref a :: us) (vs := .ref a :: vs) F hr hb (hx σ) I2 (.cons rfl r) q2⟩
def tMethK (C : Addr) (m : Str) (n : Nat) (sp : Sp) (gV : List V → List V → List V) (E : XK) (ta : TE) (tk : TA) : TE := fun σ H Q => ta σ H fun x H1 => ∃ a dx fs, x = .ref a ∧ H1 a = some (.ins C dx fs) ∧ fs.lookup m = none ∧ tk σ H1 fun zs H2 => zs.length = n ∧ sp (gV [x] zs) H2 Q E
/-- o.m(k = v, ..) -/
theorem pe_methK {pl : Sem Bool} {ks : List Str} {E : XK} {kws : List Keyword} {tk : TA} {g : List Value → List Value → List Value} {gV : List V → List V → List V} (he : PE X o ta) (c : Cls X.K C) (hm : Meth X.K C m f) (F : FnOk X.prog X.w X.K X.mg X.base CX k f fd ps sp) (hr : Room k X.A) (hb : KBn X.K fd ps 1 ks g gV) (hx : Passes CX X E) (hkw : PK X kws tk)
    (h1 : (backToKw pos (keywordEach kws X.env)).all (·.1.isSome) = true := by rfl) (h4 : (backToKw pos (keywordEach kws X.env)).filterMap (·.1) = ks := by rfl) (h2 : ((backTo pos (starEach [] X.env)).any (·.1) || (backToKw pos (keywordEach kws X.env)).any (·.1.isNone)) = false := by rfl)
    (h3 : eval (.Call (.Attribute o m apos) [] kws pos) X.env = (do let ov ← eval o X.env; standAt apos.atName; let (f, first) ← holding [ov] (getMethod ov m pl); callWith pos f first (backTo pos (starEach [] X.env)) (backToKw pos (keywordEach kws X.env))) := by rfl) :
    PE X (.Call (.Attribute o m apos) [] kws pos) (tMethK C m ks.length sp gV E ta tk) := by
  constructor
  intro pins s σ H Q I h
  refine PySem.W.methodCall_KW (pl := pl) (thn (he.run pins s σ H _ I h) fun u s1 w1 => ?_) h3
  obtain ⟨x, H1, I1, rx, a, dx, fs, rfl, ea, l, q⟩ := w1
  obtain rfl : u = .ref a := rx
  refine getmeth_ok I1 ea c hm l (PySem.W.callWith_KW0 (first := [.ref a]) (h₀ := X.base) I.ok.mod.kin hm.kp h1 (thn (hkw.run pos pins s1 σ H1 _ I1 q) fun us s2 w2 => ?_) h2)
  obtain ⟨zs, H2, I2, rz, l2, q2⟩ := w2
  rw [h4]
  exact ⟨I2.kIn, run_fnN (us := [.ref a]) (vs := [.ref a]) F hr hb hx I2 (.cons rfl .nil) rz rfl l2 q2⟩
end
end Xo

/-! Defs and what is known of them in one word; the built-in names that are not taken. -/
namespace My
open PySem PySem.Spec PyProof.Rows L2 Gy Xl Xs Xt
/-- no name of the module's own hides a built-in one -/
structure Bn (mg : Str → Option Value) : Prop where
  len : mg "len" = none
  range : mg "range" = none
  abs : mg "abs" = none
  max : mg "max" = none
  min : mg "min" = none
  divmod : mg "divmod" = none
  isinstance : mg "isinstance" = none
  str : mg "str" = none
  int : mg "int" = none
  bool : mg "bool" = none
  tuple : mg "tuple" = none
  list : mg "list" = none
  set : mg "set" = none
  dict : mg "dict" = none
  all : mg "all" = none
  any : mg "any" = none
  repr : mg "repr" = none
  sorted : mg "sorted" = none
  enumerate : mg "enumerate" = none
  zip : mg "zip" = none
/-- a def of the top, by its name, with its promise -/
structure Fk (P : Program) (w : World) (K : PySem.W.Frag) (mg : Str → Option Value) (base : Heap) (CX : CXT) (k : Nat) (nm : Str) (ps : List Str) (sp : Sp) : Prop where
  ex : ∃ (f : Addr) (fd : FuncData), mg nm = some (.ref f) ∧ PySem.W.keepIn K (.ref f) = true ∧ Binds K fd ps [] ∧ FnOk P w K mg base CX k f fd ps sp
/-- the same where no repr is under way -/
structure Fg (P : Program) (w : World) (K : PySem.W.Frag) (mg : Str → Option Value) (base : Heap) (CX : CXT) (k : Nat) (nm : Str) (ps : List Str) (sp : Sp) : Prop where
  ex : ∃ (f : Addr) (fd : FuncData), mg nm = some (.ref f) ∧ PySem.W.keepIn K (.ref f) = true ∧ Binds K fd ps [] ∧ FnG P w K mg base CX k f fd ps sp
section
variable {P : Program} {w : World} {K : PySem.W.Frag} {mg : Str → Option Value} {base : Heap} {CX : CXT} {k : Nat} {nm : Str} {ps : List Str} {sp : Sp}
theorem Fk.imp {sp' : Sp} (F : Fk P w K mg base CX k nm ps sp) (h : ∀ vs H Q E, sp' vs H Q E → sp vs H Q E) : Fk P w K mg base CX k nm ps sp' := by
  obtain ⟨f, fd, a, b, c, d⟩ := F.ex
  exact ⟨f, fd, a, b, c, d.imp h⟩
theorem Fk.g (F : Fk P w K mg base CX k nm ps sp) : Fg P w K mg base CX k nm ps sp := by
  obtain ⟨f, fd, a, b, c, d⟩ := F.ex
  exact ⟨f, fd, a, b, c, .of d⟩
/-- what is raised is never raised -/
theorem passN {X : Cx} : Passes (L2.CX X.prog X.w) X (fun _ _ _ => False) := by
  rintro pins σ H s e s' I ⟨a, B, H', cls, d, _, _, _, _, _, _, _, f⟩
  exact f.elim
end
section
variable {X : Cx} {CX : CXT} {k : Nat} {ps : List Str} {sp : Sp} {E : XK} {x : Str} {p pos : Pos} {e : Expr} {es : List Expr} {t : TA}
theorem pe_callF (F : Fk X.prog X.w X.K X.mg X.base CX k x ps sp) (hr : Room k X.A) (hg : Gl X x) (hx : Passes CX X E) (ha : PA X (e :: es) t)
    (hdb : (x == ("__debug__" : Str)) = false := by decide) (he : starEach (e :: es) X.env = (false, eval e X.env) :: starEach es X.env := by rfl)
    (hpl : (backTo pos (starEach es X.env)).any (·.1) = false := by rfl) : PE X (.Call (.Name x p) (e :: es) [] pos) (tCall sp [] E t) := by
  obtain ⟨f, fd, m, kp, b, G⟩ := F.ex
  exact pe_call G hr hg m kp b .nil hx ha hdb he hpl
theorem pe_callFg (F : Fg X.prog X.w X.K X.mg X.base CX k x ps sp) (gd : X.A.guards = some []) (hr : Room k X.A) (hg : Gl X x) (hx : Passes CX X E) (ha : PA X (e :: es) t)
    (hdb : (x == ("__debug__" : Str)) = false := by decide) (he : starEach (e :: es) X.env = (false, eval e X.env) :: starEach es X.env := by rfl)
    (hpl : (backTo pos (starEach es X.env)).any (·.1) = false := by rfl) : PE X (.Call (.Name x p) (e :: es) [] pos) (tG sp E t) := by
  obtain ⟨f, fd, m, kp, b, G⟩ := F.ex
  exact pe_callG G gd hr hg m kp b hx ha hdb he hpl
end
/-! ### heaps -/
theorem same_upd {H : Hp} {p : Addr} {o : HO} (h : H p = none) : Same H (upd H p o) := fun b x e => by
  rw [upd_ne (ne_of_none e h)]
  exact e
/-- a new object that is written once more: what stood before stands -/
theorem same_upd2 {H0 H : Hp} {p : Addr} {o : HO} (s : Same H0 H) (h : H0 p = none) : Same H0 (upd H p o) := fun b x e => by
  rw [upd_ne (ne_of_none e h)]
  exact s b x e
/-- all but r stands -/
def But (r : Addr) (H H' : Hp) : Prop := ∀ b o, b ≠ r → H b = some o → H' b = some o
theorem But.refl (r : Addr) (H : Hp) : But r H H := fun _ _ _ h => h
theorem But.trans {r : Addr} {H H1 H2 : Hp} (a : But r H H1) (b : But r H1 H2) : But r H H2 := fun c o n h => b c o n (a c o n h)
theorem But.of {r : Addr} {H H' : Hp} (s : Same H H') : But r H H' := fun c o _ h => s c o h
theorem But.upd {r L : Addr} {H H' : Hp} {o : HO} (h : But r H H') (n : H L = none) : But r H (L2.upd H' L o) := fun c u nc e => by
  rw [upd_ne (ne_of_none e n)]
  exact h c u nc e
theorem small200 {n : Nat} (h : n ≤ 10000) : n < sizeLine := Nat.lt_of_le_of_lt h (by decide)
theorem le200 {n : Nat} (h : n ≤ 10000) : n ≤ sizeLine := Nat.le_of_lt (small200 h)
/-- an item of a list of texts, by a number below its length -/
theorem at_in {α : Type} {xs : List α} {d : Int} (h0 : 0 ≤ d) (h1 : d < (xs.length : Int)) : ∃ v, atI xs d = some v ∧ v ∈ xs := by
  obtain ⟨j, rfl⟩ := Int.eq_ofNat_of_zero_le h0
  have hj : j < xs.length := by omega
  exact ⟨xs[j], atI_nat (List.getElem?_eq_getElem hj), List.getElem_mem hj⟩
theorem fun_g0 {P : Program} {w : World} {K : PySem.W.Frag} {mg : Str → Option Value} {base : Heap} {k : Nat} {f : Addr} {fd : FuncData} {ps N : List Str} {sp : Sp} {x qual : Str} {st : Stmt} (F : Fun K x qual st f fd) (S : FnScope N ps (defScope st)) (ln : ∀ {vs H Q E}, sp vs H Q E → vs.length = ps.length)
    (bd : ∀ (cdv : Value) (A : Around) (outer : List Env) (s : Shared) (H : Hp) (vs : List V) (Q : VK) (E : XK), A.guards = some [] →
      Room k (A.deeper (envOfC qual (defScope st) s.heap.objs.size f cdv)) → sp vs H Q E →
      ∃ t, PSs (cxOf CX0 P w K mg base N qual (defScope st) f cdv A outer s H E).nox (defBody st) t ∧
        t { nx := fun _ H' => Q .non H', rt := Q } (start N vs) H) : FnG P w K mg base CX0 (k + 1) f fd ps sp := by
  refine fun_g F S ln fun cdv A outer s H vs Q E g hr h => ?_
  obtain ⟨t, ht, hq⟩ := bd cdv A outer s H vs Q E g hr h
  exact ⟨t, ht.nox, hq⟩
theorem Room.units70 {k : Nat} {A : Around} (r : Room k A) : A.units + 70 < cLine := by
  have := r.un
  omega
theorem all_true {n : Nat} : ((List.replicate n true).all id) = true := by
  induction n with
  | zero => rfl
  | succ n ih => rw [List.replicate_succ, List.all_cons, ih]; rfl
end My

namespace My
open PySem PySem.Spec PyProof.Rows L2
def top (i : Nat) : Stmt := PySem.Challenge.pw_relinktree_k47_errors_of_hosts.main.body.getD i (.Pass ⟨0, 0, 0, 0⟩)
abbrev s_is_host_name : Stmt := top 20
theorem sc_is_host_name : FnScope ["value"] ["value"] (defScope s_is_host_name) := ⟨rfl, rfl, rfl, by decide +kernel, rfl, by decide +kernel, by decide +kernel⟩
abbrev s_is_word : Stmt := top 21
theorem sc_is_word : FnScope ["value"] ["value"] (defScope s_is_word) := ⟨rfl, rfl, rfl, by decide +kernel, rfl, by decide +kernel, by decide +kernel⟩
abbrev s_is_text_of : Stmt := top 22
theorem sc_is_text_of : FnScope ["value", "characters", "longest", "character"] ["value", "characters", "longest"] (defScope s_is_text_of) := ⟨rfl, rfl, rfl, by decide +kernel, rfl, by decide +kernel, by decide +kernel⟩
abbrev s_is_integer_from : Stmt := top 24
theorem sc_is_integer_from : FnScope ["value", "least"] ["value", "least"] (defScope s_is_integer_from) := ⟨rfl, rfl, rfl, by decide +kernel, rfl, by decide +kernel, by decide +kernel⟩
abbrev s_is_index : Stmt := top 25
theorem sc_is_index : FnScope ["value", "size"] ["value", "size"] (defScope s_is_index) := ⟨rfl, rfl, rfl, by decide +kernel, rfl, by decide +kernel, by decide +kernel⟩
abbrev s_is_relink : Stmt := top 28
theorem sc_is_relink : FnScope ["value", "path", "cut"] ["value"] (defScope s_is_relink) := ⟨rfl, rfl, rfl, by decide +kernel, rfl, by decide +kernel, by decide +kernel⟩
abbrev s_is_relink_path : Stmt := top 29
theorem sc_is_relink_path : FnScope ["value", "host"] ["value"] (defScope s_is_relink_path) := ⟨rfl, rfl, rfl, by decide +kernel, rfl, by decide +kernel, by decide +kernel⟩
abbrev s_is_cut_of : Stmt := top 30
theorem sc_is_cut_of : FnScope ["path", "value"] ["path", "value"] (defScope s_is_cut_of) := ⟨rfl, rfl, rfl, by decide +kernel, rfl, by decide +kernel, by decide +kernel⟩
abbrev s_check_relink : Stmt := top 31
theorem sc_check_relink : FnScope ["value"] ["value"] (defScope s_check_relink) := ⟨rfl, rfl, rfl, by decide +kernel, rfl, by decide +kernel, by decide +kernel⟩
abbrev s_position : Stmt := top 32
theorem sc_position : FnScope ["relink", "host", "path"] ["relink", "host"] (defScope s_position) := ⟨rfl, rfl, rfl, by decide +kernel, rfl, by decide +kernel, by decide +kernel⟩
abbrev s_is_item : Stmt := top 38
theorem sc_is_item : FnScope ["value", "parts"] ["value"] (defScope s_is_item) := ⟨rfl, rfl, rfl, by decide +kernel, rfl, by decide +kernel, by decide +kernel⟩
abbrev s_are_message_parts : Stmt := top 39
theorem sc_are_message_parts : FnScope ["parts", "writer", "word", "bit"] ["parts"] (defScope s_are_message_parts) := ⟨rfl, rfl, rfl, by decide +kernel, rfl, by decide +kernel, by decide +kernel⟩
abbrev s_is_control_kind : Stmt := top 40
theorem sc_is_control_kind : FnScope ["value"] ["value"] (defScope s_is_control_kind) := ⟨rfl, rfl, rfl, by decide +kernel, rfl, by decide +kernel, by decide +kernel⟩
abbrev s_check_item : Stmt := top 41
theorem sc_check_item : FnScope ["value"] ["value"] (defScope s_check_item) := ⟨rfl, rfl, rfl, by decide +kernel, rfl, by decide +kernel, by decide +kernel⟩
abbrev s_forward_bit : Stmt := top 43
theorem sc_forward_bit : FnScope ["relink", "host", "phase", "source", "goal", "bit", "at", "path", "cut", "is_fresh", "outwards"] ["relink", "host", "phase", "source", "goal", "bit"] (defScope s_forward_bit) := ⟨rfl, rfl, rfl, by decide +kernel, rfl, by decide +kernel, by decide +kernel⟩
abbrev s_end_bit : Stmt := top 44
theorem sc_end_bit : FnScope ["is_over_new_link", "may_cross"] ["is_over_new_link", "may_cross"] (defScope s_end_bit) := ⟨rfl, rfl, rfl, by decide +kernel, rfl, by decide +kernel, by decide +kernel⟩
abbrev s_forwards : Stmt := top 45
theorem sc_forwards : FnScope ["links", "source", "bit", "relink", "host", "phase", "goals", "bits", "goal", "sent"] ["links", "source", "bit", "relink", "host", "phase"] (defScope s_forwards) := ⟨rfl, rfl, rfl, by decide +kernel, rfl, by decide +kernel, by decide +kernel⟩
abbrev s_control_step : Stmt := top 46
theorem sc_control_step : FnScope ["relink", "host", "kind", "at", "step"] ["relink", "host", "kind"] (defScope s_control_step) := ⟨rfl, rfl, rfl, by decide +kernel, rfl, by decide +kernel, by decide +kernel⟩
abbrev s_is_received : Stmt := top 47
theorem sc_is_received : FnScope ["relink", "at", "kind", "path", "cut"] ["relink", "at", "kind"] (defScope s_is_received) := ⟨rfl, rfl, rfl, by decide +kernel, rfl, by decide +kernel, by decide +kernel⟩
abbrev s_ask_step : Stmt := top 48
theorem sc_ask_step : FnScope ["relink", "at", "path"] ["relink", "at"] (defScope s_ask_step) := ⟨rfl, rfl, rfl, by decide +kernel, rfl, by decide +kernel, by decide +kernel⟩
abbrev s_no_step : Stmt := top 49
theorem sc_no_step : FnScope ["relink", "at"] ["relink", "at"] (defScope s_no_step) := ⟨rfl, rfl, rfl, by decide +kernel, rfl, by decide +kernel, by decide +kernel⟩
abbrev s_yes_step : Stmt := top 50
theorem sc_yes_step : FnScope ["relink", "at", "path", "cut", "phase"] ["relink", "at"] (defScope s_yes_step) := ⟨rfl, rfl, rfl, by decide +kernel, rfl, by decide +kernel, by decide +kernel⟩
abbrev s_first_yes_step : Stmt := top 51
theorem sc_first_yes_step : FnScope ["relink", "path", "cut", "sends"] ["relink"] (defScope s_first_yes_step) := ⟨rfl, rfl, rfl, by decide +kernel, rfl, by decide +kernel, by decide +kernel⟩
abbrev s_go_step : Stmt := top 52
theorem sc_go_step : FnScope ["relink", "at", "path", "cut", "sends"] ["relink", "at"] (defScope s_go_step) := ⟨rfl, rfl, rfl, by decide +kernel, rfl, by decide +kernel, by decide +kernel⟩
abbrev s_back_step : Stmt := top 53
theorem sc_back_step : FnScope ["relink", "at"] ["relink", "at"] (defScope s_back_step) := ⟨rfl, rfl, rfl, by decide +kernel, rfl, by decide +kernel, by decide +kernel⟩
abbrev s_link_cut_behind : Stmt := top 54
theorem sc_link_cut_behind : FnScope ["relink", "at", "path", "cut"] ["relink", "at"] (defScope s_link_cut_behind) := ⟨rfl, rfl, rfl, by decide +kernel, rfl, by decide +kernel, by decide +kernel⟩
abbrev s_law_pot : Stmt := top 59
theorem sc_law_pot : FnScope ["_law_script", "_law_k", "_law_cell"] ["_law_script", "_law_k"] (defScope s_law_pot) := ⟨rfl, rfl, rfl, by decide +kernel, rfl, by decide +kernel, by decide +kernel⟩
abbrev s_law_draw : Stmt := top 60
theorem sc_law_draw : FnScope ["_law_pot_here", "_law_count", "_law_digit"] ["_law_pot_here", "_law_count"] (defScope s_law_draw) := ⟨rfl, rfl, rfl, by decide +kernel, rfl, by decide +kernel, by decide +kernel⟩
abbrev s_law_choose : Stmt := top 61
theorem sc_law_choose : FnScope ["_law_pot_here", "_law_values"] ["_law_pot_here", "_law_values"] (defScope s_law_choose) := ⟨rfl, rfl, rfl, by decide +kernel, rfl, by decide +kernel, by decide +kernel⟩
abbrev s_law_name : Stmt := top 62
theorem sc_law_name : FnScope ["_law_pot_here", "_law_used", "_law_letters", "_law_size", "_law_word", "_law_choices", "_law_k", "_law_letter", "_law_choice"] ["_law_pot_here", "_law_used"] (defScope s_law_name) := ⟨rfl, rfl, rfl, by decide +kernel, rfl, by decide +kernel, by decide +kernel⟩
abbrev s_law_kind : Stmt := top 63
theorem sc_law_kind : FnScope ["_law_e", "_law_kinds", "_law_others", "_law_bases"] ["_law_e"] (defScope s_law_kind) := ⟨rfl, rfl, rfl, by decide +kernel, rfl, by decide +kernel, by decide +kernel⟩
abbrev s_law_told : Stmt := top 64
theorem sc_law_told : FnScope ["_law_call", "_law_told_here", "_law_e"] ["_law_call"] (defScope s_law_told) := ⟨rfl, rfl, rfl, by decide +kernel, rfl, by decide +kernel, by decide +kernel⟩
abbrev s_law_odd : Stmt := top 65
theorem sc_law_odd : FnScope ["_law_pot_here", "_law_odd_here"] ["_law_pot_here"] (defScope s_law_odd) := ⟨rfl, rfl, rfl, by decide +kernel, rfl, by decide +kernel, by decide +kernel⟩
abbrev s_law_odd_item : Stmt := top 66
theorem sc_law_odd_item : FnScope ["_law_pot_here", "_law_path", "_law_odd_here"] ["_law_pot_here"] (defScope s_law_odd_item) := ⟨rfl, rfl, rfl, by decide +kernel, rfl, by decide +kernel, by decide +kernel⟩
abbrev s_law_shown : Stmt := top 67
theorem sc_law_shown : FnScope ["_law_host"] ["_law_host"] (defScope s_law_shown) := ⟨rfl, rfl, rfl, by decide +kernel, rfl, by decide +kernel, by decide +kernel⟩
abbrev s_law_valid_right : Stmt := top 68
theorem sc_law_valid_right : FnScope ["_law_host", "_law_near", "_law_word", "_law_fresh"] ["_law_host", "_law_near", "_law_word", "_law_fresh"] (defScope s_law_valid_right) := ⟨rfl, rfl, rfl, by decide +kernel, rfl, by decide +kernel, by decide +kernel⟩
abbrev s_law_right : Stmt := top 69
theorem sc_law_right : FnScope ["_law_pot_here", "_law_used", "_law_k", "_law_near", "_law_host", "_law_is_busy", "_law_shown_here", "_law_odd_here", "_law_more", "_law_item", "_law_word", "_law_long_word", "_law_long_name", "_law_no_cut", "_law_due", "_law_told_here", "_law_value", "_law_path", "_law_pair"] ["_law_pot_here"] (defScope s_law_right) := ⟨rfl, rfl, rfl, by decide +kernel, rfl, by decide +kernel, by decide +kernel⟩
abbrev s_law : Stmt := top 70
theorem sc_law : FnScope ["_law_script", "_law_k"] ["_law_script"] (defScope s_law) := ⟨rfl, rfl, rfl, by decide +kernel, rfl, by decide +kernel, by decide +kernel⟩
abbrev m_init : Stmt := inClass (top 57) 0
theorem scm_init : FnScope ["self", "name", "links", "log"] ["self", "name", "links", "log"] (defScope m_init) := ⟨rfl, rfl, rfl, by decide +kernel, rfl, by decide +kernel, by decide +kernel⟩
abbrev m_eq : Stmt := inClass (top 57) 1
theorem scm_eq : FnScope ["self", "other"] ["self", "other"] (defScope m_eq) := ⟨rfl, rfl, rfl, by decide +kernel, rfl, by decide +kernel, by decide +kernel⟩
abbrev m_repr : Stmt := inClass (top 57) 2
theorem scm_repr : FnScope ["self"] ["self"] (defScope m_repr) := ⟨rfl, rfl, rfl, by decide +kernel, rfl, by decide +kernel, by decide +kernel⟩
abbrev m_name : Stmt := inClass (top 57) 3
theorem scm_name : FnScope ["self"] ["self"] (defScope m_name) := ⟨rfl, rfl, rfl, by decide +kernel, rfl, by decide +kernel, by decide +kernel⟩
abbrev m_log : Stmt := inClass (top 57) 4
theorem scm_log : FnScope ["self"] ["self"] (defScope m_log) := ⟨rfl, rfl, rfl, by decide +kernel, rfl, by decide +kernel, by decide +kernel⟩
abbrev m_links : Stmt := inClass (top 57) 5
theorem scm_links : FnScope ["self"] ["self"] (defScope m_links) := ⟨rfl, rfl, rfl, by decide +kernel, rfl, by decide +kernel, by decide +kernel⟩
abbrev m_answers : Stmt := inClass (top 57) 6
theorem scm_answers : FnScope ["self"] ["self"] (defScope m_answers) := ⟨rfl, rfl, rfl, by decide +kernel, rfl, by decide +kernel, by decide +kernel⟩
abbrev m_relink : Stmt := inClass (top 57) 7
theorem scm_relink : FnScope ["self"] ["self"] (defScope m_relink) := ⟨rfl, rfl, rfl, by decide +kernel, rfl, by decide +kernel, by decide +kernel⟩
abbrev m_phase : Stmt := inClass (top 57) 8
theorem scm_phase : FnScope ["self"] ["self"] (defScope m_phase) := ⟨rfl, rfl, rfl, by decide +kernel, rfl, by decide +kernel, by decide +kernel⟩
abbrev m_waits_for : Stmt := inClass (top 57) 9
theorem scm_waits_for : FnScope ["self", "path"] ["self"] (defScope m_waits_for) := ⟨rfl, rfl, rfl, by decide +kernel, rfl, by decide +kernel, by decide +kernel⟩
abbrev m_queue : Stmt := inClass (top 57) 10
theorem scm_queue : FnScope ["self"] ["self"] (defScope m_queue) := ⟨rfl, rfl, rfl, by decide +kernel, rfl, by decide +kernel, by decide +kernel⟩
abbrev m_write : Stmt := inClass (top 57) 11
theorem scm_write : FnScope ["self", "word"] ["self", "word"] (defScope m_write) := ⟨rfl, rfl, rfl, by decide +kernel, rfl, by decide +kernel, by decide +kernel⟩
abbrev m_ask : Stmt := inClass (top 57) 12
theorem scm_ask : FnScope ["self", "path", "cut", "relink"] ["self", "path", "cut"] (defScope m_ask) := ⟨rfl, rfl, rfl, by decide +kernel, rfl, by decide +kernel, by decide +kernel⟩
abbrev m_receive : Stmt := inClass (top 57) 13
theorem scm_receive : FnScope ["self", "source", "item"] ["self", "source", "item"] (defScope m_receive) := ⟨rfl, rfl, rfl, by decide +kernel, rfl, by decide +kernel, by decide +kernel⟩
abbrev m_add_link : Stmt := inClass (top 57) 14
theorem scm_add_link : FnScope ["self", "other"] ["self", "other"] (defScope m_add_link) := ⟨rfl, rfl, rfl, by decide +kernel, rfl, by decide +kernel, by decide +kernel⟩
abbrev m_leave : Stmt := inClass (top 57) 15
theorem scm_leave : FnScope ["self"] ["self"] (defScope m_leave) := ⟨rfl, rfl, rfl, by decide +kernel, rfl, by decide +kernel, by decide +kernel⟩
abbrev m_copied : Stmt := inClass (top 57) 16
theorem scm_copied : FnScope ["self", "twin"] ["self"] (defScope m_copied) := ⟨rfl, rfl, rfl, by decide +kernel, rfl, by decide +kernel, by decide +kernel⟩
abbrev m_check_free : Stmt := inClass (top 57) 17
theorem scm_check_free : FnScope ["self"] ["self"] (defScope m_check_free) := ⟨rfl, rfl, rfl, by decide +kernel, rfl, by decide +kernel, by decide +kernel⟩
abbrev m_join_to : Stmt := inClass (top 57) 18
theorem scm_join_to : FnScope ["self", "other"] ["self", "other"] (defScope m_join_to) := ⟨rfl, rfl, rfl, by decide +kernel, rfl, by decide +kernel, by decide +kernel⟩
abbrev m_part_from : Stmt := inClass (top 57) 19
theorem scm_part_from : FnScope ["self", "other", "link"] ["self", "other"] (defScope m_part_from) := ⟨rfl, rfl, rfl, by decide +kernel, rfl, by decide +kernel, by decide +kernel⟩
abbrev m_log_and_forward : Stmt := inClass (top 57) 20
theorem scm_log_and_forward : FnScope ["self", "writer", "word", "source", "bit", "goals", "goal", "sent"] ["self", "writer", "word", "source", "bit"] (defScope m_log_and_forward) := ⟨rfl, rfl, rfl, by decide +kernel, rfl, by decide +kernel, by decide +kernel⟩
abbrev m_accept : Stmt := inClass (top 57) 21
theorem scm_accept : FnScope ["self", "source", "item", "kind", "path", "cut"] ["self", "source", "item"] (defScope m_accept) := ⟨rfl, rfl, rfl, by decide +kernel, rfl, by decide +kernel, by decide +kernel⟩
abbrev m_accept_bye : Stmt := inClass (top 57) 22
theorem scm_accept_bye : FnScope ["self", "source"] ["self", "source"] (defScope m_accept_bye) := ⟨rfl, rfl, rfl, by decide +kernel, rfl, by decide +kernel, by decide +kernel⟩
abbrev m_can_join : Stmt := inClass (top 57) 23
theorem scm_can_join : FnScope ["self", "relink"] ["self", "relink"] (defScope m_can_join) := ⟨rfl, rfl, rfl, by decide +kernel, rfl, by decide +kernel, by decide +kernel⟩
abbrev m_next_host : Stmt := inClass (top 57) 24
theorem scm_next_host : FnScope ["self", "relink"] ["self", "relink"] (defScope m_next_host) := ⟨rfl, rfl, rfl, by decide +kernel, rfl, by decide +kernel, by decide +kernel⟩
abbrev m_act : Stmt := inClass (top 57) 25
theorem scm_act : FnScope ["self", "relink", "kind", "steps", "phase", "added", "removed", "outcome", "awaited", "sends", "goal", "step"] ["self", "relink", "kind"] (defScope m_act) := ⟨rfl, rfl, rfl, by decide +kernel, rfl, by decide +kernel, by decide +kernel⟩
abbrev m_process_queue : Stmt := inClass (top 57) 26
theorem scm_process_queue : FnScope ["self", "awaited", "items", "sends", "item"] ["self", "awaited"] (defScope m_process_queue) := ⟨rfl, rfl, rfl, by decide +kernel, rfl, by decide +kernel, by decide +kernel⟩
end My

namespace My
open PySem PySem.Spec PyProof.Rows L2 Gy Xl Xs Xt
/-! ### the law's numbers: the pot, a draw, a pick -/
/-- the list of two numbers that is drawn from -/
def Rng (H : Hp) (r : Addr) : Prop := ∃ x y : Int, H r = some (.lst [.int x, .int y]) ∧ 0 ≤ x ∧ 0 ≤ y ∧ y < 1099511627776
theorem Rng.ne {H : Hp} {r l : Addr} (h : Rng H r) (hl : H l = none) : l ≠ r := fun z => by
  obtain ⟨x, y, e, _⟩ := h
  rw [← z, hl] at e
  cases e
theorem Rng.upd {H : Hp} {r l : Addr} {o : HO} (h : Rng H r) (hl : H l = none) : Rng (upd H l o) r := by
  obtain ⟨x, y, e, h2⟩ := id h
  exact ⟨x, y, by rw [upd_ne (h.ne hl).symm]; exact e, h2⟩
theorem Rng.upd2 {H : Hp} {r l : Addr} {o : HO} (h : Rng H r) (hl : l ≠ r) : Rng (L2.upd H l o) r := by
  obtain ⟨x, y, e, h2⟩ := id h
  exact ⟨x, y, by rw [upd_ne hl.symm]; exact e, h2⟩
theorem Rng.same {H H' : Hp} {r : Addr} (h : Rng H r) (s : Same H H') : Rng H' r := by
  obtain ⟨x, y, e, h2⟩ := h
  exact ⟨x, y, s _ _ e, h2⟩
section
variable {P : Program} {w : World} {K : PySem.W.Frag} {mg : Str → Option Value} {base : Heap}
def spPot (K : PySem.W.Frag) : Sp := fun vs H Q _ => ∃ (a : Addr) (ns : List Int) (k : Nat), vs = [.ref a, .int (k : Int)] ∧ SqL K H a (ns.map V.int) ∧ k ≤ 100 ∧
  ∀ H' p, Same H H' → H p = none → Rng H' p → Q (.ref p) H'
theorem max_nn (j : Int) : 0 ≤ (if j > 0 then j else 0) := by
  split <;> omega
theorem y_lo (z : Int) : 0 ≤ z % 2147483647 := by omega
theorem y_hi (z : Int) : z % 2147483647 < 1099511627776 := by omega
theorem ok_pot {f : Addr} {fd : FuncData} (F : Fun K "_law_pot" "_law_pot" s_law_pot f fd) (Y : Bn mg) : FnOk P w K mg base CX0 1 f fd ["_law_script", "_law_k"] (spPot K) := by
  refine F.ok sc_law_pot (fun vs H Q E h => ?_) (fun cdv A outer s H vs Q E hr h => ?_)
  · obtain ⟨a, ns, k, rfl, _⟩ := h
    rfl
  · obtain ⟨a, ns, k, rfl, hS, hk, q⟩ := h
    refine ⟨_, (pss_cons (ps_set (i := 2) sc_law_pot.nd rfl (.inl rfl) (pe_ifExp (pt_cmpR op_lt (pv 1) (pe_callB call_len_seq (by rfl) Y.len PySem.boot_len (pa_cons (pv 0) pa_nil)) (nomark _)) (pe_callB call_abs (by rfl) Y.abs (by decide +kernel) (pa_cons (pe_ix ix_list (pv 0) (pv 1) (fun _ _ => rfl)) pa_nil)) pe_int))
 (pss_one (ps_ret (pe_lst (pa_cons (pe_callB (call_max2 rfl) (by rfl) Y.max (by decide +kernel) (pa_cons pe_int (pa_cons (pe_op op_sub (pv 2) (pe_op op_pow pe_int pe_int)) pa_nil))) (pa_cons (pe_op op_mod (pe_op op_add (pe_op op_add (pe_op op_mul (pe_op op_mod (pv 2) pe_int) pe_int) (pe_op op_mul pe_int (pv 1))) pe_int) pe_int) pa_nil)))))), ?_⟩
    refine ⟨_, rfl, _, rfl, a, _, rfl, .inl hS, _, _, rfl, rfl, _, rfl, ite2 (fun c1 => ?A) (fun c1 => ?B)⟩
    case' A =>
      have hk2 : k < ns.length := by
        have := of_decide_eq_true c1
        rw [List.length_map] at this
        omega
      refine ⟨_, rfl, _, rfl, a, _, _, .int ns[k], rfl, rfl, hS, atI_nat (j := k) (by rw [List.getElem?_map, List.getElem?_eq_getElem hk2]; rfl), ?_⟩
      refine ⟨_, rfl, ?_⟩
    all_goals
      refine ⟨_, rfl, 10, 18, rfl, rfl, ⟨by decide, by decide, by decide⟩, _, _, rfl, rfl, 0, _, rfl, ?_⟩
      refine ⟨_, rfl, _, _, rfl, rfl, (by decide : (0 : Int) < 2147483629), _, 44131, rfl, rfl, .inr ⟨by decide, by decide⟩, _, rfl, 7013, _, rfl, rfl, .inl ⟨by decide, by decide⟩, _, _, rfl, rfl, _, _, rfl, rfl, _, _, rfl, rfl, (by decide : (0 : Int) < 2147483647), ?_⟩
      refine ⟨(by show 2 ≤ sizeLine; decide), fun p hp => ?_⟩
      exact q _ p (same_upd hp) hp ⟨_, _, upd_same, max_nn _, y_lo _, y_hi _⟩
def spDraw : Sp := fun vs H Q _ => ∃ (r : Addr) (m : Int), vs = [.ref r, .int m] ∧ Rng H r ∧ 0 < m ∧ m < 1180591620717411303424 ∧
  ∀ H' d, But r H H' → Rng H' r → 0 ≤ d → d < m → Q (.int d) H'
theorem lg70 {m : Int} (m0 : 0 < m) (m1 : m < 1180591620717411303424) : m.natAbs.log2 < 9000 := by
  have h : m.natAbs < 2 ^ 70 := by
    show m.natAbs < 1180591620717411303424
    omega
  exact Nat.lt_of_lt_of_le ((Nat.log2_lt (by omega)).mpr h) (by decide)
theorem ok_draw {f : Addr} {fd : FuncData} (F : Fun K "_law_draw" "_law_draw" s_law_draw f fd) (Y : Bn mg) : FnOk P w K mg base CX0 1 f fd ["_law_pot_here", "_law_count"] spDraw := by
  refine F.ok sc_law_draw (fun vs H Q E h => ?_) (fun cdv A outer s H vs Q E hr h => ?_)
  · obtain ⟨r, m, rfl, _⟩ := h
    rfl
  · obtain ⟨r, m, rfl, ⟨x, y, hR, x0, y0, y1⟩, m0, m1, q⟩ := h
    refine ⟨_, (pss_cons (ps_if (pt_cmpR op_gt (pe_ix ix_list (pv 0) pe_int (fun _ _ => rfl)) pe_int (nomark _))
 (pss_cons (ps_asg (pe_callB call_divmodW (by rfl) Y.divmod (by decide +kernel) (pa_cons (pe_ix ix_list (pv 0) pe_int (fun _ _ => rfl)) (pa_cons (pv 1) pa_nil))) (pg_tup (by rfl) (pgs_cons (pg_sub (pv 0) pe_int set_list) (pgs_cons (pg_name (i := 2) sc_law_draw.nd rfl (Or.inl rfl)) pgs_nil))))
 (pss_one (ps_ret (pv 2))))
 pss_nil)
 (pss_cons (ps_asg (pe_op op_mod (pe_op op_add (pe_op op_mul (pe_ix ix_list (pv 0) pe_int (fun _ _ => rfl)) pe_int) pe_int) pe_int) (pg_sub (pv 0) pe_int set_list))
 (pss_one (ps_ret (pe_op op_mod (pe_op op_fdiv (pe_op op_mod (pe_op op_mul (pe_ix ix_list (pv 0) pe_int (fun _ _ => rfl)) (pe_ix ix_list (pv 0) pe_int (fun _ _ => rfl))) pe_int) pe_int) (pv 1)))))), ?_⟩
    refine ⟨_, rfl, r, _, 0, .int x, rfl, rfl, SqL.of hR, atI_nat (j := 0) rfl, _, _, rfl, rfl, _, rfl, ite2 (fun c1 => ?_) (fun c1 => ?_)⟩
    · refine ⟨_, rfl, r, _, 0, .int x, rfl, rfl, SqL.of hR, atI_nat (j := 0) rfl, _, rfl, x, m, rfl, ⟨m0, PyProof.noPylong_of_log2 (lg70 m0 m1)⟩, fun p hp => ?_⟩
      have npr : r ≠ p := ne_of_none hR hp
      refine ⟨p, _, rfl, SqT.of upd_same, rfl, _, _, rfl, ?_⟩
      refine ⟨_, rfl, r, _, 0, 0, rfl, rfl, (by rw [upd_ne npr]; exact hR), rfl, ?_⟩
      refine ⟨_, _, rfl, rfl, ?_⟩
      refine ⟨_, rfl, q _ _ ?_ ⟨x / m, y, upd_same, Int.ediv_nonneg x0 (Int.le_of_lt m0), y0, y1⟩ (Int.emod_nonneg _ (by omega)) (Int.emod_lt_of_pos _ m0)⟩
      intro b o nb e
      rw [upd_ne nb, upd_ne (ne_of_none e hp)]
      exact e
    · refine ⟨_, rfl, r, _, 1, .int y, rfl, rfl, SqL.of hR, atI_nat (j := 1) rfl, y, 48271, rfl, rfl, .inl ⟨by omega, by omega⟩, _, _, rfl, rfl, _, _, rfl, rfl, (by decide : (0 : Int) < 2147483647), ?_⟩
      refine ⟨_, rfl, r, _, 1, 1, rfl, rfl, hR, rfl, ?_⟩
      have z0 := Int.emod_nonneg (y * 48271 + 30029) (by decide : (2147483647 : Int) ≠ 0)
      have z1 := Int.emod_lt_of_pos (y * 48271 + 30029) (by decide : (0 : Int) < 2147483647)
      refine ⟨_, rfl, r, _, 1, _, rfl, rfl, SqL.of upd_same, atI_nat (j := 1) rfl, _, rfl, r, _, 1, _, rfl, rfl, SqL.of upd_same, atI_nat (j := 1) rfl, _, _, rfl, rfl, .inl ⟨by omega, by omega⟩, ?_⟩
      refine ⟨_, _, rfl, rfl, (by decide : (0 : Int) < 2147483587), _, 7, rfl, rfl, ⟨by decide, by decide⟩, _, rfl, _, m, rfl, rfl, m0, ?_⟩
      refine q _ _ ?_ ⟨x, _, upd_same, x0, z0, by omega⟩ (Int.emod_nonneg _ (by omega)) (Int.emod_lt_of_pos _ m0)
      intro b o nb e
      rw [upd_ne nb]
      exact e
/-- an item of a list -/
def spCh : Sp := fun vs H Q _ => ∃ (r la : Addr) (xs : List V), vs = [.ref r, .ref la] ∧ Rng H r ∧ la ≠ r ∧ H la = some (.lst xs) ∧ 0 < xs.length ∧ xs.length ≤ 1000 ∧ ∀ H' u, But r H H' → Rng H' r → u ∈ xs → Q u H'
theorem ok_choose {f : Addr} {fd : FuncData} (F : Fun K "_law_choose" "_law_choose" s_law_choose f fd) (Y : Bn mg) (G_law_draw : Fk P w K mg base CX0 1 "_law_draw" ["_law_pot_here", "_law_count"] spDraw) :
    FnOk P w K mg base CX0 2 f fd ["_law_pot_here", "_law_values"] spCh := by
  refine F.ok sc_law_choose (fun vs H Q E h => ?_) (fun cdv A outer s H vs Q E hr h => ?_)
  · obtain ⟨r, la, xs, rfl, _⟩ := h
    rfl
  · obtain ⟨r, la, xs, rfl, R, na, ha, l0, l1, q⟩ := h
    refine ⟨_, (pss_one (ps_ret (pe_ix ix_list (pv 1) (pe_callF G_law_draw (hr.mono (by decide)) (by rfl) pass0 (pa_cons (pv 0) (pa_cons (pe_callB call_len_seq (by rfl) Y.len PySem.boot_len (pa_cons (pv 1) pa_nil)) pa_nil))) (fun _ _ => rfl)))), ?_⟩
    refine ⟨_, rfl, _, rfl, _, rfl, la, xs, rfl, .inl (SqL.of ha), ?_⟩
    refine ⟨r, (xs.length : Int), rfl, R, by omega, by omega, fun H1 d b1 R1 d0 d1 => ?_⟩
    obtain ⟨c, hc, mc⟩ := at_in (xs := xs) d0 d1
    exact ⟨la, xs, d, c, rfl, rfl, SqL.of (b1 la _ na ha), hc, q _ _ b1 R1 mc⟩
end
end My

namespace My
open PySem PySem.Spec PyProof.Rows L2 Gy Xl Xs Xt
/-! ### drawn host names: texts of 1 to 8 letters, all different -/
def LET : Str := "abcdefghijklmnopqrstuvwxyz"
/-- a text of 1 to 8 letters -/
def Nm (x : Str) : Prop := 1 ≤ x.length ∧ x.length ≤ 8 ∧ ∀ c ∈ x.cps.toList, c ∈ LET.cps.toList
theorem mem_cat {a b : Str} {c : Nat} (h : c ∈ (a ++ b).cps.toList) : c ∈ a.cps.toList ∨ c ∈ b.cps.toList := by
  have e : (a ++ b).cps.toList = a.cps.toList ++ b.cps.toList := by
    show (a.cps ++ b.cps).toList = _
    rw [Array.toList_append]
  rw [e] at h
  exact List.mem_append.mp h
theorem join_in {p : Nat → Prop} : ∀ ys : List Str, (∀ y ∈ ys, ∀ c ∈ y.cps.toList, p c) → ∀ c ∈ (Str.join "" ys).cps.toList, p c
  | [], _, c, h => by
    have h' : c ∈ ([] : List Nat) := h
    cases h'
  | [y], h, c, hc => h y List.mem_cons_self c hc
  | y :: z :: r, h, c, hc => by
    have hc' : c ∈ (y ++ "" ++ Str.join "" (z :: r)).cps.toList := hc
    rcases mem_cat hc' with hc' | hc'
    · rcases mem_cat hc' with hc' | hc'
      · exact h y List.mem_cons_self c hc'
      · have h' : c ∈ ([] : List Nat) := hc'
        cases h'
    · exact join_in (z :: r) (fun u hu => h u (List.mem_cons_of_mem _ hu)) c hc'
theorem join_len : ∀ ys : List Str, (∀ y ∈ ys, y.length = 1) → (Str.join "" ys).length = ys.length
  | [], _ => rfl
  | [y], h => h y List.mem_cons_self
  | y :: z :: r, h => by
    have ih := join_len (z :: r) fun u hu => h u (List.mem_cons_of_mem _ hu)
    have hy := h y List.mem_cons_self
    show (y ++ "" ++ Str.join "" (z :: r)).length = _
    rw [strLen_append, strLen_append, ih, hy]
    show 1 + 0 + (r.length + 1) = r.length + 1 + 1
    omega
theorem sum_ones : ∀ ys : List Str, (∀ y ∈ ys, y.length = 1) → (ys.map (·.length)).sum ≤ ys.length
  | [], _ => Nat.le_refl _
  | y :: r, h => by
    have h1 := h y List.mem_cons_self
    have h2 := sum_ones r fun z hz => h z (List.mem_cons_of_mem _ hz)
    rw [List.map_cons, List.sum_cons, List.length_cons]
    omega
theorem cut_some (x : Str) (n : Nat) : cutS x none (some (n : Int)) = ⟨(x.cps.toList.take (min n x.length)).toArray⟩ := by
  unfold cutS
  rw [HT.sIx_none, HT.sIx_nat, List.drop_zero, Nat.sub_zero]
/-- the first eight signs of a name with letters behind it -/
theorem nm_cut {x y : Str} (hx : Nm x) (hy : Nm y) : Nm (cutS (x ++ y) none (some 8)) := by
  have e := cut_some (x ++ y) 8
  have l : (x ++ y).length = x.length + y.length := strLen_append x y
  have l2 : (x ++ y).cps.toList.length = (x ++ y).length := Array.length_toList
  obtain ⟨h1, h2, h3⟩ := hx
  obtain ⟨k1, k2, k3⟩ := hy
  rw [show (some 8 : Option Int) = some ((8 : Nat) : Int) from rfl, e]
  refine ⟨?_, ?_, fun c hc => ?_⟩
  · show 1 ≤ ((x ++ y).cps.toList.take (min 8 (x ++ y).length)).toArray.size
    rw [List.size_toArray, List.length_take]
    omega
  · show ((x ++ y).cps.toList.take (min 8 (x ++ y).length)).toArray.size ≤ 8
    rw [List.size_toArray, List.length_take]
    omega
  · have hc' : c ∈ (x ++ y).cps.toList.take (min 8 (x ++ y).length) := by
      simpa using hc
    rcases mem_cat (List.mem_of_mem_take hc') with z | z
    · exact h3 c z
    · exact k3 c z
/-- seven signs of a name and a letter -/
def tl (x : Str) (c : Nat) : Str := cutS x none (some 7) ++ ⟨#[c]⟩
theorem tl_cps (x : Str) (c : Nat) : (tl x c).cps.toList = x.cps.toList.take (min 7 x.length) ++ [c] := by
  unfold tl
  rw [show (some 7 : Option Int) = some ((7 : Nat) : Int) from rfl, cut_some]
  show ((x.cps.toList.take (min 7 x.length)).toArray ++ #[c]).toList = _
  rw [Array.toList_append]
theorem tl_nm {x : Str} {c : Nat} (hx : Nm x) (hc : c ∈ LET.cps.toList) : Nm (tl x c) := by
  have e := tl_cps x c
  have l : (tl x c).length = (tl x c).cps.toList.length := Array.length_toList.symm
  have l2 : x.cps.toList.length = x.length := Array.length_toList
  have l3 : (x.cps.toList.take (min 7 x.length) ++ [c]).length = min 7 x.length + 1 := by
    rw [List.length_append, List.length_take, l2]
    simp
  rw [e, l3] at l
  refine ⟨by omega, by omega, fun d hd => ?_⟩
  rw [e] at hd
  rcases List.mem_append.mp hd with z | z
  · exact hx.2.2 d (List.mem_of_mem_take z)
  · rw [List.mem_singleton.mp z]
    exact hc
theorem tl_inj (x : Str) (c d : Nat) (h : tl x c = tl x d) : c = d := by
  have e : (tl x c).cps.toList = (tl x d).cps.toList := by rw [h]
  rw [tl_cps, tl_cps] at e
  have e2 := List.append_cancel_left e
  injection e2
theorem inV_strs (z : Str) : ∀ xs : List Str, inV (.str z) (xs.map V.str) = decide (z ∈ xs)
  | [] => rfl
  | x :: xs => by
    have ih := inV_strs z xs
    unfold inV at ih ⊢
    rw [List.map_cons, List.any_cons, ih]
    show (x == z || decide (z ∈ xs)) = decide (z ∈ x :: xs)
    by_cases e : x = z
    · subst e
      simp
    · rw [beq_eq_false_iff_ne.mpr e, Bool.false_or]
      congr 1
      rw [List.mem_cons, eq_iff_iff]
      exact ⟨.inr, fun h => h.resolve_left fun u => e u.symm⟩
theorem flat_strs : ∀ xs : List Str, (xs.map V.str).all flatV = true
  | [] => rfl
  | x :: xs => by
    rw [List.map_cons, List.all_cons, flat_strs xs]
    rfl
theorem len_le_of_sub {α : Type} [BEq α] [LawfulBEq α] : ∀ {l m : List α}, l.Nodup → (∀ x ∈ l, x ∈ m) → l.length ≤ m.length
  | [], _, _, _ => Nat.zero_le _
  | x :: l, m, nd, h => by
    rw [List.nodup_cons] at nd
    have hx := h x List.mem_cons_self
    have ih := len_le_of_sub (l := l) (m := m.erase x) nd.2 fun y hy => (List.mem_erase_of_ne (fun e : y = x => nd.1 (by rw [← e]; exact hy))).mpr (h y (List.mem_cons_of_mem _ hy))
    rw [List.length_erase_of_mem hx] at ih
    have : 0 < m.length := List.length_pos_of_mem hx
    rw [List.length_cons]
    omega
theorem nd_map {α β : Type} {f : α → β} (inj : ∀ a b, f a = f b → a = b) : ∀ {l : List α}, l.Nodup → (l.map f).Nodup
  | [], _ => List.nodup_nil
  | x :: l, h => by
    rw [List.nodup_cons] at h
    rw [List.map_cons, List.nodup_cons]
    refine ⟨fun z => ?_, nd_map inj h.2⟩
    obtain ⟨y, hy, e⟩ := List.mem_map.mp z
    exact h.1 (inj _ _ e ▸ hy)
theorem nodup_snoc {α : Type} {xs : List α} {x : α} (h : xs.Nodup) (n : x ∉ xs) : (xs ++ [x]).Nodup := by
  rw [List.nodup_append]
  refine ⟨h, by simp, fun a ha b hb e => n ?_⟩
  rw [List.mem_singleton.mp hb] at e
  rw [← e]
  exact ha
/-- what is tried for a name -/
def triesOf (x : Str) : List Str := x :: LET.cps.toList.map (tl x)
theorem tries_nm {x : Str} (h : Nm x) : ∀ y ∈ triesOf x, Nm y := fun y hy => by
  rcases List.mem_cons.mp hy with rfl | hy
  · exact h
  · obtain ⟨c, hc, rfl⟩ := List.mem_map.mp hy
    exact tl_nm h hc
theorem tries_out {x : Str} {xs : List Str} (h : xs.length < 26) : ∃ z zs, (triesOf x).filter (fun y => decide (y ∉ xs)) = z :: zs := by
  cases e : (triesOf x).filter (fun y => decide (y ∉ xs)) with
  | cons z zs => exact ⟨z, zs, rfl⟩
  | nil =>
    rw [List.filter_eq_nil_iff] at e
    have nd : (LET.cps.toList.map (tl x)).Nodup := nd_map (tl_inj x) (by decide +kernel)
    have le := len_le_of_sub (m := xs) nd fun y hy => by
      have z := e y (List.mem_cons_of_mem _ hy)
      exact Decidable.of_not_not fun w => z (decide_eq_true w)
    rw [List.length_map, show LET.cps.toList.length = 26 by decide +kernel] at le
    omega
theorem dps_strs {K : PySem.W.Frag} {H : Hp} : ∀ xs : List Str, DpAll K H (xs.map V.str) (xs.map PyData.str)
  | [] => .nil
  | x :: xs => .cons (.str x) (dps_strs xs)
theorem nm_ok {x : Str} (h : Nm x) : PyData.strOk x = true := by
  unfold PyData.strOk
  rw [← Array.all_toList, List.all_eq_true]
  intro c hc
  have z : ∀ d ∈ LET.cps.toList, d < 0x110000 := by decide +kernel
  exact decide_eq_true (z c (h.2.2 c hc))
theorem lay_strs : ∀ xs : List Str, (∀ x ∈ xs, Nm x) → PyData.canLayAll0 (xs.map PyData.str) = true
  | [], _ => rfl
  | b :: r, h => by
    show (PyData.strOk b && PyData.canLayAll0 (r.map PyData.str)) = true
    rw [nm_ok (h b List.mem_cons_self), lay_strs r fun x hx => h x (List.mem_cons_of_mem _ hx)]
    rfl
theorem deep_strs : ∀ xs : List Str, PyData.depthAll (xs.map PyData.str) = 0
  | [] => rfl
  | b :: r => by
    show max 0 (PyData.depthAll (r.map PyData.str)) = 0
    rw [deep_strs r]
    rfl
theorem sh_strs (xs : List Str) (h : ∀ x ∈ xs, Nm x) : SeqAt.shaped (.list (xs.map PyData.str)) = true := by
  unfold SeqAt.shaped
  rw [show PyData.canLay0 (.list (xs.map PyData.str)) = true from lay_strs xs h, show PyData.depth (.list (xs.map PyData.str)) = 1 by show PyData.depthAll _ + 1 = 1; rw [deep_strs]]
  decide
end My

namespace My
open PySem PySem.Spec PyProof.Rows L2 Gy Xl Xs Xt
/-! ### texts of some signs -/
def allIn (cs x : Str) : Bool := x.cps.toList.all fun c => decide (c ∈ cs.cps.toList)
def textOf (v : V) (cs : Str) (n : Int) : Bool := match v with
  | .str x => decide ((1 : Int) ≤ (x.length : Int)) && decide ((x.length : Int) ≤ n) && allIn cs x
  | _ => false
/-- a value whose kind is known -/
inductive Kd (K : PySem.W.Frag) (H : Hp) : V → Prop
  | str (x : Str) (h : x.length ≤ sizeLine) : Kd K H (.str x)
  | oth {v : V} {t : String} (ty : TyX K H v (.type t)) (n : kitB t "str" = some false) (no : ∀ x, v ≠ .str x) : Kd K H v
theorem textOf_oth {v : V} (no : ∀ x, v ≠ .str x) (cs : Str) (n : Int) : textOf v cs n = false := by
  cases v with
  | str x => exact absurd rfl (no x)
  | _ => rfl

section
variable {P : Program} {w : World} {K : PySem.W.Frag} {mg : Str → Option Value} {base : Heap}
def spText (K : PySem.W.Frag) : Sp := fun vs H Q _ => ∃ (v : V) (cs : Str) (n : Int), vs = [v, .str cs, .int n] ∧ Kd K H v ∧
  ∀ H', Same H H' → Q (.bl (textOf v cs n)) H'
theorem take_succ_all {l : List Nat} {i c : Nat} (h : l[i]? = some c) (p : Nat → Bool) : (l.take (i + 1)).map p = (l.take i).map p ++ [p c] := by
  rw [List.take_add_one, h, List.map_append]
  rfl
theorem ok_text {f : Addr} {fd : FuncData} (F : Fun K "is_text_of" "is_text_of" s_is_text_of f fd) (Y : Bn mg) :
    FnOk P w K mg base CX0 1 f fd ["value", "characters", "longest"] (spText K) := by
  refine F.ok sc_is_text_of (fun vs H Q E h => ?_) (fun cdv A outer s H vs Q E hr h => ?_)
  · obtain ⟨v, cs, n, rfl, _⟩ := h
    rfl
  · obtain ⟨v, cs, n, rfl, kd, q⟩ := h
    refine ⟨_, (pss_cons (ps_if (PW.pt (pw_or (pt_not (pt_val (pe_callB call_isi (by rfl) Y.isinstance (by decide +kernel) (pa_cons (pv 0) (pa_cons (pe_bltn (v := .ty "str") (by rfl) Y.str (by decide +kernel) rfl) pa_nil))))) (pw_or1 (pt_not (pt_chain op_le op_le pe_int (pe_callB call_len_str (by rfl) Y.len PySem.boot_len (pa_cons (pv 0) pa_nil)) (pv 2))))))
 (pss_one (ps_ret pe_bl))
 pss_nil)
 (pss_one (ps_ret (pe_callB (cr_all rfl) (by rfl) Y.all (by decide +kernel) (pa_cons (pe_lc (own := [("character", 3)]) (g := gName 3) (tt := tYes) rfl sc_is_text_of.nd (pi_str (pv 0)) (blkOk_by (N := ["value", "characters", "longest", "character"]) (sc := defScope s_is_text_of) (by decide +kernel)) (fun _ _ _ _ _ => (pg_name (i := 3) sc_is_text_of.nd rfl (Or.inl rfl))) (fun _ _ _ _ _ => pts_nil) (fun _ _ _ _ _ => (pe_cmpR op_in_sign (pv 3) (pv 1) rfl))) pa_nil))))), ?_⟩
    cases kd with
    | oth ty no nos =>
      refine ⟨v, rfl, v, _, _, _, false, rfl, .ty "str", ty, kit_ty no, _, rfl, ?_⟩
      refine iteT (iteT ?_)
      rw [textOf_oth nos] at q
      exact q _ (Same.refl _)
    | str x hx =>
      refine ⟨_, rfl, _, _, _, _, true, rfl, .ty "str", .base (.str x), kit_ty (by decide +kernel), _, rfl, ?_⟩
      refine iteF ?_
      have e1 : textOf (.str x) cs n = (decide ((1 : Int) ≤ (x.length : Int)) && decide ((x.length : Int) ≤ n) && allIn cs x) := rfl
      refine ⟨_, rfl, _, rfl, hx, 1, _, rfl, rfl, _, rfl, ?_⟩
      refine ite2 (fun c1 => ?_) (fun c1 => ?_)
      · refine ⟨_, rfl, _, _, rfl, rfl, _, rfl, ?_⟩
        cases c2 : decide ((x.length : Int) ≤ n) with
        | false =>
          refine iteT ?_
          rw [c2, Bool.and_false, Bool.false_and] at e1
          rw [e1] at q
          exact q _ (Same.refl _)
        | true =>
          refine iteF ?_
          rw [c1, c2, Bool.true_and, Bool.true_and] at e1
          refine ⟨_, rfl, x, rfl, fun D hD => ?_⟩
          refine lc_it (walk_str (z := x)) (fun i H' => Same H H' ∧ H' D = some (.lst (((x.cps.toList.take i).map fun c => decide (c ∈ cs.cps.toList)).map V.bl)))
            ⟨same_upd hD, upd_same⟩ (fun _ _ _ _ => trivial) ?_ ?_
          · rintro i y H1 H2 hi ⟨sm, hL⟩ ⟨rfl, c, hc, rfl⟩
            refine ⟨rfl, ?_⟩
            dsimp only [tYes]
            refine iteT ?_
            refine ⟨_, rfl, _, rfl, c, cs, rfl, rfl, _, hL, ?_, same_upd2 sm hD, ?_⟩
            · rw [List.length_map, List.length_map, List.length_take]
              refine Nat.lt_of_le_of_lt (Nat.min_le_left _ _) (Nat.lt_of_lt_of_le hi ?_)
              exact hx
            · have hc' : x.cps.toList[i]? = some c := by rw [Array.getElem?_toList]; exact hc
              rw [upd_same, take_succ_all hc', List.map_append]
              rfl
          · rintro H1 ⟨sm, hL⟩
            refine ⟨D, _, rfl, SqL.of hL, ?_⟩
            have e2 : ((x.cps.toList.take x.cps.size).map fun c => decide (c ∈ cs.cps.toList)).all id = allIn cs x := by
              rw [List.take_of_length_le (by rw [Array.length_toList]; exact Nat.le_refl _), List.all_map]
              rfl
            rw [e1] at q
            show Q (.bl (((x.cps.toList.take x.cps.size).map fun c => decide (c ∈ cs.cps.toList)).all id)) H1
            rw [e2]
            exact q _ sm
      · refine ⟨_, rfl, ?_⟩
        refine iteT ?_
        have c1' : decide ((1 : Int) ≤ (x.length : Int)) = false := by
          cases z : decide ((1 : Int) ≤ (x.length : Int)) with
          | false => rfl
          | true => exact absurd z c1
        rw [c1', Bool.false_and, Bool.false_and] at e1
        rw [e1] at q
        exact q _ (Same.refl _)
structure TxtC (mg : Str → Option Value) : Prop where
  lt : ∃ t, mg "LETTERS" = some (.str LET t)
  ln : ∃ t, mg "LONGEST_NAME" = some (.int 8 t)
def spHost (K : PySem.W.Frag) : Sp := fun vs H Q _ => ∃ v : V, vs = [v] ∧ Kd K H v ∧ ∀ H', Same H H' → Q (.bl (textOf v LET 8)) H'
theorem ok_host {f : Addr} {fd : FuncData} (F : Fun K "is_host_name" "is_host_name" s_is_host_name f fd) (C : TxtC mg) (G_is_text_of : Fk P w K mg base CX0 1 "is_text_of" ["value", "characters", "longest"] (spText K)) :
    FnOk P w K mg base CX0 2 f fd ["value"] (spHost K) := by
  obtain ⟨t1, e1⟩ := C.lt
  obtain ⟨t2, e2⟩ := C.ln
  refine F.ok sc_is_host_name (fun vs H Q E h => ?_) (fun cdv A outer s H vs Q E hr h => ?_)
  · obtain ⟨v, rfl, _⟩ := h
    rfl
  · obtain ⟨v, rfl, kd, q⟩ := h
    refine ⟨_, (pss_one (ps_ret (pe_callF G_is_text_of (hr.mono (by decide)) (by rfl) pass0 (pa_cons (pv 0) (pa_cons (pe_glob (v := .str LET) (by rfl) e1 ⟨_, rfl⟩) (pa_cons (pe_glob (v := .int 8) (by rfl) e2 ⟨_, rfl⟩) pa_nil)))))), ?_⟩
    exact ⟨v, rfl, v, LET, 8, rfl, kd, q⟩
def DIG : Str := "0123456789"
def WSG : Str := LET ++ DIG
structure TxtW (mg : Str → Option Value) : Prop where
  dg : ∃ t, mg "DIGITS" = some (.str DIG t)
  ln : ∃ t, mg "LONGEST_WORD" = some (.int 12 t)
def spWord (K : PySem.W.Frag) : Sp := fun vs H Q _ => ∃ v : V, vs = [v] ∧ Kd K H v ∧ ∀ H', Same H H' → Q (.bl (textOf v WSG 12)) H'
theorem ok_word {f : Addr} {fd : FuncData} (F : Fun K "is_word" "is_word" s_is_word f fd) (C : TxtC mg) (D : TxtW mg) (G_is_text_of : Fk P w K mg base CX0 1 "is_text_of" ["value", "characters", "longest"] (spText K)) :
    FnOk P w K mg base CX0 2 f fd ["value"] (spWord K) := by
  obtain ⟨t1, e1⟩ := C.lt
  obtain ⟨t2, e2⟩ := D.dg
  obtain ⟨t3, e3⟩ := D.ln
  refine F.ok sc_is_word (fun vs H Q E h => ?_) (fun cdv A outer s H vs Q E hr h => ?_)
  · obtain ⟨v, rfl, _⟩ := h
    rfl
  · obtain ⟨v, rfl, kd, q⟩ := h
    refine ⟨_, (pss_one (ps_ret (pe_callF G_is_text_of (hr.mono (by decide)) (by rfl) pass0 (pa_cons (pv 0) (pa_cons (pe_op op_add_str (pe_glob (v := .str LET) (by rfl) e1 ⟨_, rfl⟩) (pe_glob (v := .str DIG) (by rfl) e2 ⟨_, rfl⟩)) (pa_cons (pe_glob (v := .int 12) (by rfl) e3 ⟨_, rfl⟩) pa_nil)))))), ?_⟩
    exact ⟨v, rfl, LET, DIG, rfl, rfl, (by decide +kernel), v, WSG, 12, rfl, kd, q⟩
end
end My

namespace My
open PySem PySem.Spec PyProof.Rows L2 Gy Xl Xs Xt
/-! ### what a relink is, over data -/
mutual
/-- few and short parts -/
def sml : PyData → Bool
  | .str x => decide (x.length ≤ 20)
  | .int _ => true
  | .list ds => decide (ds.length ≤ 14) && smls ds
  | .tuple ds => decide (ds.length ≤ 14) && smls ds
  | .dict kvs => decide (kvs.length ≤ 1)
  | .none => true
  | .bool _ => true
def smls : List PyData → Bool
  | [] => true
  | d :: ds => sml d && smls ds
end
theorem smls_mem : ∀ {ds : List PyData} {d : PyData}, smls ds = true → d ∈ ds → sml d = true
  | e :: ds, d, h, m => by
    have h2 : sml e = true ∧ smls ds = true := by simpa only [smls, Bool.and_eq_true] using h
    rcases List.mem_cons.mp m with rfl | m
    · exact h2.1
    · exact smls_mem h2.2 m
def isHost : PyData → Bool
  | .str x => decide ((1 : Int) ≤ (x.length : Int)) && decide ((x.length : Int) ≤ 8) && allIn LET x
  | _ => false
def txts : List PyData → List Str
  | [] => []
  | .str x :: ds => x :: txts ds
  | _ :: ds => txts ds
def isPath : PyData → Bool
  | .tuple ds => decide (3 ≤ ds.length) && (ds.all isHost && decide ((txts ds).Nodup))
  | _ => false
/-- a whole number from 0 on, below another -/
def isIdx (n : Int) : PyData → Bool
  | .int i => decide (0 ≤ i) && decide (i < n)
  | _ => false
theorem isPath_t (ds : List PyData) : isPath (.tuple ds) = (decide (3 ≤ ds.length) && (ds.all isHost && decide ((txts ds).Nodup))) := rfl
theorem isIdx_i (n i : Int) : isIdx n (.int i) = (decide (0 ≤ i) && decide (i < n)) := rfl
def isRel : PyData → Bool
  | .tuple [.tuple ds, c] => isPath (.tuple ds) && isIdx ((ds.length : Int) - 1) c
  | _ => false
theorem txts_all : ∀ {ds : List PyData}, ds.all isHost = true → ds = (txts ds).map PyData.str
  | [], _ => rfl
  | d :: ds, h => by
    have h2 : isHost d = true ∧ ds.all isHost = true := by simpa only [List.all_cons, Bool.and_eq_true] using h
    cases d with
    | str x =>
      show PyData.str x :: ds = PyData.str x :: (txts ds).map PyData.str
      rw [← txts_all h2.2]
    | _ => cases h2.1
section
variable {P : Program} {w : World} {K : PySem.W.Frag} {mg : Str → Option Value} {base : Heap} {H : Hp}
theorem Dns.len : ∀ {vs : List V} {ds : List PyData}, Dns K H vs ds → vs.length = ds.length
  | _, _, .nil => rfl
  | _, _, .cons h t => by rw [List.length_cons, List.length_cons, Dns.len t]
theorem Dns.get : ∀ {vs : List V} {ds : List PyData}, Dns K H vs ds → ∀ {i : Nat} {v : V}, vs[i]? = some v → ∃ d, ds[i]? = some d ∧ Dn K H v d
  | _, _, .nil, i, v, e => by simp at e
  | _, _, .cons h t, 0, v, e => by
    simp at e
    subst e
    exact ⟨_, rfl, h⟩
  | _, _, .cons h t, i + 1, v, e => by
    simp only [List.getElem?_cons_succ] at e ⊢
    exact Dns.get t e
theorem Dns.txts : ∀ {vs : List V} {xs : List Str}, Dns K H vs (xs.map PyData.str) → vs = xs.map V.str
  | _, [], .nil => rfl
  | _, x :: xs, .cons h t => by
    cases h
    rw [Dns.txts t]
    rfl
theorem kd_dn {v : V} {d : PyData} (h : Dn K H v d) (s : sml d = true) : Kd K H v := by
  cases h with
  | non => exact .oth (.base .non) (by decide +kernel) (fun x z => nomatch z)
  | bl b => exact .oth (.base (.bl b)) (by decide +kernel) (fun x z => nomatch z)
  | int i => exact .oth (.base (.int i)) (by decide +kernel) (fun x z => nomatch z)
  | str x =>
    have : x.length ≤ 20 := by simpa only [sml, decide_eq_true_eq] using s
    exact .str x (le200 (by omega))
  | lst e _ => exact .oth (.base (.lst e)) (by decide +kernel) (fun x z => nomatch z)
  | tup e _ => exact .oth e.ty (by decide +kernel) (fun x z => nomatch z)
  | dic e => exact .oth (.base (.dK e)) (by decide +kernel) (fun x z => nomatch z)
  | dic1 e => exact .oth (.base (.dK e)) (by decide +kernel) (fun x z => nomatch z)
theorem host_dn {v : V} {d : PyData} (h : Dn K H v d) : textOf v LET 8 = isHost d := by
  cases h <;> rfl
/-- the kind of a value, and whether it is a tuple -/
theorem tup_or {v : V} {d : PyData} (h : Dn K H v d) : (∃ a xs ds, v = .ref a ∧ d = .tuple ds ∧ Tz H a xs ∧ Dns K H xs ds) ∨ ((∀ ds, d ≠ .tuple ds) ∧ ∃ t, TyX K H v (.type t) ∧ kitB t "tuple" = some false) := by
  cases h with
  | non => exact .inr ⟨(fun _ z => nomatch z), _, .base .non, by decide +kernel⟩
  | bl b => exact .inr ⟨(fun _ z => nomatch z), _, .base (.bl b), by decide +kernel⟩
  | int i => exact .inr ⟨(fun _ z => nomatch z), _, .base (.int i), by decide +kernel⟩
  | str x => exact .inr ⟨(fun _ z => nomatch z), _, .base (.str x), by decide +kernel⟩
  | lst e _ => exact .inr ⟨(fun _ z => nomatch z), _, .base (.lst e), by decide +kernel⟩
  | tup e t => exact .inl ⟨_, _, _, rfl, rfl, e, t⟩
  | dic e => exact .inr ⟨(fun _ z => nomatch z), _, .base (.dK e), by decide +kernel⟩
  | dic1 e => exact .inr ⟨(fun _ z => nomatch z), _, .base (.dK e), by decide +kernel⟩
/-- whether it is a whole number, or True, False -/
theorem int_or {v : V} {d : PyData} (h : Dn K H v d) : (∃ i, v = .int i ∧ d = .int i) ∨ (∃ b, v = .bl b ∧ d = .bool b) ∨ ((∀ i, d ≠ .int i) ∧ ∃ t, TyX K H v (.type t) ∧ kitB t "int" = some false) := by
  cases h with
  | non => exact .inr (.inr ⟨(fun _ z => nomatch z), _, .base .non, by decide +kernel⟩)
  | bl b => exact .inr (.inl ⟨b, rfl, rfl⟩)
  | int i => exact .inl ⟨i, rfl, rfl⟩
  | str x => exact .inr (.inr ⟨(fun _ z => nomatch z), _, .base (.str x), by decide +kernel⟩)
  | lst e _ => exact .inr (.inr ⟨(fun _ z => nomatch z), _, .base (.lst e), by decide +kernel⟩)
  | tup e _ => exact .inr (.inr ⟨(fun _ z => nomatch z), _, e.ty, by decide +kernel⟩)
  | dic e => exact .inr (.inr ⟨(fun _ z => nomatch z), _, .base (.dK e), by decide +kernel⟩)
  | dic1 e => exact .inr (.inr ⟨(fun _ z => nomatch z), _, .base (.dK e), by decide +kernel⟩)
def spPath (K : PySem.W.Frag) : Sp := fun vs H Q _ => ∃ (v : V) (d : PyData), vs = [v] ∧ Dn K H v d ∧ sml d = true ∧ ∀ H', Same H H' → Q (.bl (isPath d)) H'
theorem ok_path {f : Addr} {fd : FuncData} (F : Fun K "is_relink_path" "is_relink_path" s_is_relink_path f fd) (Y : Bn mg) (sp : ∃ t, mg "SHORTEST_PATH" = some (.int 3 t))
    (G_is_host_name : Fk P w K mg base CX0 2 "is_host_name" ["value"] (spHost K)) : FnOk P w K mg base CX0 3 f fd ["value"] (spPath K) := by
  obtain ⟨t1, e1⟩ := sp
  refine F.ok sc_is_relink_path (fun vs H Q E h => ?_) (fun cdv A outer s H vs Q E hr h => ?_)
  · obtain ⟨v, d, rfl, _⟩ := h
    rfl
  · obtain ⟨v, d, rfl, dn, sm, q⟩ := h
    refine ⟨_, (pss_cons (ps_if (PW.pt (pw_or (pt_not (pt_val (pe_callB call_isi (by rfl) Y.isinstance (by decide +kernel) (pa_cons (pv 0) (pa_cons (pe_bltn (v := .ty "tuple") (by rfl) Y.tuple (by decide +kernel) rfl) pa_nil))))) (pw_or1 (pt_cmpR op_lt (pe_callB call_len_seq (by rfl) Y.len PySem.boot_len (pa_cons (pv 0) pa_nil)) (pe_glob (v := .int 3) (by rfl) e1 ⟨_, rfl⟩) (nomark _)))))
 (pss_one (ps_ret pe_bl))
 pss_nil)
 (pss_one (ps_ret (pe_and (pe_callB (cr_all rfl) (by rfl) Y.all (by decide +kernel) (pa_cons (pe_lc (own := [("host", 1)]) (g := gName 1) (tt := tYes) rfl sc_is_relink_path.nd (pi_tup (pv 0)) (blkOk_by (N := ["value", "host"]) (sc := defScope s_is_relink_path) (by decide +kernel)) (fun _ _ _ _ _ => (pg_name (i := 1) sc_is_relink_path.nd rfl (Or.inl rfl))) (fun _ _ _ _ _ => pts_nil) (fun _ _ _ _ _ => (pe_callF G_is_host_name (hr.mono (by decide)) (by rfl) pass0 (pa_cons (pv 1) pa_nil)))) pa_nil)) (pe_one (pe_cmpR op_eq (pe_lenTexts (by rfl) Y.len (by rfl) Y.set (pv 0)) (pe_callB call_len_seq (by rfl) Y.len PySem.boot_len (pa_cons (pv 0) pa_nil)) (nomark _))))))), ?_⟩
    rcases tup_or dn with ⟨a, xs, ds, rfl, rfl, ha, hd⟩ | ⟨no, t, ty, kt⟩
    · have sm2 : ds.length ≤ 14 ∧ smls ds = true := by simpa only [sml, Bool.and_eq_true, decide_eq_true_eq] using sm
      have el := Dns.len hd
      refine ⟨_, rfl, _, _, _, _, true, rfl, .ty "tuple", ha.ty, kit_ty (by decide +kernel), _, rfl, iteF ?_⟩
      refine ⟨_, rfl, a, _, rfl, .inr (ha.sq), _, 3, rfl, rfl, _, rfl, ite2 (fun c => ?_) (fun c => ?_)⟩
      · have c' := of_decide_eq_true c
        have z : isPath (.tuple ds) = false := by
          rw [isPath_t]
          rw [decide_eq_false (show ¬ 3 ≤ ds.length by omega), Bool.false_and]
        rw [z] at q
        exact q _ (Same.refl _)
      · have c' : ¬ (xs.length : Int) < 3 := fun z => c (decide_eq_true z)
        refine ⟨_, rfl, a, rfl, ⟨_, ha.sq⟩, fun D hD => ?_⟩
        refine lc_it (walk_tup (K := K) (a := a) (xs := xs)) (fun i H' => Same H H' ∧ H' D = some (.lst (((ds.take i).map isHost).map V.bl))) ⟨same_upd hD, upd_same⟩ (fun i H' _ h => (ha.same h.1).sq) ?_ ?_
        · rintro i y H1 H2 hi ⟨s1, hL⟩ ⟨rfl, hy⟩
          obtain ⟨di, hdi, dni⟩ := Dns.get hd hy
          refine ⟨rfl, ?_⟩
          dsimp only [tYes]
          refine iteT ?_
          refine ⟨_, rfl, y, rfl, kd_dn (dni.same s1) (smls_mem sm2.2 (List.mem_of_getElem? hdi)), fun H3 s3 => ?_⟩
          refine ⟨_, s3 _ _ hL, ?_, same_upd2 (s1.trans s3) hD, ?_⟩
          · rw [List.length_map, List.length_map, List.length_take]
            exact small200 (by omega)
          · rw [upd_same, host_dn dni, List.take_add_one, hdi, List.map_append, List.map_append]
            rfl
        · rintro H1 ⟨s1, hL⟩
          rw [el, List.take_of_length_le (Nat.le_refl _)] at hL
          refine ⟨D, _, rfl, SqL.of hL, _, rfl, ite2 (fun c1 => ?_) (fun c1 => ?_)⟩
          · rw [List.all_map] at c1
            have c2 : ds.all isHost = true := c1
            have e := txts_all c2
            have ha1 := ha.same s1
            have ex : xs = (txts ds).map V.str := by
              rw [e] at hd
              exact Dns.txts hd
            have el2 : xs.length = (txts ds).length := by rw [ex, List.length_map]
            refine ⟨_, rfl, a, txts ds, rfl, (by rw [← ex]; exact ha1.sq), (by omega), _, rfl, a, _, rfl, .inr (ha1.sq), rfl, ?_⟩
            have z : isPath (.tuple ds) = decide (V.int ((numd (txts ds) (txts ds).length : Nat) : Int) = V.int (xs.length : Int)) := by
              rw [isPath_t]
              rw [c2, decide_eq_true (show 3 ≤ ds.length by omega), Bool.true_and, Bool.true_and]
              congr 1
              have nf := numd_full (txts ds) (txts ds).length (Nat.le_refl _)
              rw [List.take_of_length_le (Nat.le_refl _)] at nf
              rw [← nf, eq_iff_iff, el2]
              refine ⟨fun z => by rw [z], fun z => ?_⟩
              injection z with z
              omega
            rw [← z]
            exact q _ s1
          · rw [List.all_map] at c1
            have c2 : ds.all isHost = false := Bool.eq_false_iff.mpr c1
            have z : isPath (.tuple ds) = false := by
              rw [isPath_t]
              rw [c2, Bool.false_and, Bool.and_false]
            rw [z] at q
            exact q _ s1
    · refine ⟨v, rfl, v, _, _, _, false, rfl, .ty "tuple", ty, kit_ty kt, _, rfl, ?_⟩
      refine iteT (iteT ?_)
      have z : isPath d = false := by
        cases d with
        | tuple ds => exact absurd rfl (no ds)
        | _ => rfl
      rw [z] at q
      exact q _ (Same.refl _)
/-! ### whole numbers, the cut -/
/-- a whole number from another on -/
def isFrom (n : Int) : PyData → Bool
  | .int i => decide (n ≤ i)
  | _ => false
def spFrom (K : PySem.W.Frag) : Sp := fun vs H Q _ => ∃ (v : V) (n : Int) (d : PyData), vs = [v, .int n] ∧ Dn K H v d ∧ Q (.bl (isFrom n d)) H
theorem ok_from {f : Addr} {fd : FuncData} (F : Fun K "is_integer_from" "is_integer_from" s_is_integer_from f fd) (Y : Bn mg) : FnOk P w K mg base CX0 1 f fd ["value", "least"] (spFrom K) := by
  refine F.ok sc_is_integer_from (fun vs H Q E h => ?_) (fun cdv A outer s H vs Q E hr h => ?_)
  · obtain ⟨v, n, d, rfl, _⟩ := h
    rfl
  · obtain ⟨v, n, d, rfl, dn, q⟩ := h
    refine ⟨_, (pss_one (ps_ret (pe_and (pe_callB call_isi (by rfl) Y.isinstance (by decide +kernel) (pa_cons (pv 0) (pa_cons (pe_bltn (v := .ty "int") (by rfl) Y.int (by decide +kernel) rfl) pa_nil))) (pe_and (pe_not (pe_callB call_isi (by rfl) Y.isinstance (by decide +kernel) (pa_cons (pv 0) (pa_cons (pe_bltn (v := .ty "bool") (by rfl) Y.bool (by decide +kernel) rfl) pa_nil)))) (pe_one (pe_cmpR op_ge (pv 0) (pv 1) (nomark _))))))), ?_⟩
    rcases int_or dn with ⟨i, rfl, rfl⟩ | ⟨b, rfl, rfl⟩ | ⟨no, t, ty, kt⟩
    · refine ⟨_, rfl, _, _, _, _, true, rfl, .ty "int", .base (.int i), kit_ty (by decide +kernel), _, rfl, iteT ?_⟩
      refine ⟨_, rfl, _, _, _, _, false, rfl, .ty "bool", .base (.int i), kit_ty (by decide +kernel), _, rfl, _, rfl, iteT ?_⟩
      exact ⟨_, rfl, _, rfl, _, _, rfl, rfl, q⟩
    · refine ⟨_, rfl, _, _, _, _, true, rfl, .ty "int", .base (.bl b), kit_ty (by decide +kernel), _, rfl, iteT ?_⟩
      refine ⟨_, rfl, _, _, _, _, true, rfl, .ty "bool", .base (.bl b), kit_ty (by decide +kernel), _, rfl, _, rfl, iteF ?_⟩
      exact q
    · refine ⟨v, rfl, v, _, _, _, false, rfl, .ty "int", ty, kit_ty kt, _, rfl, iteF ?_⟩
      have z : isFrom n d = false := by
        cases d with
        | int i => exact absurd rfl (no i)
        | _ => rfl
      rw [z] at q
      exact q
def spIdx (K : PySem.W.Frag) : Sp := fun vs H Q _ => ∃ (v : V) (n : Int) (d : PyData), vs = [v, .int n] ∧ Dn K H v d ∧ Q (.bl (isIdx n d)) H
theorem ok_idx {f : Addr} {fd : FuncData} (F : Fun K "is_index" "is_index" s_is_index f fd) (G_is_integer_from : Fk P w K mg base CX0 1 "is_integer_from" ["value", "least"] (spFrom K)) : FnOk P w K mg base CX0 2 f fd ["value", "size"] (spIdx K) := by
  refine F.ok sc_is_index (fun vs H Q E h => ?_) (fun cdv A outer s H vs Q E hr h => ?_)
  · obtain ⟨v, n, d, rfl, _⟩ := h
    rfl
  · obtain ⟨v, n, d, rfl, dn, q⟩ := h
    refine ⟨_, (pss_one (ps_ret (pe_and (pe_callF G_is_integer_from (hr.mono (by decide)) (by rfl) pass0 (pa_cons (pv 0) (pa_cons pe_int pa_nil))) (pe_one (pe_cmpR op_lt (pv 0) (pv 1) (nomark _)))))), ?_⟩
    refine ⟨_, rfl, v, 0, d, rfl, dn, _, rfl, ite2 (fun c => ?_) (fun c => ?_)⟩
    · cases d with
      | int i =>
        cases dn
        refine ⟨_, rfl, _, rfl, _, _, rfl, rfl, ?_⟩
        have z : isIdx n (.int i) = decide (i < n) := by
          rw [isIdx_i]
          have c' : decide ((0 : Int) ≤ i) = true := c
          rw [c', Bool.true_and]
        rw [z] at q
        exact q
      | _ => cases c
    · have z : isIdx n d = false := by
        cases d with
        | int i =>
          rw [isIdx_i]
          have c' : decide ((0 : Int) ≤ i) = false := Bool.eq_false_iff.mpr c
          rw [c', Bool.false_and]
        | _ => rfl
      rw [z] at q
      exact q
def spCut (K : PySem.W.Frag) : Sp := fun vs H Q _ => ∃ (a : Addr) (xs : List V) (v : V) (d : PyData), vs = [.ref a, v] ∧ Tz H a xs ∧ Dn K H v d ∧ Q (.bl (isIdx ((xs.length : Int) - 1) d)) H
theorem ok_cut {f : Addr} {fd : FuncData} (F : Fun K "is_cut_of" "is_cut_of" s_is_cut_of f fd) (Y : Bn mg) (G_is_index : Fk P w K mg base CX0 2 "is_index" ["value", "size"] (spIdx K)) : FnOk P w K mg base CX0 3 f fd ["path", "value"] (spCut K) := by
  refine F.ok sc_is_cut_of (fun vs H Q E h => ?_) (fun cdv A outer s H vs Q E hr h => ?_)
  · obtain ⟨a, xs, v, d, rfl, _⟩ := h
    rfl
  · obtain ⟨a, xs, v, d, rfl, ha, dn, q⟩ := h
    refine ⟨_, (pss_one (ps_ret (pe_callF G_is_index (hr.mono (by decide)) (by rfl) pass0 (pa_cons (pv 1) (pa_cons (pe_op op_sub (pe_callB call_len_seq (by rfl) Y.len PySem.boot_len (pa_cons (pv 0) pa_nil)) pe_int) pa_nil))))), ?_⟩
    exact ⟨_, rfl, _, rfl, a, _, rfl, .inr ha.sq, _, _, rfl, rfl, v, _, d, rfl, dn, q⟩
/-! ### is_relink -/
def spRel (K : PySem.W.Frag) : Sp := fun vs H Q _ => ∃ (v : V) (d : PyData), vs = [v] ∧ Dn K H v d ∧ sml d = true ∧ ∀ H', Same H H' → Q (.bl (isRel d)) H'
theorem isRel_2 (p c : PyData) : isRel (.tuple [p, c]) = (isPath p && (match p with | .tuple ds => isIdx ((ds.length : Int) - 1) c | _ => false)) := by
  cases p <;> rfl
theorem isRel_n {ds : List PyData} (h : ds.length ≠ 2) : isRel (.tuple ds) = false := by
  match ds, h with
  | [], _ => rfl
  | [p], _ => cases p <;> rfl
  | p :: c :: e :: ds, _ => cases p <;> rfl
  | [p, c], h => exact absurd rfl h
theorem ok_rel {f : Addr} {fd : FuncData} (F : Fun K "is_relink" "is_relink" s_is_relink f fd) (Y : Bn mg) (G_is_relink_path : Fk P w K mg base CX0 3 "is_relink_path" ["value"] (spPath K)) (G_is_cut_of : Fk P w K mg base CX0 3 "is_cut_of" ["path", "value"] (spCut K)) :
    FnOk P w K mg base CX0 4 f fd ["value"] (spRel K) := by
  refine F.ok sc_is_relink (fun vs H Q E h => ?_) (fun cdv A outer s H vs Q E hr h => ?_)
  · obtain ⟨v, d, rfl, _⟩ := h
    rfl
  · obtain ⟨v, d, rfl, dn, sm, q⟩ := h
    refine ⟨_, (pss_cons (ps_if (PW.pt (pw_or (pt_not (pt_val (pe_callB call_isi (by rfl) Y.isinstance (by decide +kernel) (pa_cons (pv 0) (pa_cons (pe_bltn (v := .ty "tuple") (by rfl) Y.tuple (by decide +kernel) rfl) pa_nil))))) (pw_or1 (pt_cmpR op_ne (pe_callB call_len_seq (by rfl) Y.len PySem.boot_len (pa_cons (pv 0) pa_nil)) pe_int (nomark _)))))
 (pss_one (ps_ret pe_bl))
 pss_nil)
 (pss_cons (ps_asg (pv 0) (pg_tup (by rfl) (pgs_cons (pg_name (i := 1) sc_is_relink.nd rfl (Or.inl rfl)) (pgs_cons (pg_name (i := 2) sc_is_relink.nd rfl (Or.inl rfl)) pgs_nil))))
 (pss_one (ps_ret (pe_and (pe_callF G_is_relink_path (hr.mono (by decide)) (by rfl) pass0 (pa_cons (pv 1) pa_nil)) (pe_one (pe_callF G_is_cut_of (hr.mono (by decide)) (by rfl) pass0 (pa_cons (pv 1) (pa_cons (pv 2) pa_nil))))))))), ?_⟩
    rcases tup_or dn with ⟨a, xs, ds, rfl, rfl, ha, hd⟩ | ⟨no, t, ty, kt⟩
    · have sm2 : ds.length ≤ 14 ∧ smls ds = true := by simpa only [sml, Bool.and_eq_true, decide_eq_true_eq] using sm
      have el := Dns.len hd
      refine ⟨_, rfl, _, _, _, _, true, rfl, .ty "tuple", ha.ty, kit_ty (by decide +kernel), _, rfl, iteF ?_⟩
      refine ⟨_, rfl, a, _, rfl, .inr (ha.sq), rfl, _, rfl, ite2 (fun c => ?_) (fun c => ?_)⟩
      · have c' : ds.length ≠ 2 := fun z => by
          rw [decide_eq_true (show V.int (xs.length : Int) = V.int 2 by rw [el, z]; rfl)] at c
          cases c
        rw [isRel_n c'] at q
        exact q _ (Same.refl _)
      · have c' : xs.length = 2 := by
          have z : V.int (xs.length : Int) = V.int 2 := Decidable.of_not_not fun z => c (by rw [decide_eq_false z]; rfl)
          injection z with z
          omega
        obtain ⟨p, c0, rfl⟩ : ∃ p c0, xs = [p, c0] := by
          match xs, c' with
          | [p, c0], _ => exact ⟨p, c0, rfl⟩
        cases hd with
        | @cons _ _ dp _ h1 hd =>
        cases hd with
        | @cons _ _ dc _ h2 hd =>
          cases hd
          have m1 : sml dp = true := smls_mem sm2.2 List.mem_cons_self
          rw [isRel_2] at q
          refine ⟨_, rfl, a, _, rfl, ha.sq, rfl, _, _, rfl, _, _, rfl, rfl, ?_⟩
          refine ⟨_, rfl, p, dp, rfl, h1, m1, fun H1 s1 => ⟨_, rfl, ite2 (fun c1 => ?_) (fun c1 => ?_)⟩⟩
          · rw [c1, Bool.true_and] at q
            rcases tup_or h1 with ⟨b, ys, es, rfl, rfl, hb, hes⟩ | ⟨no, _⟩
            · have el2 := Dns.len hes
              refine ⟨_, rfl, _, rfl, b, ys, c0, dc, rfl, hb.same s1, h2.same s1, ?_⟩
              rw [el2]
              exact q _ s1
            · cases dp with
              | tuple es => exact absurd rfl (no es)
              | _ => cases c1
          · rw [Bool.eq_false_iff.mpr c1, Bool.false_and] at q
            exact q _ s1
    · refine ⟨v, rfl, v, _, _, _, false, rfl, .ty "tuple", ty, kit_ty kt, _, rfl, ?_⟩
      refine iteT (iteT ?_)
      have z : isRel d = false := by
        cases d with
        | tuple ds => exact absurd rfl (no ds)
        | _ => rfl
      rw [z] at q
      exact q _ (Same.refl _)
end
end My

namespace My
open PySem PySem.Spec PyProof.Rows L2 Gy Xl Xs Xt
/-- a class of errors with one field: raised -/
structure Rz (P : Program) (w : World) (K : PySem.W.Frag) (mg : Str → Option Value) (base : Heap) (nm f : Str) (C : Addr) : Prop where
  gm : mg nm = some (.ref C)
  ty : PySem.W.typeIn K (.ref C) = some (.type "type")
  ex : ∃ (fI : Addr) (fd : FuncData), XIn K C fI ∧ FnOk P w K mg base CX0 1 fI fd ["self", f] (spI1 C f) ∧ XB K fd ["self", f] [] (fun us _ => us) (fun vs _ => vs)
/-- what is wanted where C(v) is raised -/
def Ro (E : XK) (C : Addr) (f : Str) (v : V) (H : Hp) : Prop := ∀ H' dx, Same H H' → H' dx = some (.xd [(f, v)]) → E (.ref C) (some dx) H'
theorem Ro.same {E : XK} {C : Addr} {f : Str} {v : V} {H H1 : Hp} (h : Ro E C f v H) (s : Same H H1) : Ro E C f v H1 := fun H' dx s1 e => h H' dx (s.trans s1) e
/-- the data of a relink -/
def reld (xs : List Str) (c : Nat) : PyData := .tuple [.tuple (xs.map PyData.str), .int (c : Int)]
theorem rel_parts {d : PyData} (h : isRel d = true) : ∃ (xs : List Str) (c : Nat), d = reld xs c ∧ 3 ≤ xs.length ∧ xs.Nodup ∧ c + 2 ≤ xs.length ∧ (xs.map PyData.str).all isHost = true := by
  match d, h with
  | .tuple [.tuple ds, c], h =>
    have h2 : isPath (.tuple ds) = true ∧ isIdx ((ds.length : Int) - 1) c = true := by simpa only [isRel, Bool.and_eq_true] using h
    have h3 := h2.1
    rw [isPath_t, Bool.and_eq_true, Bool.and_eq_true, decide_eq_true_eq, decide_eq_true_eq] at h3
    obtain ⟨l3, ah, nd⟩ := h3
    have e := txts_all ah
    have el : ds.length = (txts ds).length := by
      have := congrArg List.length e
      rw [List.length_map] at this
      exact this
    match c, h2.2 with
    | .int i, hc =>
      rw [isIdx_i, Bool.and_eq_true, decide_eq_true_eq, decide_eq_true_eq] at hc
      obtain ⟨j, rfl⟩ := Int.eq_ofNat_of_zero_le hc.1
      refine ⟨txts ds, j, ?_, by omega, nd, by omega, by rw [← e]; exact ah⟩
      unfold reld
      rw [← e]
section
variable {P : Program} {w : World} {K : PySem.W.Frag} {mg : Str → Option Value} {base : Heap} {H : Hp}
theorem rel_heap {v : V} {xs : List Str} {c : Nat} (h : Dn K H v (reld xs c)) : ∃ a b, v = .ref a ∧ Tz H a [.ref b, .int (c : Int)] ∧ Tz H b (xs.map V.str) := by
  cases h with
  | tup ha hs =>
    cases hs with
    | cons h1 h2 =>
      cases h2 with
      | cons h2 h3 =>
        cases h3
        cases h1 with
        | tup hb hx =>
          cases h2
          have e := Dns.txts hx
          subst e
          exact ⟨_, _, rfl, ha, hb⟩
theorem at_nat {xs : List Str} {i : Nat} (h : i < xs.length) : atI (xs.map V.str) (i : Int) = some (.str (xs.getD i "")) := by
  refine atI_nat ?_
  rw [List.getElem?_map, List.getD_eq_getElem?_getD, List.getElem?_eq_getElem h]
  rfl
theorem at_end {xs : List Str} (h : 0 < xs.length) : atI (xs.map V.str) (-1) = some (.str (xs.getD (xs.length - 1) "")) := by
  have ne : xs ≠ [] := fun z => by rw [z] at h; cases h
  have e := List.dropLast_concat_getLast ne
  have g : xs.getD (xs.length - 1) "" = xs.getLast ne := by
    rw [List.getD_eq_getElem?_getD, List.getElem?_eq_getElem (by omega), List.getLast_eq_getElem]
    rfl
  rw [g]
  conv => lhs; rw [← e]
  rw [List.map_append]
  exact atI_last _ _
def spChk (K : PySem.W.Frag) (C : Addr) : Sp := fun vs H Q E => ∃ (v : V) (d : PyData), vs = [v] ∧ Dn K H v d ∧ sml d = true ∧ (isRel d = true → ∀ H', Same H H' → Q .non H') ∧ (isRel d = false → Ro E C "value" v H)
theorem ok_chk {f C : Addr} {fd : FuncData} (F : Fun K "check_relink" "check_relink" s_check_relink f fd) (R : Rz P w K mg base "InvalidRelink" "value" C)
    (G_is_relink : Fk P w K mg base CX0 4 "is_relink" ["value"] (spRel K)) : FnOk P w K mg base (L2.CX P w) 5 f fd ["value"] (spChk K C) := by
  obtain ⟨fI, fdI, XI, GI, bI⟩ := R.ex
  refine F.okX sc_check_relink (fun vs H Q E h => ?_) (fun cdv A outer s H vs Q E hr h => ?_)
  · obtain ⟨v, d, rfl, _⟩ := h
    rfl
  · obtain ⟨v, d, rfl, dn, sm, q1, q2⟩ := h
    refine ⟨_, (pss_one (ps_if (pt_not (pt_val (pe_callF G_is_relink (hr.mono (by decide)) (by rfl) pass0 (pa_cons (pv 0) pa_nil))))
 (pss_one (ps_raise1 rfl (takes_of rfl rfl rfl rfl) XI R.ty GI (hr.mono (by decide)) bI (by rfl) R.gm (pa_cons (pv 0) pa_nil)))
 pss_nil)), ?_⟩
    refine ⟨_, rfl, v, d, rfl, dn, sm, fun H1 s1 => ⟨_, rfl, ?_⟩⟩
    cases c : isRel d with
    | true => exact iteF (q1 c _ s1)
    | false =>
      refine iteT ⟨_, rfl, v, rfl, fun dx nd => ?_⟩
      exact q2 c _ dx (s1.trans (same_upd nd)) upd_same
/-! ### the place of a host -/
def posn (xs : List Str) : PyData → Option Nat
  | .str x => if x ∈ xs then some (xs.idxOf x) else none
  | _ => none
/-- a query of a relink and a host -/
def spQh (K : PySem.W.Frag) (C U : Addr) (g : Nat → Nat → V) : Sp := fun vs H Q E => ∃ (v h : V) (d e : PyData), vs = [v, h] ∧ Dn K H v d ∧ sml d = true ∧ Dn K H h e ∧ sml e = true ∧ (isRel d = false → Ro E C "value" v H) ∧
  ∀ xs c, d = reld xs c → isRel d = true → (∀ j, posn xs e = some j → ∀ H', Same H H' → Q (g j c) H') ∧ (posn xs e = none → Ro E U "host" h H)
theorem ok_pos {f C U : Addr} {fd : FuncData} (F : Fun K "position" "position" s_position f fd) (R : Rz P w K mg base "UnknownHost" "host" U) (G_check_relink : Fk P w K mg base (L2.CX P w) 5 "check_relink" ["value"] (spChk K C))
    (G_is_host_name : Fk P w K mg base CX0 2 "is_host_name" ["value"] (spHost K)) : FnOk P w K mg base (L2.CX P w) 6 f fd ["relink", "host"] (spQh K C U fun j _ => .int (j : Int)) := by
  obtain ⟨fI, fdI, XI, GI, bI⟩ := R.ex
  refine F.okX sc_position (fun vs H Q E h => ?_) (fun cdv A outer s H vs Q E hr h => ?_)
  · obtain ⟨v, h, d, e, rfl, _⟩ := h
    rfl
  · obtain ⟨v, h, d, e, rfl, dn, sm, dh, sh, q2, q1⟩ := h
    refine ⟨_, (pss_cons (ps_expr (pe_callF G_check_relink (hr.mono (by decide)) (by rfl) (passes_call (E := E) (takes_of rfl rfl rfl rfl) (fun _ _ _ _ h => h)) (pa_cons (pv 0) pa_nil)))
 (pss_cons (ps_set (i := 2) sc_position.nd rfl (.inl rfl) (pe_ix ix_tup (pv 0) pe_int (fun _ _ => rfl)))
 (pss_cons (ps_if (PW.pt (pw_or (pt_not (pt_val (pe_callF G_is_host_name (hr.mono (by decide)) (by rfl) pass0 (pa_cons (pv 1) pa_nil)))) (pw_or1 (pt_cmpR op_notIn_seq (pv 1) (pv 2) rfl))))
 (pss_one (ps_raise1 rfl (takes_of rfl rfl rfl rfl) XI R.ty GI (hr.mono (by decide)) bI (by rfl) R.gm (pa_cons (pv 1) pa_nil)))
 pss_nil)
 (pss_one (ps_ret (pe_tm PySem.F.slot_tuple_index PySem.F.type_tuple_index mt_tup_index (pv 2) (pa_cons (pv 1) pa_nil))))))), ?_⟩
    refine ⟨_, rfl, v, d, rfl, dn, sm, fun c H1 s1 => ?_, q2⟩
    obtain ⟨xs, k, rfl, l3, nd, kl, ah⟩ := rel_parts c
    obtain ⟨a, b, rfl, ha, hb⟩ := rel_heap dn
    have ha1 := ha.same s1
    obtain ⟨q3, q4⟩ := q1 xs k rfl c
    refine ⟨_, rfl, a, _, 0, .ref b, rfl, rfl, ha1.sq, atI_nat (j := 0) rfl, ?_⟩
    refine ⟨_, rfl, h, rfl, kd_dn (dh.same s1) sh, fun H2 s2 => ?_⟩
    have s02 := s1.trans s2
    have hb2 := hb.same s02
    rw [host_dn dh]
    refine ⟨_, rfl, ?_⟩
    cases ce : isHost e with
    | false =>
      refine iteT (iteT ⟨_, rfl, h, rfl, fun dx nx => ?_⟩)
      have no : posn xs e = none := by
        cases e with
        | str x =>
          refine if_neg fun m => ?_
          rw [List.all_eq_true] at ah
          rw [ah _ (List.mem_map_of_mem m)] at ce
          cases ce
        | _ => rfl
      exact q4 no _ dx (s02.trans (same_upd nx)) upd_same
    | true =>
      refine iteF ?_
      cases dh with
      | str x =>
        refine ⟨_, rfl, _, rfl, b, _, rfl, .inr (hb2.sq), rfl, flat_strs xs, _, rfl, ite2 (fun c9 => ?_) (fun c9 => ?_)⟩
        · have c9' : (!inV (.str x) (xs.map V.str)) = true := c9
          rw [inV_strs] at c9'
          have no : posn xs (.str x) = none := if_neg fun m => by
            rw [decide_eq_true m] at c9'
            cases c9'
          exact ⟨_, rfl, _, rfl, fun dx nx => q4 no _ dx (s02.trans (same_upd nx)) upd_same⟩
        · have c9' : ¬ (!inV (.str x) (xs.map V.str)) = true := c9
          rw [inV_strs] at c9'
          have m : x ∈ xs := by
            cases z : decide (x ∈ xs) with
            | true => exact of_decide_eq_true z
            | false => exact absurd (by rw [z]; rfl) c9'
          have lt := List.idxOf_lt_length_of_mem m
          refine ⟨_, rfl, ⟨b, _, rfl, hb2⟩, _, rfl, b, xs, x, xs.idxOf x, rfl, rfl, hb2.sq, ?_, ?_, q3 _ (if_pos m) _ s02⟩
          · rw [List.getElem?_eq_getElem lt, List.getElem_idxOf]
          · intro j lj ej
            have lj2 : j < xs.length := Nat.lt_trans lj lt
            rw [List.getElem?_eq_getElem lj2] at ej
            injection ej with ej
            refine absurd (ej.trans (List.getElem_idxOf lt).symm) (List.pairwise_iff_getElem.mp nd j _ lj2 lt lj)
      | _ => cases ce
end
end My

namespace My
open PySem PySem.Spec PyProof.Rows L2 Gy Xl Xs Xt
/-! ### texts or None, cuts of a path, drawn relinks -/
def optV : Option Str → V
  | none => .non
  | some s => .str s
/-- the text at a place, counted from the end -/
def fromEnd (xs : List Str) (n : Nat) : Str := xs.getD (xs.length - n) ""
theorem inV_non : ∀ xs : List Str, inV .non (xs.map V.str) = false
  | [] => rfl
  | x :: xs => by
    have ih := inV_non xs
    unfold inV at ih ⊢
    rw [List.map_cons, List.any_cons, ih]
    rfl
theorem flat_opt (src : Option Str) : flatV (optV src) = true := by
  cases src <;> rfl
/-- the one text at a place, or none -/
def one (xs : List Str) (m n : Nat) : List Str := (xs.drop m).take (n - m)
theorem cut_one (xs : List Str) (m n : Nat) (hm : m ≤ xs.length) : cutV (xs.map V.str) (some (m : Int)) (some (n : Int)) = (one xs m n).map V.str := by
  unfold cutV one
  rw [HT.sIx_nat, HT.sIx_nat, List.length_map, Nat.min_eq_left hm, ← List.map_drop, ← List.map_take]
  congr 1
  by_cases h : n ≤ xs.length
  · rw [Nat.min_eq_left h]
  · rw [Nat.min_eq_right (by omega), List.take_of_length_le (by rw [List.length_drop]; omega), List.take_of_length_le (by rw [List.length_drop]; omega)]
theorem one_at {xs : List Str} {m : Nat} (h : m < xs.length) : one xs m (m + 1) = [xs.getD m ""] := by
  unfold one
  rw [show m + 1 - m = 1 by omega, List.drop_eq_getElem_cons h, List.take_succ_cons, List.take_zero, List.getD_eq_getElem?_getD, List.getElem?_eq_getElem h]
  rfl
theorem one_out {xs : List Str} {m n : Nat} (h : xs.length ≤ m) : one xs m n = [] := by
  unfold one
  rw [List.drop_eq_nil_of_le h, List.take_nil]
theorem one_nil {xs : List Str} {m : Nat} : one xs m m = [] := by
  unfold one
  rw [Nat.sub_self]
  rfl
theorem one_len (xs : List Str) (m : Nat) : (one xs m (m + 1)).length ≤ 1 := by
  unfold one
  rw [List.length_take]
  omega
theorem one_sub {xs : List Str} {m n : Nat} {y : Str} (h : y ∈ one xs m n) : y ∈ xs := List.mem_of_mem_drop (List.mem_of_mem_take h)
theorem scal_opt (y : Str) (src : Option Str) : scal (.str y) (optV src) = true := by
  cases src <;> rfl
theorem _root_.Xt.Tz.but {H H' : Hp} {a r : Addr} {xs : List V} (h : Tz H a xs) (R : Rng H r) (b : But r H H') : Tz H' a xs := by
  obtain ⟨o, e, c⟩ := h
  refine ⟨o, b a _ (fun z => ?_) e, c⟩
  obtain ⟨x, y, e2, _⟩ := R
  rw [z, e2] at e
  cases e
theorem _root_.Xt.Tz.updL {H : Hp} {a D : Addr} {xs l : List V} {o : HO} (h : Tz H a xs) (hD : H D = some (.lst l)) : Tz (upd H D o) a xs := by
  obtain ⟨ob, e, c⟩ := h
  refine ⟨ob, ?_, c⟩
  rw [upd_ne (fun z => by rw [z, hD] at e; cases e)]
  exact e
theorem cut2 (xs : List Str) (h : 2 ≤ xs.length) : cutV (xs.map V.str) (some 2) none = (xs.drop 2).map V.str ∧ cutV (xs.map V.str) none (some 2) = (xs.take 2).map V.str := by
  have e : HT.sIx (xs.map V.str).length 0 (some 2) = 2 := by
    rw [show (some 2 : Option Int) = some ((2 : Nat) : Int) from rfl, HT.sIx_nat, List.length_map]
    omega
  have e2 : HT.sIx (xs.map V.str).length (xs.map V.str).length (some 2) = 2 := by
    rw [show (some 2 : Option Int) = some ((2 : Nat) : Int) from rfl, HT.sIx_nat, List.length_map]
    omega
  constructor
  · unfold cutV
    rw [e, HT.sIx_none, List.take_of_length_le (by rw [List.length_drop]; exact Nat.le_refl _), List.map_drop]
  · unfold cutV
    rw [e2, HT.sIx_none, List.drop_zero, Nat.sub_zero, List.map_take]
def spLaw (K : PySem.W.Frag) : Sp := fun vs H Q _ => ∃ (a : Addr) (ns : List Int), vs = [.ref a] ∧ SqL K H a (ns.map V.int) ∧ ns.length ≤ 63 ∧ ∀ H', Q (.bl true) H'
theorem at_end2 {xs : List Str} (h : 2 ≤ xs.length) : atI (xs.map V.str) (-2) = some (.str (fromEnd xs 2)) := by
  have l : (xs.map V.str).length = xs.length := List.length_map ..
  have e : ixN (xs.map V.str).length (-2) = some (xs.length - 2) := by
    unfold ixN
    rw [if_neg (by omega), if_pos (by omega), l]
    congr 1
    omega
  show (ixN (xs.map V.str).length (-2)).bind (fun j => (xs.map V.str)[j]?) = _
  rw [e]
  show (xs.map V.str)[xs.length - 2]? = _
  unfold fromEnd
  rw [List.getD_eq_getElem?_getD, List.getElem?_map, List.getElem?_eq_getElem (by omega)]
  rfl
theorem strs_inj : ∀ {a b : List Str}, a.map PyData.str = b.map PyData.str → a = b
  | [], [], _ => rfl
  | [], y :: b, h => nomatch h
  | x :: a, [], h => nomatch h
  | x :: a, y :: b, h => by
    rw [List.map_cons, List.map_cons] at h
    injection h with h1 h2
    injection h1 with h1
    rw [h1, strs_inj h2]
theorem reld_inj {xs ys : List Str} {c d : Nat} (h : reld xs c = reld ys d) : xs = ys ∧ c = d := by
  unfold reld at h
  injection h with e1
  injection e1 with e1 e2
  injection e1 with e1
  injection e2 with e2
  injection e2 with e2
  exact ⟨strs_inj e1, by omega⟩
theorem txts_map : ∀ xs : List Str, txts (xs.map PyData.str) = xs
  | [] => rfl
  | x :: xs => by
    show x :: txts (xs.map PyData.str) = _
    rw [txts_map xs]
theorem host_of {x : Str} (h : Nm x) : isHost (.str x) = true := by
  obtain ⟨h1, h2, h3⟩ := h
  show (decide ((1 : Int) ≤ (x.length : Int)) && decide ((x.length : Int) ≤ 8) && allIn LET x) = true
  rw [decide_eq_true (show (1 : Int) ≤ (x.length : Int) by omega), decide_eq_true (show (x.length : Int) ≤ 8 by omega)]
  unfold allIn
  rw [Bool.true_and, Bool.true_and, List.all_eq_true]
  exact fun c hc => decide_eq_true (h3 c hc)
/-- a drawn relink is one -/
theorem rel_of {xs : List Str} {c : Nat} (nm : ∀ x ∈ xs, Nm x) (nd : xs.Nodup) (l3 : 3 ≤ xs.length) (cl : c + 2 ≤ xs.length) : isRel (reld xs c) = true := by
  show (isPath (.tuple (xs.map PyData.str)) && isIdx (((xs.map PyData.str).length : Int) - 1) (.int (c : Int))) = true
  rw [isPath_t, isIdx_i, txts_map, List.length_map, decide_eq_true l3, decide_eq_true nd, decide_eq_true (show (0 : Int) ≤ (c : Int) by omega), decide_eq_true (show (c : Int) < (xs.length : Int) - 1 by omega)]
  have e : (xs.map PyData.str).all isHost = true := by
    rw [List.all_eq_true]
    intro d hd
    obtain ⟨x, hx, rfl⟩ := List.mem_map.mp hd
    exact host_of (nm x hx)
  rw [e]
  rfl
theorem smls_strs : ∀ {xs : List Str}, (∀ x ∈ xs, Nm x) → smls (xs.map PyData.str) = true
  | [], _ => rfl
  | x :: xs, h => by
    show (decide (x.length ≤ 20) && smls (xs.map PyData.str)) = true
    have := (h x List.mem_cons_self).2.1
    rw [smls_strs fun y hy => h y (List.mem_cons_of_mem _ hy), decide_eq_true (show x.length ≤ 20 by omega)]
    rfl
theorem sml_reld {xs : List Str} {c : Nat} (nm : ∀ x ∈ xs, Nm x) (l14 : xs.length ≤ 14) (cl : c + 2 ≤ xs.length) : sml (reld xs c) = true := by
  show (decide (2 ≤ 14) && ((decide ((xs.map PyData.str).length ≤ 14) && smls (xs.map PyData.str)) && (true && true))) = true
  rw [smls_strs nm, List.length_map, decide_eq_true l14]
  rfl
theorem dns_strs {K : PySem.W.Frag} {H : Hp} : ∀ xs : List Str, Dns K H (xs.map V.str) (xs.map PyData.str)
  | [] => .nil
  | x :: xs => .cons (.str x) (dns_strs xs)
theorem dn_reld {K : PySem.W.Frag} {H : Hp} {a b : Addr} {xs : List Str} {c : Nat} (ha : Tz H a [.ref b, .int (c : Int)]) (hb : Tz H b (xs.map V.str)) : Dn K H (.ref a) (reld xs c) :=
  .tup ha (.cons (.tup hb (dns_strs xs)) (.cons (.int _) .nil))
theorem getD_mem {xs : List Str} {j : Nat} (h : j < xs.length) : xs.getD j "" ∈ xs := by
  rw [List.getD_eq_getElem?_getD, List.getElem?_eq_getElem h]
  exact List.getElem_mem h
theorem posn_at {xs : List Str} {j : Nat} (nd : xs.Nodup) (h : j < xs.length) : posn xs (.str (xs.getD j "")) = some j := by
  show (if xs.getD j "" ∈ xs then some (xs.idxOf (xs.getD j "")) else none) = some j
  rw [if_pos (getD_mem h), List.getD_eq_getElem?_getD, List.getElem?_eq_getElem h]
  show some (xs.idxOf xs[j]) = some j
  rw [nd.idxOf_getElem j h]
theorem posn_lt {xs : List Str} {e : PyData} {j : Nat} (h : posn xs e = some j) : j < xs.length := by
  cases e with
  | str x =>
    have h' : (if x ∈ xs then some (xs.idxOf x) else none) = some j := h
    by_cases m : x ∈ xs
    · rw [if_pos m] at h'
      cases h'
      exact List.idxOf_lt_length_of_mem m
    · rw [if_neg m] at h'
      cases h'
  | _ => cases h
end My

/-! An own exception of two fields raised; a call of what a subscript gives. -/
namespace Xl
open PySem PySem.Spec PyProof.Rows L2 Gy
def spI2 (C : Addr) (f1 f2 : Str) : Sp := fun vs H Q _ => ∃ (a : Addr) (v1 v2 : V), vs = [.ref a, v1, v2] ∧ H a = some (exo a C none) ∧
  ∀ dx, H dx = none → dx ≠ a → Q .non (upd (upd (upd H dx (exd dx [(f1, v1)])) a (exo a C (some dx))) dx (exd dx [(f2, v2), (f1, v1)]))
theorem del_made2 {H : Hp} {a dx C : Addr} {f1 f2 : Str} {v1 v2 : V} (n : H a = none) (ne : dx ≠ a) :
    upd (del (upd (upd (upd (upd H a (exo a C none)) dx (exd dx [(f1, v1)])) a (exo a C (some dx))) dx (exd dx [(f2, v2), (f1, v1)])) a) dx (.xd [(f2, v2), (f1, v1)]) = upd H dx (.xd [(f2, v2), (f1, v1)]) := by
  funext b
  by_cases h1 : b = dx
  · rw [h1, upd_same, upd_same]
  · rw [upd_ne h1, upd_ne h1]
    by_cases h2 : b = a
    · rw [h2, del_same, n]
    · rw [del_ne h2, upd_ne h1, upd_ne h2, upd_ne h1, upd_ne h2]
section
variable {X : Cx} {C fI : Addr} {fd : FuncData} {f1 f2 x : Str} {e e2 : Expr} {p pos : Pos}
/-- C(e, e2), to be raised -/
def tMk2 (C : Addr) (f1 f2 : Str) (t : TA) : L2.St → Hp → XK → Prop := fun σ H Q => t σ H fun vs H1 => ∃ v1 v2, vs = [v1, v2] ∧ ∀ d, H1 d = none → Q (.ref C) (some d) (upd H1 d (.xd [(f2, v2), (f1, v1)]))
theorem pmk_x2 {t : TA} (T : XIn X.K C fI) (ty : PySem.W.typeIn X.K (.ref C) = some (.type "type")) (F : FnOk X.prog X.w X.K X.mg X.base CX0 1 fI fd ["self", f1, f2] (spI2 C f1 f2)) (hr : Room 2 X.A)
    (hb : XB X.K fd ["self", f1, f2] [] (fun us _ => us) (fun vs _ => vs)) (hg : Gl X x) (hm : X.mg x = some (.ref C)) (ha : PA X [e, e2] t)
    (hdb : (x == ("__debug__" : Str)) = false := by decide) (hst : starEach [e, e2] X.env = (false, eval e X.env) :: starEach [e2] X.env := by rfl) (hpl : (backTo pos (starEach [e2] X.env)).any (·.1) = false := by rfl) :
    PMk X (.Call (.Name x p) [e, e2] [] pos) (tMk2 C f1 f2 t) := by
  intro pins s σ H Q I h
  refine wpAny_Call_Name_kw (ld_glob I hg hm ?_ hdb)
  refine PySem.W.callWith_K (h₀ := X.base) I.ok.mod.kin T.kp (thn (ha.run pos pins s σ H _ I h) ?_) hst hpl
  rintro us s1 ⟨vs, H1, I1, r1, v1, v2, rfl, q1⟩
  refine ⟨I1.kIn, ?_⟩
  show wpAny _ _ (call (.ref C) us) _ _ _
  obtain ⟨B, nI, iI, bmB, BF, _, ii, _⟩ := T.base
  obtain ⟨nm, N', qn, bs, bm, hdct, sn, sub, ab, col, dd, k0, k1, k2, k3, k5, cl, hT⟩ := PySem.W.excInit_of I1.kIn ii
  obtain ⟨hp, g', dr, tk', os⟩ := s1
  have big : hp.objs.size ≤ hp.objs.size + 1 := Nat.le_succ _
  have na : H1 (hp.objs.size + 1) = none := I1.hok.fresh big
  have keep : ∀ b o, hp.get? b = some o → ((hp.push (PySem.W.kdv_tup us)).push (PySem.PX.excO C hp.objs.size)).get? b = some o := fun b o e =>
    Heap.get?_push_of_some _ (Heap.get?_push_of_some _ e)
  have new : ((hp.push (PySem.W.kdv_tup us)).push (PySem.PX.excO C hp.objs.size)).get? (hp.objs.size + 1) = some (PySem.PX.excO C hp.objs.size) := by heap_get
  have I2 := I1.laid (t' := tk') (a := hp.objs.size + 1) (o := exo (hp.objs.size + 1) C none) keep big (exo_ok new)
  have r2 : Vals [V.ref (hp.objs.size + 1), v1, v2] (Value.ref (hp.objs.size + 1) :: us) := .cons rfl r1
  have hq : spI2 C f1 f2 [V.ref (hp.objs.size + 1), v1, v2] (upd H1 (hp.objs.size + 1) (exo (hp.objs.size + 1) C none))
      (fun r H2 => r = .non ∧ ∃ dx, dx ≠ hp.objs.size + 1 ∧ upd H1 (hp.objs.size + 1) (exo (hp.objs.size + 1) C none) dx = none ∧
        H2 = upd (upd (upd (upd H1 (hp.objs.size + 1) (exo (hp.objs.size + 1) C none)) dx (exd dx [(f1, v1)])) (hp.objs.size + 1) (exo (hp.objs.size + 1) C (some dx))) dx (exd dx [(f2, v2), (f1, v1)])) (fun _ _ _ => False) :=
    ⟨_, v1, v2, rfl, upd_same, fun dx nd ne => ⟨rfl, dx, ne, nd, rfl⟩⟩
  have bl := hb.to ⟨_, g', dr, tk', os⟩ (Value.ref (hp.objs.size + 1)) us [] I2.kIn (by rw [← r2.length]; rfl)
  refine wpAny_call (PySem.Xg.kw_call BF hT cl (PySem.W.looks_findIn I1.kIn T.ini) (fun self => PySem.W.bind_fn I1.kIn self T.tf) ?_ (codeAny_mono (F.run _ X.stack _ _ _ _ _ _ _ (hr.make C us []) (I2.env0.make C us []) bl r2 hq) ?_))
  · rw [← r1.length, sizeLine_eq]
    show 2 ≤ 16777216
    decide
  · rintro (er | (_ | _ | _ | u)) s' z
    · exact (show False from z).elim
    · exact z.elim
    · exact z.elim
    · exact z.elim
    · obtain ⟨r, H2, os2, bare2, un2, hok2, rv, er, dx, ne, nd, e2⟩ := z
      subst er
      obtain ⟨h2, g2, d2, t2, os'⟩ := s'
      subst e2
      refine ⟨rv, mk_end (raises_own T.ex ty) I1 big keep un2 hok2 os2 bare2 ((upd_ne ne.symm).trans upd_same) upd_same ((upd_ne ne).symm.trans nd) ?_⟩
      rw [del_made2 na ne]
      exact q1 dx ((upd_ne ne).symm.trans nd)
/-- raise C(e, e2) -/
theorem ps_raise2 {W : WX} {t : TA} {rp : Pos} (hc : X.calm = true) (tk : Takes X W) (T : XIn X.K C fI) (ty : PySem.W.typeIn X.K (.ref C) = some (.type "type")) (F : FnOk X.prog X.w X.K X.mg X.base CX0 1 fI fd ["self", f1, f2] (spI2 C f1 f2)) (hr : Room 2 X.A)
    (hb : XB X.K fd ["self", f1, f2] [] (fun us _ => us) (fun vs _ => vs)) (hg : Gl X x) (hm : X.mg x = some (.ref C)) (ha : PA X [e, e2] t)
    (hdb : (x == ("__debug__" : Str)) = false := by decide) (hst : starEach [e, e2] X.env = (false, eval e X.env) :: starEach [e2] X.env := by rfl) (hpl : (backTo pos (starEach [e2] X.env)).any (·.1) = false := by rfl) :
    PS X (.Raise (some (.Call (.Name x p) [e, e2] [] pos)) none rp) (fun _ σ H => tMk2 C f1 f2 t σ H fun cls d H' => W cls d σ H') :=
  ps_raise hc tk (pmk_x2 T ty F hr hb hg hm ha hdb hst hpl)
end
end Xl
namespace My
open PySem PySem.Spec PyProof.Rows L2 Gy Xl Xs Xt
/-- a class of errors with two fields: raised -/
structure Rz2 (P : Program) (w : World) (K : PySem.W.Frag) (mg : Str → Option Value) (base : Heap) (nm f1 f2 : Str) (C : Addr) : Prop where
  gm : mg nm = some (.ref C)
  ty : PySem.W.typeIn K (.ref C) = some (.type "type")
  ex : ∃ (fI : Addr) (fd : FuncData), XIn K C fI ∧ FnOk P w K mg base CX0 1 fI fd ["self", f1, f2] (spI2 C f1 f2) ∧ XB K fd ["self", f1, f2] [] (fun us _ => us) (fun vs _ => vs)
/-- what is wanted where C(v1, v2) is raised -/
def Ro2 (E : XK) (C : Addr) (f1 f2 : Str) (v1 v2 : V) (H : Hp) : Prop := ∀ H' dx, Same H H' → H' dx = some (.xd [(f2, v2), (f1, v1)]) → E (.ref C) (some dx) H'
theorem Ro2.same {E : XK} {C : Addr} {f1 f2 : Str} {v1 v2 : V} {H H1 : Hp} (h : Ro2 E C f1 f2 v1 v2 H) (s : Same H H1) : Ro2 E C f1 f2 v1 v2 H1 := fun H' dx s1 e => h H' dx (s.trans s1) e
/-- xs[i](e, ..): one of several defs -/
def tCallIx (S : Addr → Option Sp) (tf : TE) (t : TA) : TE := fun σ H Q => tf σ H fun v H1 => ∃ f sp, v = .ref f ∧ S f = some sp ∧ t σ H1 fun vs H2 => sp vs H2 Q (fun _ _ _ => False)
theorem pe_callIx {X : Cx} {k : Nat} {S : Addr → Option Sp} {a b e : Expr} {es : List Expr} {tf : TE} {t : TA} {p pos : Pos} (A : ∀ f sp, S f = some sp → Held X.prog X.w X.K X.mg X.base k f sp) (hr : Room k X.A) (hf : PE X (.Subscript a b p) tf) (ha : PA X (e :: es) t)
    (he : starEach (e :: es) X.env = (false, eval e X.env) :: starEach es X.env := by rfl) (hpl : (backTo pos (starEach es X.env)).any (·.1) = false := by rfl) : PE X (.Call (.Subscript a b p) (e :: es) [] pos) (tCallIx S tf t) := by
  refine ⟨fun pins s σ H Q I h => ?_⟩
  rw [show eval (.Call (.Subscript a b p) (e :: es) [] pos) X.env = (do callWith pos (← eval (.Subscript a b p) X.env) [] (backTo pos (starEach (e :: es) X.env)) (backToKw pos (keywordEach [] X.env))) from rfl]
  refine wpAny_bind (thn (hf.run pins s σ H _ I h) fun u s1 ⟨v, H1, I1, r1, f, sp, ev, hS, q1⟩ => ?_)
  subst ev
  cases r1
  obtain ⟨fd, ps, F, hk, hb⟩ := (A f sp hS).ex
  refine PySem.W.callWith_K (h₀ := X.base) I.ok.mod.kin hk (thn (ha.run pos pins s1 σ _ _ I1 q1) fun us s2 ⟨vs, H2, I2, r, q⟩ => ⟨I2.kIn, ?_⟩) he hpl
  have q' : sp (vs ++ []) H2 Q (fun _ _ _ => False) := by
    rw [List.append_nil]
    exact q
  exact run_fn F hr hb .nil (fun _ _ _ _ _ _ _ z => z.elim) I2 r q'
theorem Held.of {P : Program} {w : World} {K : PySem.W.Frag} {mg : Str → Option Value} {base : Heap} {k j : Nat} {f : Addr} {nm : Str} {ps : List Str} {sp : Sp} (F : Fk P w K mg base CX0 j nm ps sp) (h : j ≤ k) (m : mg nm = some (.ref f)) : Held P w K mg base k f sp := by
  obtain ⟨g, fd, m', kp, b, G⟩ := F.ex
  rw [m] at m'
  cases m'
  exact ⟨fd, ps, G.mono h, kp, b⟩
/-- f(e, ..) in a try -/
theorem pe_callSF {X : Cx} {CX : CXT} {k : Nat} {ps : List Str} {sp : Sp} {E : L2.St → XK} {x : Str} {p pos : Pos} {e : Expr} {es : List Expr} {t : TA} (F : Fk X.prog X.w X.K X.mg X.base CX k x ps sp) (hr : Room k X.A) (hg : Gl X x) (hx : ∀ σ, PassesAt CX X σ (E σ)) (ha : PA X (e :: es) t)
    (hdb : (x == ("__debug__" : Str)) = false := by decide) (he : starEach (e :: es) X.env = (false, eval e X.env) :: starEach es X.env := by rfl)
    (hpl : (backTo pos (starEach es X.env)).any (·.1) = false := by rfl) : PE X (.Call (.Name x p) (e :: es) [] pos) (tCallSD sp [] E t) := by
  obtain ⟨f, fd, m, kp, b, G⟩ := F.ex
  exact pe_callSD G hr hg m kp b .nil hx ha hdb he hpl
/-- what is known of a class of errors that is caught -/
structure Xc (K : PySem.W.Frag) (C R : Addr) : Prop where
  x : XCl K C
  em : PySem.W.exmOne K (.ref C) (.ref C) = some true
  ki : PySem.W.kitOne K (.ref C) (.ref R) = some true
theorem Xc.xf {K : PySem.W.Frag} {C R : Addr} (h : Xc K C R) : XfC K C := ⟨h.x.ga, h.x.gg, h.x.ex, h.x.hd⟩
/-- the class of an object, as the built-in isinstance asks for it -/
structure Cg (K : PySem.W.Frag) : Prop where
  cg : PySem.W.specialIn K (.builtin "object.__class__") "__get__" = some (some (.builtin "getset_descriptor.__get__"))
  ct : PySem.W.takesIn K (.builtin "object.__class__") = some true
end My

namespace My
open PySem PySem.Spec PyProof.Rows L2 Gy Xl Xs Xt
/-! ### how a host forwards -/
def fresh (xs : List Str) : Option Str → Bool
  | none => true
  | some s => !inV (.str s) (xs.map V.str)
def endB (o m : Bool) : V := if (o && !m) = true then .non else .int 0
def fwd (xs : List Str) (c j : Nat) (ph : Str) (src : Option Str) (g : Str) (b : Int) : V :=
  if (!decide (V.str ph = V.str "turned")) = true then .int 0
  else if decide (V.int (j : Int) = V.int 0) = true then endB (decide (V.str g = V.str (fromEnd xs 1))) (fresh xs src || (decide (optV src = V.str (xs.getD 1 "")) && decide (V.int b = V.int 1)))
  else if decide (V.int (j : Int) = V.int ((xs.length : Int) - 1)) = true then endB (decide (V.str g = V.str (xs.getD 0 ""))) (fresh xs src || (decide (optV src = V.str (fromEnd xs 2)) && decide (V.int b = V.int 1)))
  else if (!decide (V.str g = V.str (if decide ((j : Int) ≤ (c : Int)) = true then xs.getD (j - 1) "" else xs.getD (j + 1) ""))) = true then .int 0
  else if fresh xs src = true then .int 1 else .int b
section
variable {P : Program} {w : World} {K : PySem.W.Frag} {mg : Str → Option Value} {base : Heap} {H : Hp}
def spEnd : Sp := fun vs H Q _ => ∃ o m : Bool, vs = [.bl o, .bl m] ∧ Q (endB o m) H
theorem ok_end {f : Addr} {fd : FuncData} (F : Fun K "end_bit" "end_bit" s_end_bit f fd) : FnOk P w K mg base CX0 1 f fd ["is_over_new_link", "may_cross"] spEnd := by
  refine F.ok sc_end_bit (fun vs H Q E h => ?_) (fun cdv A outer s H vs Q E hr h => ?_)
  · obtain ⟨o, m, rfl, _⟩ := h
    rfl
  · obtain ⟨o, m, rfl, q⟩ := h
    refine ⟨_, (pss_one (ps_ret (pe_ifExp (PW.pt (pw_and (pt_val (pv 0)) (pw_and1 (pt_not (pt_val (pv 1)))))) pe_non pe_int))), ?_⟩
    refine ⟨_, rfl, o, rfl, ?_⟩
    cases o with
    | false => exact iteF (iteF q)
    | true =>
      refine iteT ⟨_, rfl, m, rfl, ?_⟩
      cases m with
      | false => exact iteT q
      | true => exact iteF q
/-- a query of a relink and a host, with what more is asked -/
def spFwd (K : PySem.W.Frag) (C U : Addr) : Sp := fun vs H Q E => ∃ (v h : V) (d e : PyData) (ph g : Str) (src : Option Str) (b : Int), vs = [v, h, .str ph, optV src, .str g, .int b] ∧ Dn K H v d ∧ sml d = true ∧ Dn K H h e ∧ sml e = true ∧
  (isRel d = false → Ro E C "value" v H) ∧
  ∀ xs c, d = reld xs c → isRel d = true → (∀ j, posn xs e = some j → ∀ H', Same H H' → Q (fwd xs c j ph src g b) H') ∧ (posn xs e = none → Ro E U "host" h H)
theorem ok_fwd {f C U : Addr} {fd : FuncData} (F : Fun K "forward_bit" "forward_bit" s_forward_bit f fd) (Y : Bn mg) (G_position : Fk P w K mg base (L2.CX P w) 6 "position" ["relink", "host"] (spQh K C U fun j _ => .int (j : Int)))
    (G_end_bit : Fk P w K mg base CX0 1 "end_bit" ["is_over_new_link", "may_cross"] spEnd) : FnOk P w K mg base (L2.CX P w) 7 f fd ["relink", "host", "phase", "source", "goal", "bit"] (spFwd K C U) := by
  refine F.okX sc_forward_bit (fun vs H Q E h => ?_) (fun cdv A outer s H vs Q E hr h => ?_)
  · obtain ⟨v, h, d, e, ph, g, src, b, rfl, _⟩ := h
    rfl
  · obtain ⟨v, h, d, e, ph, g, src, b, rfl, dn, sm, dh, sh, q2, q1⟩ := h
    refine ⟨_, (pss_cons (ps_set (i := 6) sc_forward_bit.nd rfl (.inl rfl) (pe_callF G_position (hr.mono (by decide)) (by rfl) (passes_call (E := E) (takes_of rfl rfl rfl rfl) (fun _ _ _ _ h => h)) (pa_cons (pv 0) (pa_cons (pv 1) pa_nil))))
 (pss_cons (ps_if (pt_cmpR op_ne (pv 2) pe_str (nomark _))
 (pss_one (ps_ret pe_int))
 pss_nil)
 (pss_cons (ps_asg (pv 0) (pg_tup (by rfl) (pgs_cons (pg_name (i := 7) sc_forward_bit.nd rfl (Or.inl rfl)) (pgs_cons (pg_name (i := 8) sc_forward_bit.nd rfl (Or.inl rfl)) pgs_nil))))
 (pss_cons (ps_set (i := 9) sc_forward_bit.nd rfl (.inl rfl) (pe_or (pe_cmpR op_isN (pv 3) pe_non (nomark _)) (pe_one (pe_cmpR op_notIn_seq (pv 3) (pv 7) rfl))))
 (pss_cons (ps_if (pt_cmpR op_eq (pv 6) pe_int (nomark _))
 (pss_one (ps_ret (pe_callF G_end_bit (hr.mono (by decide)) (by rfl) pass0 (pa_cons (pe_cmpR op_eq (pv 4) (pe_ix ix_tup (pv 7) (pe_un un_neg pe_int) (fun _ _ => rfl)) (nomark _)) (pa_cons (pe_or (pv 9) (pe_one (pe_and (pe_cmpR op_eq (pv 3) (pe_ix ix_tup (pv 7) pe_int (fun _ _ => rfl)) (nomark _)) (pe_one (pe_cmpR op_eq (pv 5) pe_int (nomark _)))))) pa_nil)))))
 pss_nil)
 (pss_cons (ps_if (pt_cmpR op_eq (pv 6) (pe_op op_sub (pe_callB call_len_seq (by rfl) Y.len PySem.boot_len (pa_cons (pv 7) pa_nil)) pe_int) (nomark _))
 (pss_one (ps_ret (pe_callF G_end_bit (hr.mono (by decide)) (by rfl) pass0 (pa_cons (pe_cmpR op_eq (pv 4) (pe_ix ix_tup (pv 7) pe_int (fun _ _ => rfl)) (nomark _)) (pa_cons (pe_or (pv 9) (pe_one (pe_and (pe_cmpR op_eq (pv 3) (pe_ix ix_tup (pv 7) (pe_un un_neg pe_int) (fun _ _ => rfl)) (nomark _)) (pe_one (pe_cmpR op_eq (pv 5) pe_int (nomark _)))))) pa_nil)))))
 pss_nil)
 (pss_cons (ps_set (i := 10) sc_forward_bit.nd rfl (.inl rfl) (pe_ifExp (pt_cmpR op_le (pv 6) (pv 8) (nomark _)) (pe_ix ix_tup (pv 7) (pe_op op_sub (pv 6) pe_int) (fun _ _ => rfl)) (pe_ix ix_tup (pv 7) (pe_op op_add (pv 6) pe_int) (fun _ _ => rfl))))
 (pss_cons (ps_if (pt_cmpR op_ne (pv 4) (pv 10) (nomark _))
 (pss_one (ps_ret pe_int))
 pss_nil)
 (pss_one (ps_ret (pe_ifExp (pt_val (pv 9)) pe_int (pv 5)))))))))))), ?_⟩
    refine ⟨_, rfl, _, rfl, v, h, d, e, rfl, dn, sm, dh, sh, q2, fun xs c ed ir => ?_⟩
    obtain ⟨q3, q4⟩ := q1 xs c ed ir
    refine ⟨fun j hj H1 s1 => ?_, q4⟩
    obtain ⟨xs', c', ed', l3, nd, cl, ah⟩ := rel_parts ir
    obtain ⟨rfl, rfl⟩ : xs' = xs ∧ c' = c := by
      rw [ed] at ed'
      obtain ⟨e1, e2⟩ := reld_inj ed'
      exact ⟨e1.symm, e2.symm⟩
    subst ed
    obtain ⟨ra, rb, rfl, ha, hb⟩ := rel_heap dn
    have ha1 := ha.same s1
    have hb1 := hb.same s1
    have jl := posn_lt hj
    have q := q3 j hj H1 s1
    unfold fwd at q
    clear q1 q2 q3 q4
    refine ⟨_, rfl, rfl, _, rfl, ite2 (fun c1 => ?_) (fun c1 => ?_)⟩
    · rw [if_pos c1] at q
      exact q
    rw [if_neg c1] at q
    refine ⟨_, rfl, ra, _, rfl, ha1.sq, rfl, _, _, rfl, _, _, rfl, rfl, ?_⟩
    refine ⟨_, rfl, rfl, _, rfl, ?_⟩
    cases hsrc : src
    case' none =>
      refine iteT ?_
    case' some s =>
      refine iteF ?_
      refine ⟨_, rfl, _, rfl, rb, _, rfl, .inr hb1.sq, rfl, flat_strs _, ?_⟩
    all_goals
      refine ⟨_, rfl, rfl, _, rfl, ite2 (fun c2 => ?_) (fun c2 => ?_)⟩
      · rw [if_pos c2] at q
        refine ⟨_, rfl, _, rfl, 1, rfl, rb, _, -1, _, rfl, rfl, hb1.sq, at_end (by omega), rfl, ?_⟩
        refine ⟨_, rfl, _, rfl, ite2 (fun c3 => ?_) (fun c3 => ?_)⟩
        · have c3' : fresh xs' src = true := by rw [hsrc]; exact c3
          rw [c3', Bool.true_or] at q
          exact ⟨_, _, rfl, q⟩
        · have c3' : fresh xs' src = false := by rw [hsrc]; exact Bool.eq_false_iff.mpr c3
          rw [c3', Bool.false_or, hsrc] at q
          refine ⟨_, rfl, _, rfl, rb, _, 1, _, rfl, rfl, hb1.sq, at_nat (i := 1) (by omega), rfl, _, rfl, ite2 (fun c4 => ?_) (fun c4 => ?_)⟩
          · rw [c4, Bool.true_and] at q
            exact ⟨_, rfl, rfl, _, _, rfl, q⟩
          · rw [Bool.eq_false_iff.mpr c4, Bool.false_and] at q
            exact ⟨_, _, rfl, q⟩
      rw [if_neg c2] at q
      refine ⟨_, rfl, _, rfl, rb, _, rfl, .inr hb1.sq, _, _, rfl, rfl, rfl, _, rfl, ?_⟩
      rw [List.length_map]
      refine ite2 (fun c3 => ?_) (fun c3 => ?_)
      · rw [if_pos c3] at q
        refine ⟨_, rfl, _, rfl, rb, _, 0, _, rfl, rfl, hb1.sq, at_nat (i := 0) (by omega), rfl, ?_⟩
        refine ⟨_, rfl, _, rfl, ite2 (fun c3 => ?_) (fun c3 => ?_)⟩
        · have c3' : fresh xs' src = true := by rw [hsrc]; exact c3
          rw [c3', Bool.true_or] at q
          exact ⟨_, _, rfl, q⟩
        · have c3' : fresh xs' src = false := by rw [hsrc]; exact Bool.eq_false_iff.mpr c3
          rw [c3', Bool.false_or, hsrc] at q
          refine ⟨_, rfl, _, rfl, 2, rfl, rb, _, -2, _, rfl, rfl, hb1.sq, at_end2 (by omega), rfl, _, rfl, ite2 (fun c4 => ?_) (fun c4 => ?_)⟩
          · rw [c4, Bool.true_and] at q
            exact ⟨_, rfl, rfl, _, _, rfl, q⟩
          · rw [Bool.eq_false_iff.mpr c4, Bool.false_and] at q
            exact ⟨_, _, rfl, q⟩
      rw [if_neg c3] at q
      have j0 : j ≠ 0 := fun z => c2 (decide_eq_true (by rw [z]; rfl))
      have j1 : j + 1 < xs'.length := by
        have : ¬ (j : Int) = (xs'.length : Int) - 1 := fun z => c3 (decide_eq_true (by show V.int (j : Int) = V.int ((xs'.length : Int) - 1); rw [z]))
        omega
      refine ⟨_, rfl, _, rfl, _, _, rfl, rfl, _, rfl, ite2 (fun c4 => ?_) (fun c4 => ?_)⟩
      · rw [if_pos c4] at q
        refine ⟨_, rfl, _, rfl, _, _, rfl, rfl, rb, _, _, _, rfl, rfl, hb1.sq, (by rw [show (j : Int) - 1 = ((j - 1 : Nat) : Int) by omega]; exact at_nat (i := j - 1) (by omega)), ?_⟩
        refine ⟨_, rfl, _, rfl, rfl, _, rfl, ite2 (fun c5 => ?_) (fun c5 => ?_)⟩
        · rw [if_pos c5] at q
          exact q
        · rw [if_neg c5] at q
          refine ⟨_, rfl, _, rfl, ite2 (fun c6 => ?_) (fun c6 => ?_)⟩
          · have c6' : fresh xs' src = true := by rw [hsrc]; exact c6
            rw [if_pos c6'] at q
            exact q
          · have c6' : ¬ fresh xs' src = true := by rw [hsrc]; exact c6
            rw [if_neg c6'] at q
            exact ⟨_, rfl, q⟩
      · rw [if_neg c4] at q
        refine ⟨_, rfl, _, rfl, _, _, rfl, rfl, rb, _, _, _, rfl, rfl, hb1.sq, (by rw [show (j : Int) + 1 = ((j + 1 : Nat) : Int) by omega]; exact at_nat (i := j + 1) (by omega)), ?_⟩
        refine ⟨_, rfl, _, rfl, rfl, _, rfl, ite2 (fun c5 => ?_) (fun c5 => ?_)⟩
        · rw [if_pos c5] at q
          exact q
        · rw [if_neg c5] at q
          refine ⟨_, rfl, _, rfl, ite2 (fun c6 => ?_) (fun c6 => ?_)⟩
          · have c6' : fresh xs' src = true := by rw [hsrc]; exact c6
            rw [if_pos c6'] at q
            exact q
          · have c6' : ¬ fresh xs' src = true := by rw [hsrc]; exact c6
            rw [if_neg c6'] at q
            exact ⟨_, rfl, q⟩
end
end My

/-! Defs that are called with keywords. -/
namespace My
open PySem PySem.Spec PyProof.Rows L2 Gy Xl Xs Xt
/-- a def of the top: n values by position, keywords ks; gV puts them into the parameters' order -/
structure Fw (P : Program) (w : World) (K : PySem.W.Frag) (mg : Str → Option Value) (base : Heap) (CX : CXT) (k : Nat) (nm : Str) (ps : List Str) (n : Nat) (ks : List Str) (gV : List V → List V → List V) (sp : Sp) : Prop where
  ex : ∃ (f : Addr) (fd : FuncData) (g : List Value → List Value → List Value), mg nm = some (.ref f) ∧ PySem.W.keepIn K (.ref f) = true ∧ KBn K fd ps n ks g gV ∧ FnOk P w K mg base CX k f fd ps sp
section
variable {X : Cx} {CX : CXT} {k n : Nat} {ps ks : List Str} {sp : Sp} {E : XK} {x : Str} {p pos : Pos} {e : Expr} {es : List Expr} {kws : List Keyword} {t tk : TA} {gV : List V → List V → List V}
theorem pe_callNF (F : Fw X.prog X.w X.K X.mg X.base CX k x ps n ks gV sp) (hr : Room k X.A) (hg : Gl X x) (hx : Passes CX X E) (ha : PA X (e :: es) t) (hkw : PK X kws tk)
    (hall : (backToKw pos (keywordEach kws X.env)).all (·.1.isSome) = true := by rfl) (hks : (backToKw pos (keywordEach kws X.env)).filterMap (·.1) = ks := by rfl) (hdb : (x == ("__debug__" : Str)) = false := by decide)
    (he : starEach (e :: es) X.env = (false, eval e X.env) :: starEach es X.env := by rfl) (hpl : ((backTo pos (starEach (e :: es) X.env)).any (·.1) || (backToKw pos (keywordEach kws X.env)).any (·.1.isNone)) = false := by rfl) :
    PE X (.Call (.Name x p) (e :: es) kws pos) (tCallN n ks.length sp gV E t tk) := by
  obtain ⟨f, fd, g, m, kp, b, G⟩ := F.ex
  exact pe_callN G hr hg m kp b hx ha hkw hall hks hdb he hpl
/-- f(k = v, ..) -/
def tCall0 (m : Nat) (sp : Sp) (gV : List V → List V → List V) (E : XK) (tk : TA) : TE := fun σ H Q => tk σ H fun zs H2 => zs.length = m ∧ sp (gV [] zs) H2 Q E
theorem pe_call0F (F : Fw X.prog X.w X.K X.mg X.base CX k x ps 0 ks gV sp) (hr : Room k X.A) (hg : Gl X x) (hx : Passes CX X E) (hkw : PK X kws tk)
    (hall : (backToKw pos (keywordEach kws X.env)).all (·.1.isSome) = true := by rfl) (hks : (backToKw pos (keywordEach kws X.env)).filterMap (·.1) = ks := by rfl) (hdb : (x == ("__debug__" : Str)) = false := by decide)
    (hpl : ((backTo pos (starEach [] X.env)).any (·.1) || (backToKw pos (keywordEach kws X.env)).any (·.1.isNone)) = false := by rfl) :
    PE X (.Call (.Name x p) [] kws pos) (tCall0 ks.length sp gV E tk) := by
  obtain ⟨f, fd, g, m, kp, b, G⟩ := F.ex
  constructor
  intro pins s σ H Q I h
  refine wpAny_Call_Name_kw (ld_glob I hg m ?_ hdb)
  refine PySem.W.callWith_KW0 (h₀ := X.base) I.ok.mod.kin kp hall (thn (hkw.run pos pins s σ H _ I h) ?_) hpl
  rintro ws s2 ⟨zs, H2, I2, rz, l2, q2⟩
  rw [hks]
  exact ⟨I2.kIn, run_fnN (us := []) G hr b hx I2 .nil rz rfl l2 q2⟩
end
theorem vals_back : ∀ {xs : List V} {us : List Value}, Vals xs us → Vals xs.reverse us.reverse
  | _, _, .nil => .nil
  | _, _, .cons h t => by
    rw [List.reverse_cons, List.reverse_cons]
    exact (vals_back t).append (.cons h .nil)
/-- the keywords in the parameters' order, or turned about -/
theorem kbn_fwd {K : PySem.W.Frag} {x qual : Str} {st : Stmt} {f : Addr} {fd : FuncData} {ps ks : List Str} {n : Nat} (F : Fun K x qual st f fd)
    (h : ∀ (kV doc pm : Value) (an : Option Addr) (cdv ct : Value) (us ws : List Value), us.length = n → ws.length = ks.length → bindArgs (PySem.W.fnOf x qual (defArgs st) (defBody st) (defScope st) .none kV doc pm an cdv ct) ⟨us, ks.zip ws⟩ = pure (ps.zip (us ++ ws))) :
    KBn K fd ps n ks (fun us ws => us ++ ws) (fun vs zs => vs ++ zs) := by
  obtain ⟨oc, od, kV, doc, pm, an, cdv, ct, osl, rfl, lk, hcd⟩ := F.ex
  exact ⟨fun s us ws _ h1 h2 => .of_eq (h kV doc pm an cdv ct us ws h1 h2), fun r z => r.append z⟩
theorem kbn_back {K : PySem.W.Frag} {x qual : Str} {st : Stmt} {f : Addr} {fd : FuncData} {ps ks : List Str} {n : Nat} (F : Fun K x qual st f fd)
    (h : ∀ (kV doc pm : Value) (an : Option Addr) (cdv ct : Value) (us ws : List Value), us.length = n → ws.length = ks.length → bindArgs (PySem.W.fnOf x qual (defArgs st) (defBody st) (defScope st) .none kV doc pm an cdv ct) ⟨us, ks.zip ws⟩ = pure (ps.zip (us ++ ws.reverse))) :
    KBn K fd ps n ks (fun us ws => us ++ ws.reverse) (fun vs zs => vs ++ zs.reverse) := by
  obtain ⟨oc, od, kV, doc, pm, an, cdv, ct, osl, rfl, lk, hcd⟩ := F.ex
  exact ⟨fun s us ws _ h1 h2 => .of_eq (h kV doc pm an cdv ct us ws h1 h2), fun r z => r.append (vals_back z)⟩
end My

namespace My
open PySem PySem.Spec PyProof.Rows L2 Gy Xl Xs Xt
/-! ### forwards -/
/-- pairs of a text and a whole number stand at ts -/
def PrI (H : Hp) : List Addr → List (Str × Int) → Prop
  | [], [] => True
  | t :: ts, p :: ps => Tz H t [.str p.1, .int p.2] ∧ PrI H ts ps
  | _, _ => False
theorem PrI.same {H H' : Hp} (s : Same H H') : ∀ {ts : List Addr} {ps : List (Str × Int)}, PrI H ts ps → PrI H' ts ps
  | [], [], _ => trivial
  | _ :: _, _ :: _, h => ⟨h.1.same s, PrI.same s h.2⟩
theorem PrI.snoc_upd {H : Hp} {D t : Addr} {l : List V} {o : HO} {p : Str × Int} (hD : H D = some (.lst l)) (tz : Tz H t [.str p.1, .int p.2]) : ∀ {ts : List Addr} {ps : List (Str × Int)}, PrI H ts ps → PrI (upd H D o) (ts ++ [t]) (ps ++ [p])
  | [], [], _ => ⟨tz.updL hD, trivial⟩
  | _ :: _, _ :: _, h => ⟨h.1.updL hD, PrI.snoc_upd hD tz h.2⟩
theorem PrI.len {H : Hp} : ∀ {ts : List Addr} {ps : List (Str × Int)}, PrI H ts ps → ts.length = ps.length
  | [], [], _ => rfl
  | _ :: _, _ :: _, h => by rw [List.length_cons, List.length_cons, PrI.len h.2]
/-- a list of such pairs stands at L -/
def Lp (H : Hp) (L : Addr) (ps : List (Str × Int)) : Prop := ∃ ts, H L = some (.lst (ts.map V.ref)) ∧ PrI H ts ps
theorem Lp.same {H H' : Hp} {L : Addr} {ps : List (Str × Int)} (h : Lp H L ps) (s : Same H H') : Lp H' L ps := by
  obtain ⟨ts, h1, h2⟩ := h
  exact ⟨ts, s _ _ h1, h2.same s⟩
/-- the goals of a message -/
def gls (src : Option Str) (ys : List Str) : List Str := ys.filter fun y => !decide (V.str y = optV src)
/-- is not None -/
def rNotN : R2 := fun x y H Q => y = .non ∧ Q (.bl (!decide (x = .non))) H
def sentTo (f : Str → V) (g : Str) : Option (Str × Int) := match f g with
  | .int n => some (g, n)
  | _ => none
def sents (f : Str → V) (gs : List Str) : List (Str × Int) := gs.filterMap (sentTo f)
theorem fwd_opt (xs : List Str) (c j : Nat) (ph : Str) (src : Option Str) (g : Str) (b : Int) : fwd xs c j ph src g b = .non ∨ ∃ n, fwd xs c j ph src g b = .int n := by
  unfold fwd endB
  repeat' split
  all_goals first
    | exact .inl rfl
    | exact .inr ⟨_, rfl⟩
section
variable {P : Program} {w : World} {K : PySem.W.Frag} {mg : Str → Option Value} {base : Heap} {H : Hp}
def isNo : PyData → Bool
  | .none => true
  | _ => false
theorem isNo_eq {d : PyData} : isNo d = true ↔ d = .none := by
  cases d <;> simp [isNo]
theorem non_iff {v : V} {d : PyData} (h : Dn K H v d) : decide (v = .non) = isNo d := by
  cases h <;> rfl
def spForw (K : PySem.W.Frag) (C U : Addr) : Sp := fun vs H Q E => ∃ (la : Addr) (ls : List Str) (src : Option Str) (b : Int) (v h : V) (d e : PyData) (ph : Str), vs = [.ref la, optV src, .int b, v, h, .str ph] ∧ H la = some (.lst (ls.map V.str)) ∧ ls.length ≤ 20 ∧
  Dn K H v d ∧ sml d = true ∧ Dn K H h e ∧ sml e = true ∧
  (d = .none → ∀ ys H' L, ys.Perm ls → sortedS ys = true → Same H H' → H L = none → Lp H' L ((gls src ys).map fun g => (g, 0)) → Q (.ref L) H') ∧
  (d ≠ .none → isRel d = false → Ro E C "value" v H) ∧
  ∀ xs c, d = reld xs c → isRel d = true → (posn xs e = none → Ro E U "host" h H) ∧ ∀ j, posn xs e = some j → ∀ ys H' L, ys.Perm ls → sortedS ys = true → Same H H' → H L = none → Lp H' L (sents (fun g => fwd xs c j ph src g b) (gls src ys)) → Q (.ref L) H'
theorem ok_forw {f C U : Addr} {fd : FuncData} (F : Fun K "forwards" "forwards" s_forwards f fd) (Y : Bn mg) (G_position : Fk P w K mg base (L2.CX P w) 6 "position" ["relink", "host"] (spQh K C U fun j _ => .int (j : Int)))
    (G_forward_bit : Fk P w K mg base (L2.CX P w) 7 "forward_bit" ["relink", "host", "phase", "source", "goal", "bit"] (spFwd K C U)) : FnOk P w K mg base (L2.CX P w) 8 f fd ["links", "source", "bit", "relink", "host", "phase"] (spForw K C U) := by
  refine F.okX sc_forwards (fun vs H Q E h => ?_) (fun cdv A outer s H vs Q E hr h => ?_)
  · obtain ⟨la, ls, src, b, v, h, d, e, ph, rfl, _⟩ := h
    rfl
  · obtain ⟨la, ls, src, b, v, h, d, e, ph, rfl, hl, l20, dn, sm, dh, sh, q0, q1, q2⟩ := h
    refine ⟨_, (pss_cons (ps_setLc (i := 6) (own := [("goal", 8)]) (g := gName 8) (tt := tTest (tOp rNe (tVar 8) (tVar 1))) rfl sc_forwards.nd rfl rfl (sw_true rfl rfl rfl (by decide +kernel)) (pi_list (pe_callB cr_sortedS (by rfl) Y.sorted (by decide +kernel) (pa_cons (pv 0) pa_nil))) (blkOk_by (N := ["links", "source", "bit", "relink", "host", "phase", "goals", "bits", "goal", "sent"]) (sc := defScope s_forwards) (by decide +kernel)) (fun _ _ _ _ _ => (pg_name (i := 8) sc_forwards.nd rfl (Or.inl rfl))) (fun _ _ _ _ _ => (pts_one (pt_cmpR op_ne (pv 8) (pv 1) (nomark _)))) (fun _ _ _ _ _ => (pv 8)))
 (pss_cons (ps_if (pt_cmpR op_isN (pv 3) pe_non (nomark _))
 (pss_one (ps_ret (pe_lc (own := [("goal", 8)]) (g := gName 8) (tt := tYes) rfl sc_forwards.nd (pi_list (pv 6)) (blkOk_by (N := ["links", "source", "bit", "relink", "host", "phase", "goals", "bits", "goal", "sent"]) (sc := defScope s_forwards) (by decide +kernel)) (fun _ _ _ _ _ => (pg_name (i := 8) sc_forwards.nd rfl (Or.inl rfl))) (fun _ _ _ _ _ => pts_nil) (fun _ _ _ _ _ => (pe_tupZ (pa_cons (pv 8) (pa_cons pe_int pa_nil)))))))
 pss_nil)
 (pss_cons (ps_expr (pe_callF G_position (hr.mono (by decide)) (by rfl) (passes_call (E := E) (takes_of rfl rfl rfl rfl) (fun _ _ _ _ h => h)) (pa_cons (pv 3) (pa_cons (pv 4) pa_nil))))
 (pss_cons (ps_setLc (i := 7) (own := [("goal", 8)]) (g := gName 8) (tt := tYes) rfl sc_forwards.nd rfl rfl (sw_true rfl rfl rfl (by decide +kernel)) (pi_list (pv 6)) (blkOk_by (N := ["links", "source", "bit", "relink", "host", "phase", "goals", "bits", "goal", "sent"]) (sc := defScope s_forwards) (by decide +kernel)) (fun _ _ _ _ _ => (pg_name (i := 8) sc_forwards.nd rfl (Or.inl rfl))) (fun _ _ _ _ _ => pts_nil) (fun _ _ _ _ _ => (pe_callF G_forward_bit (hr.mono (by decide)) (by rfl) passN (pa_cons (pv 3) (pa_cons (pv 4) (pa_cons (pv 5) (pa_cons (pv 1) (pa_cons (pv 8) (pa_cons (pv 2) pa_nil)))))))))
 (pss_one (ps_ret (pe_lc (own := [("goal", 8), ("sent", 9)]) (g := gTup K 2 (gCons (gName 8) (gCons (gName 9) gNil))) (tt := tTest (tOp rNotN (tVar 9) (tC .non))) rfl sc_forwards.nd (pi_zip (by rfl) Y.zip (pa_cons (pv 6) (pa_cons (pv 7) pa_nil))) (blkOk_by (own := [("goal", 8), ("sent", 9)]) (N := ["links", "source", "bit", "relink", "host", "phase", "goals", "bits", "goal", "sent"]) (sc := defScope s_forwards) (by decide +kernel)) (fun _ _ _ _ _ => pg_tup (by rfl) (pgs_cons (pg_name (i := 8) sc_forwards.nd rfl (Or.inl rfl)) (pgs_cons (pg_name (i := 9) sc_forwards.nd rfl (Or.inl rfl)) pgs_nil))) (fun _ _ _ _ _ => pts_one (pt_cmpR (show OpR _ _ rNotN from op_notN) (pv 9) pe_non (nomark _))) (fun _ _ _ _ _ => pe_tupZ (pa_cons (pv 8) (pa_cons (pv 9) pa_nil)))))))))), ?_⟩
    refine ⟨_, rfl, la, ls, rfl, SqL.of hl, by omega, fun ys p perm srt np => ?_⟩
    have sp := same_upd (o := .lst (ys.map V.str)) np
    have hp : (upd H p (.lst (ys.map V.str))) p = _ := upd_same
    have yl : ys.length ≤ 20 := by rw [perm.length_eq]; exact l20
    generalize upd H p (.lst (ys.map V.str)) = H1 at sp hp ⊢
    refine ⟨p, rfl, ⟨_, SqL.of hp⟩, fun D nD => ?_⟩
    refine lc_it (walk_list (K := K) (a := p) (xs := ys.map V.str)) (fun i H' => Same H1 H' ∧ H' D = some (.lst (((ys.take i).filter (fun y => !decide (V.str y = optV src))).map V.str)))
      ⟨same_upd nD, upd_same⟩ (fun i H' _ h => SqL.of (h.1 _ _ hp)) ?_ ?_
    · rintro k y H8 H9 hk ⟨s8, hZ⟩ ⟨rfl, hy⟩
      rw [List.getElem?_map] at hy
      obtain ⟨z, hz, rfl⟩ := Option.map_eq_some_iff.mp hy
      refine ⟨rfl, ?_⟩
      refine ⟨_, rfl, _, rfl, scal_opt z src, _, rfl, ite2 (fun c8 => ?_) (fun c8 => ?_)⟩
      · refine ⟨_, rfl, _, hZ, ?_, same_upd2 s8 nD, ?_⟩
        · rw [List.length_map]
          have l1 := List.length_filter_le (fun y => !decide (V.str y = optV src)) (ys.take k)
          rw [List.length_take] at l1
          exact small200 (by omega)
        · rw [upd_same, List.take_add_one, hz, List.filter_append, List.map_append]
          show some (HO.lst _) = some (HO.lst (_ ++ (List.filter _ [z]).map V.str))
          rw [List.filter_cons_of_pos (by exact c8)]
          rfl
      · refine ⟨s8, ?_⟩
        rw [hZ, List.take_add_one, hz, List.filter_append]
        show some (HO.lst _) = some (HO.lst ((_ ++ List.filter _ [z]).map V.str))
        rw [List.filter_cons_of_neg (by exact c8), List.filter_nil, List.append_nil]
    rintro H2 ⟨s2, hZ⟩
    rw [List.length_map, List.take_of_length_le (Nat.le_refl _)] at hZ
    have hZ : H2 D = some (.lst ((gls src ys).map V.str)) := hZ
    have gl : (gls src ys).length ≤ 20 := Nat.le_trans (List.length_filter_le _ _) yl
    have s02 := sp.trans s2
    generalize hgs : gls src ys = gs at hZ gl
    refine ⟨_, rfl, rfl, _, rfl, ?_⟩
    rw [non_iff dn]
    refine ite2 (fun c1 => ?_) (fun c1 => ?_)
    · have c1' : d = .none := isNo_eq.mp c1
      refine ⟨_, rfl, D, rfl, ⟨_, SqL.of hZ⟩, fun D2 nD2 => ?_⟩
      refine lc_it (walk_list (K := K) (a := D) (xs := gs.map V.str)) (fun i H' => Same H2 H' ∧ ∃ ts : List Addr, H' D2 = some (.lst (ts.map V.ref)) ∧ ts.length = i ∧ PrI H' ts ((gs.take i).map fun g => (g, 0)))
        ⟨same_upd nD2, [], upd_same, rfl, trivial⟩ (fun i H' _ h => SqL.of (h.1 _ _ hZ)) ?_ ?_
      · rintro k y H3 H4 hk ⟨s3, ts, hD, tl, pr⟩ ⟨rfl, hy⟩
        rw [List.getElem?_map] at hy
        obtain ⟨z, hz, rfl⟩ := Option.map_eq_some_iff.mp hy
        refine ⟨rfl, ?_⟩
        dsimp only [tYes]
        refine iteT ?_
        refine ⟨_, rfl, (by show 2 ≤ sizeLine; decide), fun t o nt st tz => ?_⟩
        refine ⟨_, st _ _ hD, ?_, same_upd2 (s3.trans st) nD2, ts ++ [t], ?_, ?_, ?_⟩
        · rw [List.length_map, tl]
          rw [List.length_map] at hk
          exact small200 (by omega)
        · rw [upd_same, List.map_append]
          rfl
        · rw [List.length_append, tl]
          rfl
        · rw [List.take_add_one, hz, List.map_append]
          exact (pr.same st).snoc_upd (st _ _ hD) tz
      · rintro H3 ⟨s3, ts, hD, tl, pr⟩
        rw [List.length_map, List.take_of_length_le (Nat.le_refl _)] at pr
        exact q0 c1' ys H3 D2 perm srt (s02.trans s3) (by
          cases z : H D2 with
          | none => rfl
          | some o => rw [s02 _ _ z] at nD2; cases nD2) ⟨ts, hD, by rw [hgs]; exact pr⟩
    have c1' : d ≠ .none := fun z => c1 (isNo_eq.mpr z)
    refine ⟨_, rfl, _, rfl, v, h, d, e, rfl, dn.same s02, sm, dh.same s02, sh, fun z => (q1 c1' z).same s02, fun xs c ed ir => ?_⟩
    obtain ⟨q3, q4⟩ := q2 xs c ed ir
    refine ⟨fun j hj H3 s3 => ?_, fun z => (q3 z).same s02⟩
    have q5 := q4 j hj
    have s03 := s02.trans s3
    have dn3 := dn.same s03
    have dh3 := dh.same s03
    have hZ3 := s3 _ _ hZ
    obtain ⟨fw, hfw⟩ : ∃ fw : Str → V, fw = fun g => fwd xs c j ph src g b := ⟨_, rfl⟩
    refine ⟨_, rfl, D, rfl, ⟨_, SqL.of hZ3⟩, fun D2 nD2 => ?_⟩
    refine lc_it (walk_list (K := K) (a := D) (xs := gs.map V.str)) (fun i H' => Same H3 H' ∧ H' D2 = some (.lst ((gs.take i).map fw)))
      ⟨same_upd nD2, upd_same⟩ (fun i H' _ h => SqL.of (h.1 _ _ hZ3)) ?_ ?_
    · rintro k y H4 H5 hk ⟨s4, hB⟩ ⟨rfl, hy⟩
      rw [List.getElem?_map] at hy
      obtain ⟨z, hz, rfl⟩ := Option.map_eq_some_iff.mp hy
      refine ⟨rfl, ?_⟩
      dsimp only [tYes]
      refine iteT ?_
      refine ⟨_, rfl, _, rfl, _, rfl, _, rfl, _, rfl, _, rfl, v, h, d, e, ph, z, src, b, rfl, dn3.same s4, sm, dh3.same s4, sh, fun w => ?_, fun xs' c' ed' _ => ?_⟩
      · rw [ir] at w
        cases w
      · obtain ⟨rfl, rfl⟩ := reld_inj (ed.symm.trans ed')
        refine ⟨fun j' hj' H6 s6 => ?_, fun w => ?_⟩
        · rw [hj] at hj'
          injection hj' with hj'
          subst hj'
          refine ⟨_, s6 _ _ hB, ?_, same_upd2 (s4.trans s6) nD2, ?_⟩
          · rw [List.length_map, List.length_take]
            exact small200 (by omega)
          · rw [upd_same, List.take_add_one, hz, List.map_append, hfw]
            rfl
        · rw [hj] at w
          cases w
    rintro H4 ⟨s4, hB⟩
    rw [List.length_map, List.take_of_length_le (Nat.le_refl _)] at hB
    have s04 := s03.trans s4
    have hZ4 := s4 _ _ hZ3
    refine ⟨_, rfl, _, rfl, D, D2, _, _, rfl, SqL.of hZ4, SqL.of hB, fun D3 nD3 => ?_⟩
    refine lc_it (walk_zip (K := K) (a := D) (b := D2) (xs := gs.map V.str) (ys := gs.map fw) (n := gs.length) (by rw [List.length_map, List.length_map, Nat.min_self])) (fun i H' => Same H4 H' ∧ ∃ ts : List Addr, H' D3 = some (.lst (ts.map V.ref)) ∧ ts.length ≤ i ∧ PrI H' ts (sents fw (gs.take i)))
      ⟨same_upd nD3, [], upd_same, Nat.le_refl _, trivial⟩ (fun i H' _ h => ⟨SqL.of (h.1 _ _ hZ4), SqL.of (h.1 _ _ hB)⟩) ?_ ?_
    · rintro k y H5 H6 hk ⟨s5, ts, hD, tl, pr⟩ ⟨T, x, z, rfl, nT, rfl, e1, e2⟩
      have gk := List.getElem?_eq_getElem hk
      have e1 : (gs.map V.str)[k]? = some x := e1
      have e2 : (gs.map fw)[k]? = some z := e2
      rw [List.getElem?_map, gk] at e1 e2
      injection e1 with e1
      injection e2 with e2
      subst e1 e2
      refine ⟨T, _, rfl, SqT.of upd_same, rfl, _, _, rfl, _, _, rfl, rfl, rfl, ?_⟩
      have sT := same_upd (o := .tup [.str gs[k], fw gs[k]]) nT
      have hD6 := sT _ _ hD
      have pr6 := pr.same sT
      have s6 := s5.trans sT
      have tk : sents fw (gs.take (k + 1)) = sents fw (gs.take k) ++ (sentTo fw gs[k]).toList := by
        unfold sents
        rw [List.take_add_one, gk, List.filterMap_append]
        congr 1
      refine ⟨_, rfl, rfl, _, rfl, ?_⟩
      have fo : fw gs[k] = .non ∨ ∃ n, fw gs[k] = .int n := by rw [hfw]; exact fwd_opt ..
      rcases fo with fo | ⟨n, fo⟩
      · have w : sentTo fw gs[k] = none := by
          unfold sentTo
          rw [fo]
        refine ite2 (fun c => ?_) (fun c => ?_)
        · have c' : (!decide (fw gs[k] = .non)) = true := c
          rw [decide_eq_true fo] at c'
          cases c'
        · refine ⟨s6, ts, hD6, by omega, ?_⟩
          rw [tk, w]
          show PrI _ ts (_ ++ [])
          rw [List.append_nil]
          exact pr6
      · have w : sentTo fw gs[k] = some (gs[k], n) := by
          unfold sentTo
          rw [fo]
        refine ite2 (fun c => ?_) (fun c => ?_)
        · refine ⟨_, rfl, _, rfl, (by show 2 ≤ sizeLine; decide), fun t o nt st tz => ?_⟩
          have tz : Tz (upd (upd H5 T (.tup [.str gs[k], fw gs[k]])) t o) t [.str gs[k], .int n] := by
            rw [← fo]
            exact tz
          refine ⟨_, st _ _ hD6, ?_, same_upd2 (s6.trans st) nD3, ts ++ [t], ?_, ?_, ?_⟩
          · rw [List.length_map]
            exact small200 (by omega)
          · rw [upd_same, List.map_append]
            rfl
          · rw [List.length_append]
            exact Nat.succ_le_succ tl
          · rw [tk, w]
            exact (pr6.same st).snoc_upd (st _ _ hD6) tz
        · have c' : ¬ (!decide (fw gs[k] = .non)) = true := c
          rw [fo] at c'
          exact absurd (by simp) c'
    · rintro H5 ⟨s5, ts, hD, tl, pr⟩
      rw [List.take_of_length_le (Nat.le_refl _)] at pr
      refine q5 ys H5 D3 perm srt (s04.trans s5) (by
          cases z : H D3 with
          | none => rfl
          | some o => rw [s04 _ _ z] at nD3; cases nD3) ⟨ts, hD, ?_⟩
      rw [hgs, ← hfw]
      exact pr
end
end My

namespace My
open PySem PySem.Spec PyProof.Rows L2 Gy Xl Xs Xt
/-! ### control items: their kinds, which of them a host receives, the step -/
def KINDS : List Str := ["ask", "no", "yes", "go", "back"]
def isKind : PyData → Bool
  | .str x => decide (x ∈ KINDS)
  | _ => false
/-- the written tuple of the kinds -/
def KindsAt (o : Obj) : Prop := ∃ (its : Array Value) (n : Nat), o.cls = .type "tuple" ∧ o.data = .seq its n ∧ its.size ≤ sizeLine ∧ Vals (KINDS.map V.str) its.toList
structure TxtK (K : PySem.W.Frag) (mg : Str → Option Value) : Prop where
  ex : ∃ (a : Addr) (o : Obj), mg "CONTROL_KINDS" = some (.ref a) ∧ K.lookup a = some o ∧ KindsAt o
/-- whether a value is a text -/
theorem str_or {K : PySem.W.Frag} {H : Hp} {v : V} {d : PyData} (h : Dn K H v d) : (∃ x, v = .str x ∧ d = .str x) ∨ ((∀ x, d ≠ .str x) ∧ ∃ t, TyX K H v (.type t) ∧ kitB t "str" = some false) := by
  cases h with
  | non => exact .inr ⟨(fun _ z => nomatch z), _, .base .non, by decide +kernel⟩
  | bl b => exact .inr ⟨(fun _ z => nomatch z), _, .base (.bl b), by decide +kernel⟩
  | int i => exact .inr ⟨(fun _ z => nomatch z), _, .base (.int i), by decide +kernel⟩
  | str x => exact .inl ⟨x, rfl, rfl⟩
  | lst e _ => exact .inr ⟨(fun _ z => nomatch z), _, .base (.lst e), by decide +kernel⟩
  | tup e t => exact .inr ⟨(fun _ z => nomatch z), _, e.ty, by decide +kernel⟩
  | dic e => exact .inr ⟨(fun _ z => nomatch z), _, .base (.dK e), by decide +kernel⟩
  | dic1 e => exact .inr ⟨(fun _ z => nomatch z), _, .base (.dK e), by decide +kernel⟩
section
variable {P : Program} {w : World} {K : PySem.W.Frag} {mg : Str → Option Value} {base : Heap} {H : Hp}
def spKind (K : PySem.W.Frag) : Sp := fun vs H Q _ => ∃ (v : V) (d : PyData), vs = [v] ∧ Dn K H v d ∧ Q (.bl (isKind d)) H
theorem ok_kind {f : Addr} {fd : FuncData} (F : Fun K "is_control_kind" "is_control_kind" s_is_control_kind f fd) (Y : Bn mg) (T : TxtK K mg) : FnOk P w K mg base CX0 1 f fd ["value"] (spKind K) := by
  obtain ⟨ck, o, gm, lk, its, n, o1, o2, o3, o4⟩ := T.ex
  refine F.ok sc_is_control_kind (fun vs H Q E h => ?_) (fun cdv A outer s H vs Q E hr h => ?_)
  · obtain ⟨v, d, rfl, _⟩ := h
    rfl
  · obtain ⟨v, d, rfl, dn, q⟩ := h
    refine ⟨_, (pss_one (ps_ret (pe_and (pe_callB call_isi (by rfl) Y.isinstance (by decide +kernel) (pa_cons (pv 0) (pa_cons (pe_bltn (v := .ty "str") (by rfl) Y.str (by decide +kernel) rfl) pa_nil))) (pe_one (pe_cmpR op_in_seq (pv 0) (pe_glob (v := .ref ck) (by rfl) gm rfl) rfl))))), ?_⟩
    rcases str_or dn with ⟨x, rfl, rfl⟩ | ⟨no, t, ty, kt⟩
    · refine ⟨_, rfl, _, _, _, _, true, rfl, .ty "str", .base (.str x), kit_ty (by decide +kernel), _, rfl, iteT ?_⟩
      refine ⟨_, rfl, ck, _, rfl, .inr (.inr ⟨o, its, n, lk, o1, o2, o3, o4⟩), rfl, flat_strs _, ?_⟩
      show Q (.bl (inV (.str x) (KINDS.map V.str))) H
      rw [inV_strs]
      exact q
    · refine ⟨v, rfl, v, _, _, _, false, rfl, .ty "str", ty, kit_ty kt, _, rfl, iteF ?_⟩
      have z : isKind d = false := by
        cases d with
        | str x => exact absurd rfl (no x)
        | _ => rfl
      rw [z] at q
      exact q
end
end My

namespace My
open PySem PySem.Spec PyProof.Rows L2 Gy Xl Xs Xt
/-! ### items, over data -/
def isWord : PyData → Bool
  | .str x => decide ((1 : Int) ≤ (x.length : Int)) && decide ((x.length : Int) ≤ 12) && allIn WSG x
  | _ => false
def isMsg : List PyData → Bool
  | [w, x, b] => isHost w && (isWord x && isIdx 2 b)
  | _ => false
def isItem : PyData → Bool
  | .tuple (.str k :: ds) => if k = "message" then isMsg ds else if k = "bye" then ds.isEmpty else decide (k ∈ KINDS) && isRel (.tuple ds)
  | _ => false
theorem word_dn {K : PySem.W.Frag} {H : Hp} {v : V} {d : PyData} (h : Dn K H v d) : textOf v WSG 12 = isWord d := by
  cases h <;> rfl
theorem isMsg_n {ds : List PyData} (h : ds.length ≠ 3) : isMsg ds = false := by
  match ds, h with
  | [], _ => rfl
  | [a], _ => rfl
  | [a, b], _ => rfl
  | [a, b, c], h => exact absurd rfl h
  | a :: b :: c :: d :: ds, _ => rfl
theorem cut1 (x : V) (xs : List V) : cutV (x :: xs) (some 1) none = xs := by
  unfold cutV
  rw [show (some 1 : Option Int) = some ((1 : Nat) : Int) from rfl, HT.sIx_nat, HT.sIx_none, List.length_cons, show min 1 (xs.length + 1) = 1 by omega]
  show (List.drop 0 xs).take _ = _
  rw [List.drop_zero, List.take_of_length_le (by omega)]
structure TxtI (mg : Str → Option Value) : Prop where
  ms : ∃ t, mg "MESSAGE" = some (.str "message" t)
  by_ : ∃ t, mg "BYE" = some (.str "bye" t)
  bt : ∃ t, mg "BITS" = some (.int 2 t)
section
variable {P : Program} {w : World} {K : PySem.W.Frag} {mg : Str → Option Value} {base : Heap} {H : Hp}
def spMsg (K : PySem.W.Frag) : Sp := fun vs H Q _ => ∃ (a : Addr) (xs : List V) (ds : List PyData), vs = [.ref a] ∧ Tz H a xs ∧ Dns K H xs ds ∧ smls ds = true ∧ ∀ H', Same H H' → Q (.bl (isMsg ds)) H'
theorem ok_msg {f : Addr} {fd : FuncData} (F : Fun K "are_message_parts" "are_message_parts" s_are_message_parts f fd) (Y : Bn mg) (T : TxtI mg) (G_is_host_name : Fk P w K mg base CX0 2 "is_host_name" ["value"] (spHost K)) (G_is_word : Fk P w K mg base CX0 2 "is_word" ["value"] (spWord K))
    (G_is_index : Fk P w K mg base CX0 2 "is_index" ["value", "size"] (spIdx K)) : FnOk P w K mg base CX0 3 f fd ["parts"] (spMsg K) := by
  obtain ⟨t1, e1⟩ := T.bt
  refine F.ok sc_are_message_parts (fun vs H Q E h => ?_) (fun cdv A outer s H vs Q E hr h => ?_)
  · obtain ⟨a, xs, ds, rfl, _⟩ := h
    rfl
  · obtain ⟨a, xs, ds, rfl, ha, hd, sm, q⟩ := h
    have el := Dns.len hd
    refine ⟨_, (pss_cons (ps_if (pt_cmpR op_ne (pe_callB call_len_seq (by rfl) Y.len PySem.boot_len (pa_cons (pv 0) pa_nil)) pe_int (nomark _))
 (pss_one (ps_ret pe_bl))
 pss_nil)
 (pss_cons (ps_asg (pv 0) (pg_tup (by rfl) (pgs_cons (pg_name (i := 1) sc_are_message_parts.nd rfl (Or.inl rfl)) (pgs_cons (pg_name (i := 2) sc_are_message_parts.nd rfl (Or.inl rfl)) (pgs_cons (pg_name (i := 3) sc_are_message_parts.nd rfl (Or.inl rfl)) pgs_nil)))))
 (pss_one (ps_ret (pe_and (pe_callF G_is_host_name (hr.mono (by decide)) (by rfl) pass0 (pa_cons (pv 1) pa_nil)) (pe_and (pe_callF G_is_word (hr.mono (by decide)) (by rfl) pass0 (pa_cons (pv 2) pa_nil)) (pe_one (pe_callF G_is_index (hr.mono (by decide)) (by rfl) pass0 (pa_cons (pv 3) (pa_cons (pe_glob (v := .int 2) (by rfl) e1 ⟨_, rfl⟩) pa_nil)))))))))), ?_⟩
    refine ⟨_, rfl, a, _, rfl, .inr ha.sq, rfl, _, rfl, ite2 (fun c => ?_) (fun c => ?_)⟩
    · have c' : ds.length ≠ 3 := fun z => by
        rw [decide_eq_true (show V.int (xs.length : Int) = V.int 3 by rw [el, z]; rfl)] at c
        cases c
      rw [isMsg_n c'] at q
      exact q _ (Same.refl _)
    · have c' : xs.length = 3 := by
        have z : V.int (xs.length : Int) = V.int 3 := Decidable.of_not_not fun z => c (by rw [decide_eq_false z]; rfl)
        injection z with z
        omega
      obtain ⟨x, y, z, rfl⟩ : ∃ x y z, xs = [x, y, z] := by
        match xs, c' with
        | [x, y, z], _ => exact ⟨x, y, z, rfl⟩
      cases hd with
      | @cons _ _ dx _ h1 hd =>
      cases hd with
      | @cons _ _ dy _ h2 hd =>
      cases hd with
      | @cons _ _ dz _ h3 hd =>
        cases hd
        have m1 : sml dx = true := smls_mem sm List.mem_cons_self
        have m2 : sml dy = true := smls_mem sm (List.mem_cons_of_mem _ List.mem_cons_self)
        refine ⟨_, rfl, a, _, rfl, ha.sq, rfl, _, _, rfl, _, _, rfl, _, _, rfl, rfl, ?_⟩
        have e : isMsg [dx, dy, dz] = (isHost dx && (isWord dy && isIdx 2 dz)) := rfl
        rw [e] at q
        refine ⟨_, rfl, x, rfl, kd_dn h1 m1, fun H1 s1 => ?_⟩
        rw [host_dn h1]
        refine ⟨_, rfl, ite2 (fun c1 => ?_) (fun c1 => ?_)⟩
        · rw [c1, Bool.true_and] at q
          refine ⟨_, rfl, y, rfl, kd_dn (h2.same s1) m2, fun H2 s2 => ?_⟩
          rw [word_dn h2]
          refine ⟨_, rfl, ite2 (fun c2 => ?_) (fun c2 => ?_)⟩
          · rw [c2, Bool.true_and] at q
            exact ⟨_, rfl, z, 2, dz, rfl, (h3.same s1).same s2, q _ (s1.trans s2)⟩
          · rw [Bool.eq_false_iff.mpr c2, Bool.false_and] at q
            exact q _ (s1.trans s2)
        · rw [Bool.eq_false_iff.mpr c1, Bool.false_and] at q
          exact q _ s1
def spItem (K : PySem.W.Frag) : Sp := fun vs H Q _ => ∃ (v : V) (d : PyData), vs = [v] ∧ Dn K H v d ∧ sml d = true ∧ ∀ H', Same H H' → Q (.bl (isItem d)) H'
theorem smls_tail {d : PyData} {ds : List PyData} (h : smls (d :: ds) = true) : smls ds = true := by
  have h2 : sml d = true ∧ smls ds = true := by simpa only [smls, Bool.and_eq_true] using h
  exact h2.2
theorem ok_item {f : Addr} {fd : FuncData} (F : Fun K "is_item" "is_item" s_is_item f fd) (Y : Bn mg) (T : TxtI mg) (G_are_message_parts : Fk P w K mg base CX0 3 "are_message_parts" ["parts"] (spMsg K)) (G_is_control_kind : Fk P w K mg base CX0 1 "is_control_kind" ["value"] (spKind K))
    (G_is_relink : Fk P w K mg base CX0 4 "is_relink" ["value"] (spRel K)) : FnOk P w K mg base CX0 5 f fd ["value"] (spItem K) := by
  obtain ⟨t1, e1⟩ := T.ms
  obtain ⟨t2, e2⟩ := T.by_
  refine F.ok sc_is_item (fun vs H Q E h => ?_) (fun cdv A outer s H vs Q E hr h => ?_)
  · obtain ⟨v, d, rfl, _⟩ := h
    rfl
  · obtain ⟨v, d, rfl, dn, sm, q⟩ := h
    refine ⟨_, (pss_cons (ps_if (PW.pt (pw_or (pt_not (pt_val (pe_callB call_isi (by rfl) Y.isinstance (by decide +kernel) (pa_cons (pv 0) (pa_cons (pe_bltn (v := .ty "tuple") (by rfl) Y.tuple (by decide +kernel) rfl) pa_nil))))) (pw_or (pt_cmpR op_eq (pe_callB call_len_seq (by rfl) Y.len PySem.boot_len (pa_cons (pv 0) pa_nil)) pe_int (nomark _)) (pw_or1 (pt_not (pt_val (pe_callB call_isi (by rfl) Y.isinstance (by decide +kernel) (pa_cons (pe_ix ix_tup (pv 0) pe_int (fun _ _ => rfl)) (pa_cons (pe_bltn (v := .ty "str") (by rfl) Y.str (by decide +kernel) rfl) pa_nil)))))))))
 (pss_one (ps_ret pe_bl))
 pss_nil)
 (pss_cons (ps_set (i := 1) sc_is_item.nd rfl (.inl rfl) (pe_slice sl_cutA (pv 0) (po_some pe_int) po_none))
 (pss_cons (ps_if (pt_cmpR op_eq (pe_ix ix_tup (pv 0) pe_int (fun _ _ => rfl)) (pe_glob (v := .str "message") (by rfl) e1 ⟨_, rfl⟩) (nomark _))
 (pss_one (ps_ret (pe_callF G_are_message_parts (hr.mono (by decide)) (by rfl) pass0 (pa_cons (pv 1) pa_nil))))
 pss_nil)
 (pss_cons (ps_if (pt_cmpR op_eq (pe_ix ix_tup (pv 0) pe_int (fun _ _ => rfl)) (pe_glob (v := .str "bye") (by rfl) e2 ⟨_, rfl⟩) (nomark _))
 (pss_one (ps_ret (pe_cmpR op_eq (pe_callB call_len_seq (by rfl) Y.len PySem.boot_len (pa_cons (pv 1) pa_nil)) pe_int (nomark _))))
 pss_nil)
 (pss_one (ps_ret (pe_and (pe_callF G_is_control_kind (hr.mono (by decide)) (by rfl) pass0 (pa_cons (pe_ix ix_tup (pv 0) pe_int (fun _ _ => rfl)) pa_nil)) (pe_one (pe_callF G_is_relink (hr.mono (by decide)) (by rfl) pass0 (pa_cons (pv 1) pa_nil)))))))))), ?_⟩
    rcases tup_or dn with ⟨a, xs, ds, rfl, rfl, ha, hd⟩ | ⟨no, t, ty, kt⟩
    · have sm2 : ds.length ≤ 14 ∧ smls ds = true := by simpa only [sml, Bool.and_eq_true, decide_eq_true_eq] using sm
      refine ⟨_, rfl, _, _, _, _, true, rfl, .ty "tuple", ha.ty, kit_ty (by decide +kernel), _, rfl, iteF ?_⟩
      refine ⟨_, rfl, a, _, rfl, .inr ha.sq, rfl, _, rfl, ?_⟩
      cases hd with
      | nil =>
        refine iteT (iteT ?_)
        exact q _ (Same.refl _)
      | @cons x xs d0 ds h0 hd =>
        refine iteF ?_
        refine ⟨_, rfl, a, _, 0, x, rfl, rfl, ha.sq, atI_nat (j := 0) rfl, ?_⟩
        rcases str_or h0 with ⟨k, rfl, rfl⟩ | ⟨no, t, ty, kt⟩
        · refine ⟨_, _, _, _, true, rfl, .ty "str", .base (.str k), kit_ty (by decide +kernel), _, rfl, iteF ?_⟩
          have e : isItem (.tuple (.str k :: ds)) = (if k = "message" then isMsg ds else if k = "bye" then ds.isEmpty else decide (k ∈ KINDS) && isRel (.tuple ds)) := rfl
          rw [e] at q
          refine ⟨_, rfl, 1, rfl, a, _, rfl, ha, ?_⟩
          rw [cut1]
          have el := Dns.len hd
          refine ⟨fun z => ?_, fun p o np st tp => ?_⟩
          · have z := congrArg List.length z
            rw [List.length_cons] at z
            omega
          generalize upd _ p o = H1 at st tp ⊢
          have ha1 := ha.same st
          have hd1 := hd.same st
          have sp : smls ds = true := smls_tail sm2.2
          have lp : ds.length ≤ 14 := by have := sm2.1; rw [List.length_cons] at this; omega
          refine ⟨_, rfl, a, _, 0, _, rfl, rfl, ha1.sq, atI_nat (j := 0) rfl, rfl, _, rfl, ite2 (fun c1 => ?_) (fun c1 => ?_)⟩
          · have c1' : k = "message" := by
              have z := of_decide_eq_true c1
              injection z
            rw [if_pos c1'] at q
            exact ⟨_, rfl, p, _, ds, rfl, tp, hd1, sp, fun H2 s2 => q _ (st.trans s2)⟩
          have c1' : ¬ k = "message" := fun z => c1 (decide_eq_true (by rw [z]))
          rw [if_neg c1'] at q
          refine ⟨_, rfl, a, _, 0, _, rfl, rfl, ha1.sq, atI_nat (j := 0) rfl, rfl, _, rfl, ite2 (fun c2 => ?_) (fun c2 => ?_)⟩
          · have c2' : k = "bye" := by
              have z := of_decide_eq_true c2
              injection z
            rw [if_pos c2'] at q
            refine ⟨_, rfl, p, _, rfl, .inr tp.sq, rfl, ?_⟩
            have z : decide (V.int (xs.length : Int) = V.int 0) = ds.isEmpty := by
              rw [el]
              cases ds with
              | nil => rfl
              | cons y ys =>
                refine decide_eq_false fun w => ?_
                injection w with w
                rw [List.length_cons] at w
                omega
            rw [z]
            exact q _ st
          have c2' : ¬ k = "bye" := fun z => c2 (decide_eq_true (by rw [z]))
          rw [if_neg c2'] at q
          refine ⟨_, rfl, a, _, 0, _, rfl, rfl, ha1.sq, atI_nat (j := 0) rfl, _, .str k, rfl, .str k, _, rfl, ?_⟩
          have ek : isKind (.str k) = decide (k ∈ KINDS) := rfl
          rw [ek]
          refine ite2 (fun c3 => ?_) (fun c3 => ?_)
          · rw [c3, Bool.true_and] at q
            refine ⟨_, rfl, _, .tuple ds, rfl, .tup tp hd1, ?_, fun H2 s2 => q _ (st.trans s2)⟩
            show (decide (ds.length ≤ 14) && smls ds) = true
            rw [decide_eq_true lp, sp]
            rfl
          · rw [Bool.eq_false_iff.mpr c3, Bool.false_and] at q
            exact q _ st
        · refine ⟨_, _, _, _, false, rfl, .ty "str", ty, kit_ty kt, _, rfl, iteT ?_⟩
          have z : isItem (.tuple (d0 :: ds)) = false := by
            cases d0 with
            | str x => exact absurd rfl (no x)
            | _ => rfl
          rw [z] at q
          exact q _ (Same.refl _)
    · refine ⟨v, rfl, v, _, _, _, false, rfl, .ty "tuple", ty, kit_ty kt, _, rfl, ?_⟩
      refine iteT (iteT ?_)
      have z : isItem d = false := by
        cases d with
        | tuple ds => exact absurd rfl (no ds)
        | _ => rfl
      rw [z] at q
      exact q _ (Same.refl _)
end
end My

namespace My
open PySem PySem.Spec PyProof.Rows L2 Gy Xl Xs Xt
theorem le400 {n : Nat} (h : n ≤ 10000) : n ≤ sizeLine := Nat.le_trans h (by decide)
section
variable {P : Program} {w : World} {K : PySem.W.Frag} {mg : Str → Option Value} {base : Heap} {H : Hp}
def spChkI (K : PySem.W.Frag) (C : Addr) : Sp := fun vs H Q E => ∃ (v : V) (d : PyData), vs = [v] ∧ Dn K H v d ∧ sml d = true ∧ (isItem d = true → ∀ H', Same H H' → Q .non H') ∧ (isItem d = false → Ro E C "value" v H)
theorem ok_chkI {f C : Addr} {fd : FuncData} (F : Fun K "check_item" "check_item" s_check_item f fd) (R : Rz P w K mg base "InvalidItem" "value" C)
    (G_is_item : Fk P w K mg base CX0 5 "is_item" ["value"] (spItem K)) : FnOk P w K mg base (L2.CX P w) 6 f fd ["value"] (spChkI K C) := by
  obtain ⟨fI, fdI, XI, GI, bI⟩ := R.ex
  refine F.okX sc_check_item (fun vs H Q E h => ?_) (fun cdv A outer s H vs Q E hr h => ?_)
  · obtain ⟨v, d, rfl, _⟩ := h
    rfl
  · obtain ⟨v, d, rfl, dn, sm, q1, q2⟩ := h
    refine ⟨_, (pss_one (ps_if (pt_not (pt_val (pe_callF G_is_item (hr.mono (by decide)) (by rfl) pass0 (pa_cons (pv 0) pa_nil))))
 (pss_one (ps_raise1 rfl (takes_of rfl rfl rfl rfl) XI R.ty GI (hr.mono (by decide)) bI (by rfl) R.gm (pa_cons (pv 0) pa_nil)))
 pss_nil)), ?_⟩
    refine ⟨_, rfl, v, d, rfl, dn, sm, fun H1 s1 => ⟨_, rfl, ?_⟩⟩
    cases c : isItem d with
    | true => exact iteF (q1 c _ s1)
    | false =>
      refine iteT ⟨_, rfl, v, rfl, fun dx nd => ?_⟩
      exact q2 c _ dx (s1.trans (same_upd nd)) upd_same
end
end My

namespace My
open PySem PySem.Spec PyProof.Rows L2 Gy Xl Xs Xt
/-! ### data without lists stands while lists change -/
/-- what was frozen -/
def fz (H : Hp) : Hp := fun a => match H a with
  | some (.frz o u) => some (.frz o u)
  | _ => none
theorem fz_of {H : Hp} {a : Addr} {o : Obj} {u : HO} (h : H a = some (.frz o u)) : fz H a = some (.frz o u) := by
  unfold fz
  rw [h]
theorem of_fz {H : Hp} {a : Addr} {x : HO} (h : fz H a = some x) : H a = some x ∧ ∃ o u, x = .frz o u := by
  unfold fz at h
  split at h
  · next o u e =>
    injection h with h
    subst h
    exact ⟨e, _, _, rfl⟩
  · cases h
theorem fz_same (H : Hp) : Same (fz H) H := fun b o e => (of_fz e).1
/-- frozen objects stand -/
def FzK (H H' : Hp) : Prop := ∀ b o u, H b = some (.frz o u) → H' b = some (.frz o u)
theorem FzK.refl (H : Hp) : FzK H H := fun _ _ _ e => e
theorem FzK.trans {H H1 H2 : Hp} (a : FzK H H1) (b : FzK H1 H2) : FzK H H2 := fun c o u e => b c o u (a c o u e)
theorem FzK.of {H H' : Hp} (s : Same H H') : FzK H H' := fun b o u e => s b _ e
theorem FzK.upd {H H' : Hp} {a : Addr} {v w : HO} (k : FzK H H') (h : H a = some v) (n : ∀ o u, v ≠ .frz o u) : FzK H (L2.upd H' a w) := fun b o u e => by
  rw [upd_ne fun z => ?_]
  · exact k b o u e
  · rw [z, h] at e
    injection e with e
    exact n o u e
theorem FzK.updN {H H' : Hp} {a : Addr} {w : HO} (k : FzK H H') (n : H a = none) : FzK H (L2.upd H' a w) := fun b o u e => by
  rw [upd_ne (ne_of_none e n)]
  exact k b o u e
theorem fz_keep {H H' : Hp} (h : FzK H H') : Same (fz H) (fz H') := fun b x e => by
  obtain ⟨e1, o, u, rfl⟩ := of_fz e
  exact fz_of (h b o u e1)
mutual
def noL : PyData → Bool
  | .list _ => false
  | .dict _ => false
  | .tuple ds => noLs ds
  | _ => true
def noLs : List PyData → Bool
  | [] => true
  | d :: ds => noL d && noLs ds
end
theorem Tz.fz {H : Hp} {a : Addr} {xs : List V} (h : Tz H a xs) : Tz (My.fz H) a xs := by
  obtain ⟨o, e, c⟩ := h
  exact ⟨o, fz_of e, c⟩
mutual
theorem dn_fz {K : PySem.W.Frag} {H : Hp} : ∀ {v : V} {d : PyData}, Dn K H v d → noL d = true → Dn K (fz H) v d
  | _, _, .non, _ => .non
  | _, _, .bl b, _ => .bl b
  | _, _, .int i, _ => .int i
  | _, _, .str x, _ => .str x
  | _, _, .lst h a, n => nomatch n
  | _, _, .tup h a, n => .tup (Tz.fz h) (dns_fz a n)
  | _, _, .dic h, n => nomatch n
  | _, _, .dic1 h, n => nomatch n
theorem dns_fz {K : PySem.W.Frag} {H : Hp} : ∀ {vs : List V} {ds : List PyData}, Dns K H vs ds → noLs ds = true → Dns K (fz H) vs ds
  | _, _, .nil, _ => .nil
  | _, _, .cons (d := d) (ds := ds) h t, n => by
    have n2 : noL d = true ∧ noLs ds = true := by simpa only [noLs, Bool.and_eq_true] using n
    exact .cons (dn_fz h n2.1) (dns_fz t n2.2)
end
theorem host_str {d : PyData} (h : isHost d = true) : noL d = true := by
  cases d with
  | str x => rfl
  | _ => exact absurd (show false = true from h) (by decide)
theorem word_str {d : PyData} (h : isWord d = true) : noL d = true := by
  cases d with
  | str x => rfl
  | _ => exact absurd (show false = true from h) (by decide)
theorem idx_noL {n : Int} {d : PyData} (h : isIdx n d = true) : noL d = true := by
  cases d with
  | int i => rfl
  | _ => exact absurd (show false = true from h) (by decide)
theorem hosts_noL : ∀ {ds : List PyData}, ds.all isHost = true → noLs ds = true
  | [], _ => rfl
  | d :: ds, h => by
    have h2 : isHost d = true ∧ ds.all isHost = true := by simpa only [List.all_cons, Bool.and_eq_true] using h
    show (noL d && noLs ds) = true
    rw [host_str h2.1, hosts_noL h2.2]
    rfl
theorem item_noL {d : PyData} (h : isItem d = true) : noL d = true := by
  match d, h with
  | .tuple (.str k :: ds), h =>
    show (true && noLs ds) = true
    rw [Bool.true_and]
    have h1 : (if k = "message" then isMsg ds else if k = "bye" then ds.isEmpty else decide (k ∈ KINDS) && isRel (.tuple ds)) = true := h
    split at h1
    · match ds, h1 with
      | [w, x, b], h1 =>
        have h2 : isHost w = true ∧ isWord x = true ∧ isIdx 2 b = true := by simpa only [isMsg, Bool.and_eq_true] using h1
        show (noL w && (noL x && (noL b && true))) = true
        rw [host_str h2.1, word_str h2.2.1, idx_noL h2.2.2]
        rfl
    · split at h1
      · match ds, h1 with
        | [], _ => rfl
      · have h2 : isRel (.tuple ds) = true := by
          simp only [Bool.and_eq_true] at h1
          exact h1.2
        match ds, h2 with
        | [.tuple es, c], h2 =>
          have h3 : isPath (.tuple es) = true ∧ isIdx ((es.length : Int) - 1) c = true := by simpa only [isRel, Bool.and_eq_true] using h2
          have h4 : decide (3 ≤ es.length) = true ∧ es.all isHost = true ∧ decide ((txts es).Nodup) = true := by simpa only [isPath, Bool.and_eq_true] using h3.1
          show (noLs es && (noL c && true)) = true
          rw [hosts_noL h4.2.1, idx_noL h3.2]
          rfl
end My

namespace My
open PySem PySem.Spec PyProof.Rows L2 Gy Xl Xs Xt
/-! ### data that stand while the pot changes -/
def wo (r : Addr) (H : Hp) : Hp := fun a => if a = r then none else H a
theorem wo_at {r a : Addr} {H : Hp} (n : a ≠ r) : wo r H a = H a := if_neg n
theorem wo_same (r : Addr) (H : Hp) : Same (wo r H) H := fun b o e => by
  by_cases h : b = r
  · rw [wo, if_pos h] at e
    cases e
  · rw [wo_at h] at e
    exact e
theorem wo_but {r : Addr} {H H' : Hp} (h : But r H H') : Same (wo r H) (wo r H') := fun b o e => by
  by_cases n : b = r
  · rw [wo, if_pos n] at e
    cases e
  · rw [wo_at n] at e
    rw [wo_at n]
    exact h b o n e
section
variable {K : PySem.W.Frag} {H H' : Hp} {r : Addr}
/-- data none of which is the pot -/
def Db (K : PySem.W.Frag) (r : Addr) (H : Hp) (v : V) (d : PyData) : Prop := Dn K (wo r H) v d
def Dbs (K : PySem.W.Frag) (r : Addr) (H : Hp) (vs : List V) (ds : List PyData) : Prop := Dns K (wo r H) vs ds
theorem Db.dn {v : V} {d : PyData} (h : Db K r H v d) : Dn K H v d := Dn.same (wo_same r H) h
theorem Db.but {v : V} {d : PyData} (h : Db K r H v d) (b : But r H H') : Db K r H' v d := Dn.same (wo_but b) h
theorem Db.same {v : V} {d : PyData} (h : Db K r H v d) (s : Same H H') : Db K r H' v d := h.but (But.of s)
theorem Dbs.dns {vs : List V} {ds : List PyData} (h : Dbs K r H vs ds) : Dns K H vs ds := Dns.same (wo_same r H) h
theorem Dbs.but {vs : List V} {ds : List PyData} (h : Dbs K r H vs ds) (b : But r H H') : Dbs K r H' vs ds := Dns.same (wo_but b) h
theorem Dbs.same {vs : List V} {ds : List PyData} (h : Dbs K r H vs ds) (s : Same H H') : Dbs K r H' vs ds := h.but (But.of s)
theorem tz_wo {t : Addr} {xs : List V} (R : Rng H r) (z : Tz H t xs) : Tz (wo r H) t xs := by
  obtain ⟨o, e, c⟩ := z
  refine ⟨o, ?_, c⟩
  rw [wo_at (fun n => ?_)]
  · exact e
  · obtain ⟨x, y, e2, _⟩ := R
    rw [n, e2] at e
    cases e
theorem Db.tup {t : Addr} {xs : List V} {ds : List PyData} (R : Rng H r) (z : Tz H t xs) (h : Dbs K r H xs ds) : Db K r H (.ref t) (.tuple ds) := Dn.tup (tz_wo R z) h
theorem Db.lst {l : Addr} {xs : List V} {ds : List PyData} (n : l ≠ r) (e : H l = some (.lst xs)) (h : Dbs K r H xs ds) : Db K r H (.ref l) (.list ds) := Dn.lst (by rw [wo_at n]; exact e) h
theorem Db.dic {l : Addr} (n : l ≠ r) (e : H l = some (.dK [])) : Db K r H (.ref l) (.dict []) := Dn.dic (by rw [wo_at n]; exact e)
theorem Db.dic1 {l : Addr} (n : l ≠ r) (e : H l = some (.dK [(Sum.inr "a", .int 1)])) : Db K r H (.ref l) (.dict [(.str "a", .int 1)]) := Dn.dic1 (by rw [wo_at n]; exact e)
theorem Db.str (x : Str) : Db K r H (.str x) (.str x) := Dn.str x
theorem Db.int (i : Int) : Db K r H (.int i) (.int i) := Dn.int i
theorem Db.bl (b : Bool) : Db K r H (.bl b) (.bool b) := Dn.bl b
theorem Db.non : Db K r H .non .none := Dn.non
theorem Dbs.nil : Dbs K r H [] [] := Dns.nil
theorem Dbs.cons {v : V} {vs : List V} {d : PyData} {ds : List PyData} (h : Db K r H v d) (t : Dbs K r H vs ds) : Dbs K r H (v :: vs) (d :: ds) := Dns.cons h t
theorem dns_app : ∀ {vs us : List V} {ds es : List PyData}, Dns K H vs ds → Dns K H us es → Dns K H (vs ++ us) (ds ++ es)
  | _, _, _, _, .nil, h => h
  | _, _, _, _, .cons a t, h => .cons a (dns_app t h)
theorem Dbs.app {vs us : List V} {ds es : List PyData} (h : Dbs K r H vs ds) (h2 : Dbs K r H us es) : Dbs K r H (vs ++ us) (ds ++ es) := dns_app h h2
theorem dns_drop : ∀ {vs : List V} {ds : List PyData} (n : Nat), Dns K H vs ds → Dns K H (vs.drop n) (ds.drop n)
  | _, _, 0, h => h
  | _, _, n + 1, .nil => .nil
  | _, _, n + 1, .cons a t => dns_drop n t
theorem dns_take : ∀ {vs : List V} {ds : List PyData} (n : Nat), Dns K H vs ds → Dns K H (vs.take n) (ds.take n)
  | _, _, 0, _ => .nil
  | _, _, n + 1, .nil => .nil
  | _, _, n + 1, .cons a t => .cons a (dns_take n t)
theorem Dbs.drop {vs : List V} {ds : List PyData} (n : Nat) (h : Dbs K r H vs ds) : Dbs K r H (vs.drop n) (ds.drop n) := dns_drop n h
theorem Dbs.take {vs : List V} {ds : List PyData} (n : Nat) (h : Dbs K r H vs ds) : Dbs K r H (vs.take n) (ds.take n) := dns_take n h
theorem dns_rev : ∀ {vs : List V} {ds : List PyData}, Dns K H vs ds → Dns K H vs.reverse ds.reverse
  | _, _, .nil => .nil
  | _, _, .cons a t => by
    rw [List.reverse_cons, List.reverse_cons]
    exact dns_app (dns_rev t) (.cons a .nil)
theorem Dbs.rev {vs : List V} {ds : List PyData} (h : Dbs K r H vs ds) : Dbs K r H vs.reverse ds.reverse := dns_rev h
theorem dns_mem : ∀ {vs : List V} {ds : List PyData} {v : V}, Dns K H vs ds → v ∈ vs → ∃ d, d ∈ ds ∧ Dn K H v d
  | _, _, _, .nil, h => nomatch h
  | _, _, v, .cons (d := d) a t, h => by
    rcases List.mem_cons.mp h with rfl | h
    · exact ⟨d, List.mem_cons_self, a⟩
    · obtain ⟨e, m, z⟩ := dns_mem t h
      exact ⟨e, List.mem_cons_of_mem _ m, z⟩
theorem Dbs.mem {vs : List V} {ds : List PyData} {v : V} (h : Dbs K r H vs ds) (m : v ∈ vs) : ∃ d, d ∈ ds ∧ Db K r H v d := dns_mem h m
theorem Dbs.len {vs : List V} {ds : List PyData} (h : Dbs K r H vs ds) : vs.length = ds.length := Dns.len h.dns
theorem Dbs.get {vs : List V} {ds : List PyData} (h : Dbs K r H vs ds) {i : Nat} {v : V} (e : vs[i]? = some v) : ∃ d, ds[i]? = some d ∧ Db K r H v d := Dns.get (show Dns K (wo r H) vs ds from h) e
theorem dbs_strs (xs : List Str) : Dbs K r H (xs.map V.str) (xs.map PyData.str) := by
  induction xs with
  | nil => exact .nil
  | cons x xs ih => exact .cons (.str x) ih
theorem upd_new {l : Addr} {o : HO} (e : upd H l o = H') (n : H l = none) : Same H H' ∧ H' l = some o := by
  rw [← e]
  exact ⟨same_upd n, upd_same⟩
end
/-! ### how large they are -/
structure Bd (n W : Nat) (d : PyData) : Prop where
  sh : d.showable = true
  lf : d.leavesShort 40 = true
  dp : d.depth ≤ n
  wt : d.weight ≤ W
  sm : sml d = true
theorem Bd.mono {n W n' W' : Nat} {d : PyData} (h : Bd n W d) (a : n ≤ n') (b : W ≤ W') : Bd n' W' d := ⟨h.sh, h.lf, Nat.le_trans h.dp a, Nat.le_trans h.wt b, h.sm⟩
def Fits (d : PyData) : Prop := d.showable = true ∧ d.depth ≤ 60 ∧ d.shown.length ≤ sizeLine
theorem Bd.fits {n W : Nat} {d : PyData} (h : Bd n W d) (a : n ≤ 60) (b : W ≤ 300000) : Fits d := by
  refine ⟨h.sh, Nat.le_trans h.dp a, ?_⟩
  have l := PyData.shown_le 40 (by decide) d h.lf
  have w := h.wt
  have m : (40 + 2) * d.weight ≤ 42 * 300000 := Nat.mul_le_mul (by decide) (by omega)
  rw [sizeLine_eq]
  omega
theorem bds {n W : Nat} : ∀ {ds : List PyData}, (∀ d ∈ ds, Bd n W d) → PyData.showableAll ds = true ∧ PyData.leavesShortAll 40 ds = true ∧ PyData.depthAll ds ≤ n ∧ PyData.weightAll ds ≤ ds.length * (W + 1) ∧ smls ds = true
  | [], _ => ⟨rfl, rfl, Nat.zero_le _, Nat.zero_le _, rfl⟩
  | d :: ds, h => by
    obtain ⟨a1, a2, a3, a4, a5⟩ := bds (ds := ds) fun e he => h e (List.mem_cons_of_mem _ he)
    have g := h d List.mem_cons_self
    refine ⟨?_, ?_, ?_, ?_, ?_⟩
    · show (d.showable && PyData.showableAll ds) = true
      rw [g.sh, a1]
      rfl
    · show (d.leavesShort 40 && PyData.leavesShortAll 40 ds) = true
      rw [g.lf, a2]
      rfl
    · show max d.depth (PyData.depthAll ds) ≤ n
      have := g.dp
      omega
    · show d.weight + 1 + PyData.weightAll ds ≤ (ds.length + 1) * (W + 1)
      have := g.wt
      rw [Nat.add_mul, Nat.one_mul]
      omega
    · show (sml d && smls ds) = true
      rw [g.sm, a5]
      rfl
theorem Bd.tup {n W L : Nat} {ds : List PyData} (h : ∀ d ∈ ds, Bd n W d) (l : ds.length ≤ L) (L14 : L ≤ 14) : Bd (n + 1) (L * (W + 1)) (.tuple ds) := by
  obtain ⟨a1, a2, a3, a4, a5⟩ := bds h
  refine ⟨a1, a2, Nat.succ_le_succ a3, Nat.le_trans a4 (Nat.mul_le_mul_right _ l), ?_⟩
  show (decide (ds.length ≤ 14) && smls ds) = true
  rw [decide_eq_true (by omega), a5]
  rfl
theorem Bd.lst {n W L : Nat} {ds : List PyData} (h : ∀ d ∈ ds, Bd n W d) (l : ds.length ≤ L) (L14 : L ≤ 14) : Bd (n + 1) (L * (W + 1)) (.list ds) := by
  obtain ⟨a1, a2, a3, a4, a5⟩ := bds h
  refine ⟨a1, a2, Nat.succ_le_succ a3, Nat.le_trans a4 (Nat.mul_le_mul_right _ l), ?_⟩
  show (decide (ds.length ≤ 14) && smls ds) = true
  rw [decide_eq_true (by omega), a5]
  rfl
/-- a part: not deep, not large -/
abbrev A0 (d : PyData) : Prop := Bd 1 120 d
theorem a0_txt {x : Str} (h : (decide (x.length ≤ 20) && x.cps.toList.all fun c => decide (c < 0x110000)) = true := by decide +kernel) : A0 (.str x) := by
  rw [Bool.and_eq_true, decide_eq_true_eq] at h
  refine ⟨rfl, List.all_eq_true.mpr fun c hc => decide_eq_true (Nat.lt_of_lt_of_le (of_decide_eq_true (List.all_eq_true.mp h.2 c hc)) (by decide)), Nat.zero_le _, ?_, decide_eq_true h.1⟩
  show x.cps.size ≤ 120
  have : x.cps.size ≤ 20 := h.1
  omega
theorem a0_nm {x : Str} (h : Nm x) : A0 (.str x) := a0_txt (by
  rw [Bool.and_eq_true, decide_eq_true_eq]
  refine ⟨by have := h.2.1; omega, List.all_eq_true.mpr fun c hc => ?_⟩
  have z : ∀ d ∈ LET.cps.toList, d < 0x110000 := by decide +kernel
  exact decide_eq_true (z c (h.2.2 c hc)))
theorem a0_int {i : Int} (h : (decide ((PyData.shown (.int i)).length ≤ 40) && decide (i.natAbs.log2 < 110)) = true := by decide +kernel) : A0 (.int i) := by
  rw [Bool.and_eq_true, decide_eq_true_eq, decide_eq_true_eq] at h
  refine ⟨?_, decide_eq_true h.1, Nat.zero_le _, ?_, rfl⟩
  · show decide (i.natAbs.log2 < 1920) = true
    exact decide_eq_true (by omega)
  · show (if (i == 0) = true then 0 else i.natAbs.log2 + 1) ≤ 120
    split <;> omega
theorem a0_nat {n : Nat} (h : n ≤ 100) : A0 (.int (n : Int)) := by
  have z : ∀ m : Fin 101, (decide ((PyData.shown (.int ((m.val : Nat) : Int))).length ≤ 40) && decide (((m.val : Nat) : Int).natAbs.log2 < 110)) = true := by decide +kernel
  exact a0_int (z ⟨n, by omega⟩)
theorem a0_bl {b : Bool} : A0 (.bool b) := ⟨rfl, rfl, Nat.zero_le _, Nat.zero_le _, rfl⟩
theorem a0_non : A0 .none := ⟨rfl, rfl, Nat.zero_le _, Nat.zero_le _, rfl⟩
theorem a0_dic1 : A0 (.dict [(.str "a", .int 1)]) := ⟨rfl, by decide +kernel, by decide +kernel, by decide +kernel, rfl⟩
theorem a0_dic : A0 (.dict []) := ⟨rfl, rfl, by decide, Nat.zero_le _, rfl⟩
/-- a part that, if it is a tuple, has few and small parts -/
def PT (m : Nat) (p : PyData) : Prop := ∀ qs, p = .tuple qs → qs.length ≤ m ∧ ∀ q ∈ qs, A0 q
end My

namespace My
open PySem PySem.Spec PyProof.Rows L2 Gy Xl Xs Xt
/-! ### a drawn name -/
section
variable {P : Program} {w : World} {K : PySem.W.Frag} {mg : Str → Option Value} {base : Heap} {H : Hp}
def spName : Sp := fun vs H Q _ => ∃ (r ua : Addr) (us : List Str), vs = [.ref r, .ref ua] ∧ Rng H r ∧ ua ≠ r ∧ H ua = some (.lst (us.map V.str)) ∧ us.length ≤ 20 ∧ (∀ x ∈ us, Nm x) ∧ ∀ H' x, But r H H' → Rng H' r → Nm x → x ∉ us → Q (.str x) H'
theorem ok_name {f : Addr} {fd : FuncData} (F : Fun K "_law_name" "_law_name" s_law_name f fd) (Y : Bn mg) (G_law_draw : Fk P w K mg base CX0 1 "_law_draw" ["_law_pot_here", "_law_count"] spDraw) : FnOk P w K mg base CX0 2 f fd ["_law_pot_here", "_law_used"] spName := by
  refine F.ok sc_law_name (fun vs H Q E h => ?_) (fun cdv A outer s H vs Q E hr h => ?_)
  · obtain ⟨r, ua, us, rfl, _⟩ := h
    rfl
  · obtain ⟨r, ua, us, rfl, R, nu, hu, lu, nmu, q⟩ := h
    have hu64 := hr.units
    refine ⟨_, (pss_cons (ps_set (i := 2) sc_law_name.nd rfl (.inr rfl) pe_str)
 (pss_cons (ps_set (i := 3) sc_law_name.nd rfl (.inl rfl) (pe_ix ix_list (pe_lst (pa_cons pe_int (pa_cons pe_int (pa_cons pe_int (pa_cons pe_int pa_nil))))) (pe_callF G_law_draw (hr.mono (by decide)) (by rfl) pass0 (pa_cons (pv 0) (pa_cons pe_int pa_nil))) (fun _ _ => rfl)))
 (pss_cons (ps_set (i := 4) sc_law_name.nd rfl (.inr rfl) (pe_join pe_str (pe_lc (own := [("_law_k", 6)]) (g := gName 6) (tt := tYes) rfl sc_law_name.nd (pi_range1 (by rfl) Y.range (pa_cons (pv 3) pa_nil)) (blkOk_by (N := ["_law_pot_here", "_law_used", "_law_letters", "_law_size", "_law_word", "_law_choices", "_law_k", "_law_letter", "_law_choice"]) (sc := defScope s_law_name) (by decide +kernel)) (fun _ _ _ _ _ => (pg_name (i := 6) sc_law_name.nd rfl (Or.inl rfl))) (fun _ _ _ _ _ => pts_nil) (fun _ _ _ _ _ => (pe_ix ix_str (pv 2) (pe_callF G_law_draw (hr.mono (by decide)) (by rfl) pass0 (pa_cons (pv 0) (pa_cons pe_int pa_nil))) (fun _ _ => rfl))))))
 (pss_cons (ps_if (PW.pt (pw_and (pt_cmpR (op_neD hu64) (pv 1) (pe_lst pa_nil) (nomark _)) (pw_and1 (pt_cmpR op_eq (pe_callF G_law_draw (hr.mono (by decide)) (by rfl) pass0 (pa_cons (pv 0) (pa_cons pe_int pa_nil))) pe_int (nomark _)))))
 (pss_one (ps_set (i := 4) sc_law_name.nd rfl (.inr rfl) (pe_slice sl_str (pe_op op_add_str (pe_ix ix_list (pv 1) (pe_un un_neg pe_int) (fun _ _ => rfl)) (pv 4)) po_none (po_some pe_int))))
 pss_nil)
 (pss_cons (ps_set (i := 5) sc_law_name.nd rfl (.inl rfl) (pe_op op_cat (pe_lst (pa_cons (pv 4) pa_nil)) (pe_lc (own := [("_law_letter", 7)]) (g := gName 7) (tt := tYes) rfl sc_law_name.nd (pi_str (pv 2)) (blkOk_by (N := ["_law_pot_here", "_law_used", "_law_letters", "_law_size", "_law_word", "_law_choices", "_law_k", "_law_letter", "_law_choice"]) (sc := defScope s_law_name) (by decide +kernel)) (fun _ _ _ _ _ => (pg_name (i := 7) sc_law_name.nd rfl (Or.inl rfl))) (fun _ _ _ _ _ => pts_nil) (fun _ _ _ _ _ => (pe_op op_add_str (pe_slice sl_str (pv 4) po_none (po_some pe_int)) (pv 7))))))
 (pss_one (ps_ret (pe_ix ix_list (pe_lc (own := [("_law_choice", 8)]) (g := gName 8) (tt := tTest (tOp (rIn K true) (tVar 8) (tVar 1))) rfl sc_law_name.nd (pi_list (pv 5)) (blkOk_by (N := ["_law_pot_here", "_law_used", "_law_letters", "_law_size", "_law_word", "_law_choices", "_law_k", "_law_letter", "_law_choice"]) (sc := defScope s_law_name) (by decide +kernel)) (fun _ _ _ _ _ => (pg_name (i := 8) sc_law_name.nd rfl (Or.inl rfl))) (fun _ _ _ _ _ => (pts_one (pt_cmpR (show OpR _ (compareOp .NotIn) (rIn K true) from op_notIn_seq) (pv 8) (pv 1) rfl))) (fun _ _ _ _ _ => (pv 8))) pe_int (fun _ _ => rfl))))))))), ?_⟩
    -- the size
    refine ⟨(by show 4 ≤ sizeLine; decide), fun l2 n2 => ?_⟩
    have ne2 := R.ne n2
    generalize hg : upd _ l2 _ = H2
    obtain ⟨s2, g2⟩ := upd_new hg n2
    clear hg
    have R := R.same s2
    refine ⟨_, rfl, r, 4, rfl, R, by decide, by decide, fun H3 b b3 R c0 c1 => ?_⟩
    have g2 := b3 _ _ ne2 g2
    obtain ⟨v, hv, mv⟩ := at_in (xs := [V.int 1, .int 1, .int 2, .int 8]) c0 c1
    refine ⟨l2, _, b, v, rfl, rfl, SqL.of g2, hv, ?_⟩
    obtain ⟨m, rfl, m1, m8⟩ : ∃ m : Nat, v = .int (m : Int) ∧ 1 ≤ m ∧ m ≤ 8 := by
      simp only [List.mem_cons, List.not_mem_nil, or_false] at mv
      rcases mv with rfl | rfl | rfl | rfl
      · exact ⟨1, rfl, by decide, by decide⟩
      · exact ⟨1, rfl, by decide, by decide⟩
      · exact ⟨2, rfl, by decide, by decide⟩
      · exact ⟨8, rfl, by decide, by decide⟩
    clear mv hv g2
    have b03 : But r H H3 := (But.of s2).trans b3
    have hu := b03 _ _ nu hu
    clear b3
    generalize H3 = HS at hu b03 R ⊢
    -- the letters
    refine ⟨⟨_, rfl⟩, _, rfl, (m : Int), rfl, by omega, by omega, fun D hD => ?_⟩
    have nD : D ≠ r := R.ne hD
    refine lc_it (walk_range (lo := 0) (n := ((m : Int) - 0).toNat)) (fun i H' => But r HS H' ∧ Rng H' r ∧ ∃ ys : List Str, H' D = some (.lst (ys.map V.str)) ∧ ys.length = i ∧ (∀ y ∈ ys, y.length = 1) ∧ ∀ y ∈ ys, ∀ c ∈ y.cps.toList, c ∈ (LET).cps.toList)
      ⟨But.of (same_upd hD), R.upd hD, [], upd_same, rfl, (fun y z => nomatch z), fun y z => nomatch z⟩ (fun _ _ _ _ => trivial) ?_ ?_
    · rintro j y H4 H5 hj ⟨b4, R4, ys, hY, yl, y1, y2⟩ ⟨rfl, rfl⟩
      refine ⟨rfl, ?_⟩
      dsimp only [tYes]
      refine iteT ?_
      refine ⟨_, rfl, _, rfl, r, 26, rfl, R4, by decide, by decide, fun H6 e b6 R6 e0 e1 => ?_⟩
      obtain ⟨c, hc, mc⟩ := at_in (xs := (LET).cps.toList) e0 (by rw [show (LET).cps.toList.length = 26 by decide +kernel]; exact e1)
      refine ⟨LET, e, c, rfl, rfl, (by decide +kernel), hc, _, b6 D _ nD hY, ?_, ?_, ?_, ys ++ [⟨#[c]⟩], ?_, ?_, ?_, ?_⟩
      · rw [List.length_map, yl]
        exact small200 (by omega)
      · exact (b4.trans b6).upd hD
      · exact R6.upd2 nD
      · rw [upd_same, List.map_append]
        rfl
      · rw [List.length_append, yl]
        rfl
      · intro y hy'
        rcases List.mem_append.mp hy' with z | z
        · exact y1 y z
        · rw [List.mem_singleton.mp z]
          rfl
      · intro y hy'
        rcases List.mem_append.mp hy' with z | z
        · exact y2 y z
        · rw [List.mem_singleton.mp z]
          intro c' hc'
          have hc2 : c' ∈ [c] := hc'
          rw [List.mem_singleton.mp hc2]
          exact mc
    rintro H4 ⟨b4, R4, ys, hY, yl, y1, y2⟩
    refine ⟨"", D, ys, rfl, rfl, .inl (SqL.of hY), ?_, ?_⟩
    · have e1 : (ys.map (·.length)).sum ≤ ys.length := sum_ones ys y1
      show (ys.map (·.length)).sum + ys.length * 0 ≤ 16777216
      omega
    rw [TL.join_eq]
    have jl := join_len ys y1
    have ji := join_in ys y2
    generalize Str.join "" ys = x0 at jl ji ⊢
    clear y1 y2 hY
    have nm1 : Nm x0 := ⟨by omega, by omega, ji⟩
    have b04 := b03.trans b4
    have hu := b4 _ _ nu hu
    have R := R4
    clear b4 R4 jl ji yl
    -- perhaps with the last name ahead of it
    refine ⟨_, rfl, Nat.zero_le _, fun l5 n5 => ?_⟩
    generalize hg : upd _ l5 _ = H5
    obtain ⟨s5, g5⟩ := upd_new hg n5
    clear hg
    have hu := s5 _ _ hu
    have R := R.same s5
    have b04 := b04.trans (But.of s5)
    refine ⟨_, _, .lst (SqL.of hu) (dps_strs us), .lst (SqL.of g5) .nil, sh_strs us nmu, rfl, _, rfl, ite2 (fun c3 => ?A) (fun c3 => ?B)⟩
    case' A =>
      obtain ⟨us1, ul, eu⟩ : ∃ us1 ul, us = us1 ++ [ul] := by
        cases us with
        | nil => exact absurd c3 (by decide)
        | cons x t => exact ⟨_, _, (List.dropLast_concat_getLast (l := x :: t) (by simp)).symm⟩
      have nl := nmu ul (by rw [eu]; exact List.mem_append_right _ List.mem_cons_self)
      refine ⟨_, rfl, r, 5, rfl, R, by decide, by decide, fun H7 e b7 R7 e0 e1 => ⟨rfl, _, rfl, ite2 (fun c4 => ?C) (fun c4 => ?D)⟩⟩
      case' C =>
        have hu := b7 _ _ nu hu
        have R := R7
        have b05 := b04.trans b7
        have nm2 := nm_cut nl nm1
        refine ⟨_, rfl, 1, rfl, ua, _, -1, .str ul, rfl, rfl, SqL.of hu, (by rw [eu, List.map_append]; exact atI_last _ _), _, rfl, ul, x0, rfl, rfl, (by have := nl.2.1; have := nm1.2.1; exact Nat.le_of_lt (small200 (by omega))), 8, rfl, _, rfl, (by have := nl.2.1; have := nm1.2.1; rw [strLen_append]; exact Nat.le_of_lt (small200 (by omega))), ?_⟩
        generalize cutS (ul ++ x0) none (some 8) = x9 at nm2 ⊢
      case' D =>
        have hu := b7 _ _ nu hu
        have R := R7
        have b05 := b04.trans b7
        have nm2 := nm1
        generalize x0 = x9 at nm2 ⊢
    case' B =>
      have b05 := b04
      have nm2 := nm1
      generalize x0 = x9 at nm2 ⊢
    all_goals
      refine ⟨_, rfl, (by show 1 ≤ sizeLine; decide), fun l6 n6 => ?_⟩
      generalize hg : upd _ l6 _ = H6
      obtain ⟨s6, g6⟩ := upd_new hg n6
      clear hg
      refine ⟨_, rfl, LET, rfl, fun D9 hD9 => ?_⟩
      refine lc_it (walk_str (z := LET)) (fun i H' => Same H6 H' ∧ H' D9 = some (.lst (((LET.cps.toList.take i).map (tl x9)).map V.str)))
        ⟨same_upd hD9, upd_same⟩ (fun _ _ _ _ => trivial) ?_ ?_
      · rintro j y H7 H8 hj ⟨sm, hZ⟩ ⟨rfl, c, hc, rfl⟩
        have hc' : LET.cps.toList[j]? = some c := by rw [Array.getElem?_toList]; exact hc
        refine ⟨rfl, ?_⟩
        dsimp only [tYes]
        refine iteT ?_
        have n8 := nm2.2.1
        have n7 : (cutS x9 none (some 7)).length ≤ 8 := by
          rw [show (some 7 : Option Int) = some ((7 : Nat) : Int) from rfl, cut_some]
          show (x9.cps.toList.take (min 7 x9.length)).toArray.size ≤ 8
          rw [List.size_toArray, List.length_take]
          omega
        refine ⟨_, rfl, 7, rfl, x9, rfl, le200 (by omega), _, rfl, _, _, rfl, rfl, (by show (cutS x9 none (some 7)).length + 1 ≤ sizeLine; exact le200 (by omega)), _, hZ, ?_, same_upd2 sm hD9, ?_⟩
        · rw [List.length_map, List.length_map, List.length_take]
          have : LET.cps.size = 26 := by decide +kernel
          exact small200 (by omega)
        · rw [upd_same, List.take_add_one, hc', List.map_append, List.map_append]
          rfl
      rintro H7 ⟨sm7, hZ⟩
      rw [List.take_of_length_le (by rw [Array.length_toList]; exact Nat.le_refl _)] at hZ
      refine ⟨l6, D9, _, _, rfl, rfl, sm7 _ _ g6, hZ, ?_, fun p hp => ?_⟩
      · rw [List.length_map, List.length_map, show LET.cps.toList.length = 26 by decide +kernel]
        exact le200 (show 1 + 26 ≤ 10000 by decide)
      generalize hg : upd _ p _ = H8
      obtain ⟨s8, hT⟩ := upd_new hg hp
      clear hg
      have hT : H8 p = some (.lst ((triesOf x9).map V.str)) := hT
      have s48 := s6.trans (sm7.trans s8)
      have hu := s48 _ _ hu
      have R := R.same s48
      have b08 := b05.trans (But.of s48)
      clear g6 hZ
      -- the first that is not used
      refine ⟨_, rfl, p, rfl, ⟨_, SqL.of hT⟩, fun D hD => ?_⟩
      refine lc_it (walk_list (K := K) (a := p) (xs := (triesOf x9).map V.str)) (fun i H' => Same H8 H' ∧ H' D = some (.lst ((((triesOf x9).take i).filter (fun y => decide (y ∉ us))).map V.str)))
        ⟨same_upd hD, upd_same⟩ (fun i H' _ h => SqL.of (h.1 _ _ hT)) ?_ ?_
      · rintro j y H9 H10 hj ⟨sm, hZ⟩ ⟨rfl, hy⟩
        rw [List.getElem?_map] at hy
        obtain ⟨z, hz, rfl⟩ := Option.map_eq_some_iff.mp hy
        refine ⟨rfl, ?_⟩
        refine ⟨_, rfl, _, rfl, ua, _, rfl, .inl (SqL.of (sm _ _ hu)), rfl, flat_strs _, _, rfl, ite2 (fun c8 => ?_) (fun c8 => ?_)⟩
        · have c8' : (!inV (.str z) (us.map V.str)) = true := c8
          rw [inV_strs] at c8'
          have nz : z ∉ us := fun w => by
            rw [decide_eq_true w] at c8'
            cases c8'
          refine ⟨_, rfl, _, hZ, ?_, same_upd2 sm hD, ?_⟩
          · rw [List.length_map]
            refine small200 (Nat.le_trans (List.length_filter_le _ _) ?_)
            rw [List.length_take]
            have : (triesOf x9).length = 27 := by
              show (LET.cps.toList.map (tl x9)).length + 1 = 27
              rw [List.length_map, show LET.cps.toList.length = 26 by decide +kernel]
            omega
          · rw [upd_same, List.take_add_one, hz, List.filter_append, List.map_append]
            show some (HO.lst _) = some (HO.lst (_ ++ (List.filter _ [z]).map V.str))
            rw [List.filter_cons_of_pos (by exact decide_eq_true nz)]
            rfl
        · have c8' : ¬ (!inV (.str z) (us.map V.str)) = true := c8
          rw [inV_strs] at c8'
          have nz : z ∈ us := by
            cases w : decide (z ∈ us) with
            | true => exact of_decide_eq_true w
            | false => exact absurd (by rw [w]; rfl) c8'
          refine ⟨sm, ?_⟩
          rw [hZ, List.take_add_one, hz, List.filter_append]
          show some (HO.lst _) = some (HO.lst ((_ ++ List.filter _ [z]).map V.str))
          rw [List.filter_cons_of_neg (by simpa using nz), List.filter_nil, List.append_nil]
      rintro H9 ⟨s9, hZ⟩
      rw [List.length_map, List.take_of_length_le (Nat.le_refl _)] at hZ
      obtain ⟨z, zs, ez⟩ := tries_out (x := x9) (xs := us) (by omega)
      rw [ez] at hZ
      have mz : z ∈ (triesOf x9).filter (fun y => decide (y ∉ us)) := by rw [ez]; exact List.mem_cons_self
      have nz := tries_nm nm2 z (List.mem_filter.mp mz).1
      exact ⟨D, _, 0, .str z, rfl, rfl, SqL.of hZ, atI_nat (j := 0) rfl, q _ z (b08.trans (But.of s9)) (R.same s9) nz (by simpa using (List.mem_filter.mp mz).2)⟩
end
end My

/-! list.count of a flat value in a list of flat values. -/
namespace Gy
open PySem PySem.Spec PyProof.Rows L2
theorem cnt_flat {y : V} : ∀ {ys : List V} {its : List Value}, Vals ys its → ys.all flatV = true → its.countP (eqU y) = ys.countP fun z => eqV z y
  | [], _, .nil, _ => rfl
  | z :: ys, _, .cons r t, f => by
    rw [List.all_cons, Bool.and_eq_true] at f
    rw [List.countP_cons, List.countP_cons, cnt_flat t f.2, eqU_of r f.1]
def rCntF (K : PySem.W.Frag) : V → List V → Hp → VK → Prop := fun x xs H Q => ∃ (p : Addr) (ys : List V) (y : V), x = .ref p ∧ xs = [y] ∧ SqL K H p ys ∧ flatV y = true ∧ ys.all flatV = true ∧ Q (.int ((ys.countP fun z => eqV z y : Nat) : Int)) H
theorem mt_lcountF {X : Cx} : MtR X "list.count" (rCntF X.K) := by
  intro pins s σ H x xs v us Q I rx rxs h
  obtain ⟨p, ys, y, rfl, rfl, hs, fy, fys, q⟩ := h
  cases rx
  obtain ⟨u, rfl, ru⟩ := rxs.one
  obtain ⟨its, rv, ⟨⟨cl, d1, dt, so⟩, n, h1, h2, h3, h4⟩, h5⟩ := I.list hs
  simp only at h2 h4
  subst h2 h4
  refine call_meets PySem.F.slot_list_count ⟨_, h1, rfl⟩ PySem.F.entry_list_count (PySem.F.args_list_count_2 _ _) (SeqAt.list_countAt p its.toArray n d1 so u (eqU y)) ⟨h1, fun u' hu' => mem_eqAt ru fy rv fys u' (by simpa using hu'), ?_⟩
  have ec : its.toArray.toList.countP (eqU y) = ys.countP fun z => eqV z y := cnt_flat rv fys
  refine ⟨.int ((ys.countP fun z => eqV z y : Nat) : Int), H, I.tok _, ⟨s.toks, ?_⟩, q⟩
  rw [← ec]
end Gy

/-! a def whose code object is known: for defs that make lambdas. -/
namespace Xq
open PySem PySem.Spec PyProof.Rows L2 Gy
structure FunT (K : PySem.W.Frag) (x qual : Str) (st : Stmt) (f : Addr) (fd : FuncData) (cdv : Value) : Prop where
  ex : ∃ (oc : Value) (od : Option Addr) (kV doc pm : Value) (an : Option Addr) (ct : Value) (osl : Array (Option Value)),
    fd = PySem.W.fnOf x qual (defArgs st) (defBody st) (defScope st) .none kV doc pm an cdv ct ∧ K.lookup f = some ⟨oc, od, .func fd, osl⟩ ∧ PySem.W.codeIn K cdv qual = true
section
variable {P : Program} {w : World} {K : PySem.W.Frag} {mg : Str → Option Value} {base : Heap} {k : Nat} {f : Addr} {fd : FuncData} {ps N : List Str} {sp : Sp} {cdv : Value}
theorem fun_gT {x qual : Str} {st : Stmt} (F : FunT K x qual st f fd cdv) (S : FnScope N ps (defScope st)) (ln : ∀ {vs H Q E}, sp vs H Q E → vs.length = ps.length)
    (bd : ∀ (A : Around) (outer : List Env) (s : Shared) (H : Hp) (vs : List V) (Q : VK) (E : XK), A.guards = some [] → Room k (A.deeper (envOfC qual (defScope st) s.heap.objs.size f cdv)) → sp vs H Q E →
      ∃ t, PSs (cxOf CX0 P w K mg base N qual (defScope st) f cdv A outer s H E).nox (defBody st) t ∧ t { nx := fun _ H' => Q .non H', rt := Q } (start N vs) H) : FnG P w K mg base CX0 (k + 1) f fd ps sp := by
  obtain ⟨oc, od, kV, doc, pm, an, ct, osl, rfl, lk, hcd⟩ := F.ex
  refine ⟨ln, fun {A outer s H args us vs Q E} g hr e0 hb rl hsp => ?_⟩
  have up : ∀ b o, base.get? b = some o → s.heap.get? b = some o := fun b o e => (e0.bs b o e).1
  have kin := e0.mod.kin.keeps up
  refine codeAny_call_function hr.depth (kin _ _ lk) rfl S.co S.gen rfl (PySem.W.codeRec_of kin hcd) (hb _ _ _ _ (wpAny_newFunctionEnv_cells S.kind ?_ ?_))
  · rintro ⟨n, v⟩ m
    exact (S.par n (List.of_mem_zip m).1).imp id fun z => ⟨z, PySem.W.cellsFrom_some _ _ _ (.inl z)⟩
  · rintro env rfl s1 y
    refine ⟨(e0.mod.nolimit.keeps up).keeps y.toInCall.keep, codeAny_func ?_⟩
    obtain ⟨t, ht, hq⟩ := bd A outer s H vs Q E g (hr.deeper _) hsp
    refine wpAny_mono (ht.nox.run [] s1 (start N vs) H _ (inv_start (CX := CX0) (E := E) (outer := outer) S hr.hd e0 (ln hsp) rl y) hq) ?_ (fun _ _ z => z)
    rintro (_ | _ | _ | u) s' z
    all_goals first
      | (obtain ⟨σ', H', J, q⟩ := z
         exact ⟨V.non, H', J.os, J.bare, J.base, J.hok, rfl, q⟩)
      | (obtain ⟨_, _, _, q⟩ := z
         exact q.elim)
      | (obtain ⟨v, σ', H', J, rv, q⟩ := z
         exact ⟨v, H', J.os, J.bare, J.base, J.hok, rv, q⟩)
end
end Xq

/-! a lambda called in a try of a def whose suites read what the def has set: what is raised is told of the very state. -/
namespace Xq
open PySem PySem.Spec PyProof.Rows L2 LamX
abbrev resCx (X : Cx) (CXg : CXT) (Eg : XK) (Ng : List Str) (qg : Str) (sg : Scope) (g : Addr) (cdg : Value) (s : Shared) (H : Hp) : Cx := cxOf CXg X.prog X.w X.K X.mg X.base Ng qg sg g cdg X.A X.stack s H Eg
section
variable {X : Cx} {pins : List (Addr × Obj)} {σ : L2.St} {H : Hp} {s : Shared}
theorem pe_actS {CXg : CXT} {Eg : XK} {Ng : List Str} {qg : Str} {sg : Scope} {g f c' : Addr} {cdg pm ctv : Value} {ar : Arguments} {bd : Expr} {sc : Scope} {k i : Nat} {a : Str} {pn : List (Addr × Obj)} {xe : Value → Shared → Prop} {W : WX} {tb : XK → TE} {p1 p2 : Pos}
    (I0 : Inv X pins σ H s) (LS : LamS X.env.scope sc) (of : s.heap.get? f = some (PySem.W.kla_obj "<lambda>" (X.env.qual ++ "<lambda>") ar bd sc (cloFrom X.env.cells sc.names []) pm c' ctv)) (nf : H f = none) (nfr : f ∉ frs X.stack)
    (bi : bindArgs (PySem.W.kla_fn "<lambda>" (X.env.qual ++ "<lambda>") ar bd sc (cloFrom X.env.cells sc.names []) pm (.ref c') ctv) ⟨[], []⟩ = pure [])
    (tk : Takes ((resCx X CXg Eg Ng qg sg g cdg s H).tr pn xe) W) (ro : Room (k + 1) (X.A.deeper (envOfC qg sg s.heap.objs.size g cdg)))
    (hb : ∀ (A : Around) (outer : List Env) (s : Shared) (H : Hp) (E : XK), Room k (A.deeper (lamEnv X sc s.heap.objs.size f c')) → PE (lamCx X A outer s H E sc f c') bd (tb E))
    (nN : Ng[i]? = some a) (vi : Vis sg a) (nd : (a == ("__debug__" : Str)) = false := by decide) (nc : (a == ("__classdict__" : Str)) = false := by decide) :
    PE ((resCx X CXg Eg Ng qg sg g cdg s H).tr pn xe) (.Call (.Name a p1) [] [] p2)
      (fun σZ HZ Q => σZ[i]? = some (some (.ref f)) ∧ HZ c' = some (CodeO c' (X.env.qual ++ "<lambda>")) ∧ tb (WE W σZ) σ HZ Q) := by
  refine ⟨fun pinz sz σz Hz Qz Iz hyp => ?_⟩
  obtain ⟨isF, isC, rd⟩ := hyp
  refine wpAny_Call_Name_kw (thn ((pe_var (pos := p1) (i := i) nN vi nd nc).run pinz sz σz Hz (fun v H1 => v = .ref f ∧ H1 = Hz) Iz ⟨.ref f, isF, rfl, rfl⟩) ?_)
  rintro u s1 ⟨v, H1, I1, ru, rfl, rfl⟩
  obtain rfl : u = Value.ref f := ru
  have o1 := I1.base.keep f _ of nf nfr (fun z => nomatch (show f ∈ ([] : List Addr) from z))
  refine PySem.W.callWith_F0 ⟨_, _, _, _, o1⟩ ?_
  have U := I1.base
  obtain ⟨⟨oc, vs, t, h1, h2, h3⟩, _, _⟩ := I1.hok c' _ isC
  have run : codeAny (model X.prog X.w) (X.A.deeper (envOfC qg sg s.heap.objs.size g cdg)) (.call (.ref f) ⟨[], []⟩) (CR (L2.CX X.prog X.w) (envOfC qg sg s.heap.objs.size g cdg :: X.stack) X.prog X.w H1 s1 Qz (WE W σz)) s1 := by
    refine PySem.W.kla_callFunE ro.depth o1 rfl LS.co LS.gen rfl ⟨c', oc, vs, t, rfl, h1, h2, h3⟩ ?_
    rw [bi]
    refine wpAny_pure (wpAny_newFunctionEnv (fun y m => (LS.own y m).2) (fun y m => absurd m (by simp)) (fun hh ns sb => ⟨I1.nolimit.fresh _ sb, ?_⟩) LS.kind)
    have kp : ∀ b o, s1.heap.get? b = some o → hh.get? b = some o := fun b o e => sb.extBut b o (Nat.ne_of_lt (Heap.lt_size e)) (Heap.get?_push_of_some _ e)
    have J := lam_start2 (E := WE W σz) (A := X.A.deeper (envOfC qg sg s.heap.objs.size g cdg)) (outer := envOfC qg sg s.heap.objs.size g cdg :: X.stack) (f := f) (c' := c') (tk := s1.toks + ([] : List (Str × Value)).length) I0 LS I1.env0 ro.hd U ns kp
    refine PySem.W.kla_codeExpr (wpAny_mono ((hb _ _ s1 H1 _ (ro.deeper _)).run [] _ _ H1 Qz J rd) ?_ fun _ _ z => z)
    rintro v s' ⟨w', H', J', rv, q⟩
    exact ⟨w', H', J'.os, J'.bare, J'.base, J'.hok, rv, q⟩
  refine wpAny_call (codeAny_mono run ?_)
  rintro (e | fl) s' hq
  · exact passAt tk σz pinz _ _ e s' I1 hq
  · cases fl with
    | ret u => exact I1.after hq
    | next => exact hq.elim
    | brk => exact hq.elim
    | cont => exact hq.elim
end
/-- as GivesTo, with what is raised told of the state -/
def GivesS (X : Cx) (Ng : List Str) (x : Str) (sg : Scope) (g : Addr) (cdg : Value) (bg : List Stmt) (a q : Str) (TT : (XK → Hp → VK → Prop) → Hp → VK → Prop) : Prop :=
  ∀ (f c' : Addr) (s : Shared) (H : Hp) (Q : VK) (tl : XK → Hp → VK → Prop),
    (∀ (W : WX) (pn : List (Addr × Obj)) (xe : Value → Shared → Prop) (p1 p2 : Pos), Takes ((resCx X C8.CX0 C8.E0 Ng x sg g cdg s H).tr pn xe) W →
      PE ((resCx X C8.CX0 C8.E0 Ng x sg g cdg s H).tr pn xe) (.Call (.Name a p1) [] [] p2) (fun σZ HZ Q => σZ[0]? = some (some (.ref f)) ∧ HZ c' = some (CodeO c' q) ∧ tl (WE W σZ) HZ Q)) →
    H c' = some (CodeO c' q) → TT tl H Q →
    ∃ t, PSs (resCx X C8.CX0 C8.E0 Ng x sg g cdg s H).nox bg t ∧ t { nx := fun _ H' => Q .non H', rt := Q } (L2.start Ng [.ref f]) H
section
variable {X : Cx}
/-- x(lambda: body), x told by GivesS -/
theorem pe_lamcallS {T : List (Addr × Str)} {TT : (XK → Hp → VK → Prop) → Hp → VK → Prop} {x a : Str} {g c P : Addr} {k : Nat} {pg : Arguments} {bg : List Stmt} {sg : Scope} {dV kV doc pm cdv ct oc : Value} {an od : Option Addr} {osl : Array (Option Value)} {Ng : List Str}
    {ar : Arguments} {bd : Expr} {sc : Scope} {t : XK → TE} {p lp pos : Pos} (gl : Gl X x) (gm : X.mg x = some (.ref g)) (gk : PySem.W.keepIn X.K (.ref g) = true)
    (lg : X.K.lookup g = some ⟨oc, od, .func (PySem.W.fnOf x x pg bg sg dV kV doc pm an cdv ct), osl⟩) (cg : PySem.W.codeIn X.K cdv x = true) (bi : L2.Binds X.K (PySem.W.fnOf x x pg bg sg dV kV doc pm an cdv ct) [a] []) (Sg : FnScope Ng [a] sg) (n0 : Ng[0]? = some a) (vi : Vis sg a)
    (GS : GivesS X Ng x sg g cdv bg a (X.env.qual ++ "<lambda>") TT)
    (TB : TabB X.base X.mg c P) (co : X.env.code = .ref c) (mT : (P, X.env.qual ++ "<lambda>") ∈ T) (uT : ∀ p ∈ T, p.1 = P → p.2 = X.env.qual ++ "<lambda>") (ro : Room (k + 2) X.A) (LS : LamS X.env.scope sc) (df : defaultsOf ar X.env = ([], []))
    (lb : ∀ (q : Str) (cl : List (Str × Addr)) (pm cv ctv : Value), bindArgs (PySem.W.kla_fn "<lambda>" q ar bd sc cl pm cv ctv) ⟨[], []⟩ = pure [])
    (hb : ∀ (A : Around) (outer : List Env) (s : Shared) (H : Hp) (E : XK) (f c' : Addr), Room k (A.deeper (lamEnv X sc s.heap.objs.size f c')) → PE (lamCx X A outer s H E sc f c') bd (t E))
    (d1 : (x == ("__debug__" : Str)) = false := by decide) (d2 : (a == ("__debug__" : Str)) = false := by decide) (d3 : (a == ("__classdict__" : Str)) = false := by decide) :
    PE X (.Call (.Name x p) [.Lambda ar bd sc lp] [] pos) (tLam T TT t) := by
  refine ⟨fun pins s σ H Q I hyp => ?_⟩
  obtain ⟨tabs, hyp⟩ := hyp
  refine wpAny_Call_Name_kw (ld_glob I gl gm ?_ d1)
  refine PySem.W.callWith_K (h₀ := X.base) I.ok.mod.kin gk ?_ (by rfl) (by rfl)
  show wpAny _ _ (spliced ((false, eval (.Lambda ar bd sc lp) X.env) :: backTo pos (starEach [] X.env))) _ _ s
  refine Calls.spliced_cons (lam_make2 I TB co mT uT tabs df (LS.has I.ok) ?_)
  intro f c' pm' ctv H1 s' I1 eN T1 of nf nfr oc1
  refine Calls.spliced_nil ⟨I1.kIn, ?_⟩
  refine wpAny_call (codeAny_mono (?_ : codeAny (model X.prog X.w) X.A (.call (.ref g) ⟨[.ref f], []⟩) (CR C8.CX0 X.stack X.prog X.w H1 s' Q C8.E0) s') ?_)
  · refine run_ofS (N := Ng) (ps := [a]) (us := [.ref f]) (vs := [.ref f]) lg cg Sg ro I1.env0 (bi s' [.ref f] I1.kIn rfl) (.cons rfl .nil) rfl fun ro' => ?_
    obtain ⟨u, hu, hq⟩ := GS f c' s' H1 Q (fun E H' Q' => t E σ H' Q') (fun W pn xe p1 p2 tk => pe_actS (i := 0) I1 LS of nf nfr (lb _ _ _ _ _) tk ro' (fun A outer s H E r2 => hb A outer s H E f c' r2) n0 vi d2 d3) oc1 (hyp H1 eN T1)
    exact ⟨u, hu.nox, hq⟩
  · rintro (e | fl) s2 hq
    · exact (show False from hq).elim
    · cases fl with
      | ret u => exact I1.after hq
      | next => exact hq.elim
      | brk => exact hq.elim
      | cont => exact hq.elim
end
end Xq

namespace My
open PySem PySem.Spec PyProof.Rows L2 Gy Xl Xs Xt Xo Xp
/-! ### hosts -/
structure HS where
  nm : Str
  lk : List Str
  lg : List PyData
  jn : Option (List Str × Nat)
  sg : Str
  qu : List PyData
  an : List PyData
/-- where its parts lie -/
structure HA where
  Lk : Addr
  Ll : Addr
  Lq : Addr
  La : Addr
  jv : V
  dx : Addr
def Jnd (H : Hp) (v : V) : Option (List Str × Nat) → Prop
  | none => v = .non
  | some (xs, c) => ∃ t pa, v = .ref t ∧ Tz H t [.ref pa, .int (c : Int)] ∧ Tz H pa (xs.map V.str)
structure Hst (K : PySem.W.Frag) (C : Addr) (H : Hp) (h : Addr) (st : HS) (ad : HA) : Prop where
  at_ : H h = some (.ins C ad.dx [("own_name", .str st.nm), ("linked", .ref ad.Lk), ("logged", .ref ad.Ll), ("joined", ad.jv), ("stage", .str st.sg), ("queued", .ref ad.Lq), ("finished", .ref ad.La)])
  lk : H ad.Lk = some (.lst (st.lk.map V.str))
  lg : ∃ vs, H ad.Ll = some (.lst vs) ∧ Dns K (fz H) vs st.lg
  jn : Jnd (fz H) ad.jv st.jn
  qu : ∃ vs, H ad.Lq = some (.lst vs) ∧ Dns K (fz H) vs st.qu
  an : ∃ vs, H ad.La = some (.lst vs) ∧ Dns K (fz H) vs st.an
  sep : ad.Lk ≠ ad.Ll ∧ ad.Lk ≠ ad.Lq ∧ ad.Lk ≠ ad.La ∧ ad.Ll ≠ ad.Lq ∧ ad.Ll ≠ ad.La ∧ ad.Lq ≠ ad.La
structure Ch (K : PySem.W.Frag) (C : Addr) : Prop where
  cl : Cls K C
  n1 : PySem.W.findIn K (.ref C) "own_name" = some none
  n2 : PySem.W.findIn K (.ref C) "linked" = some none
  n3 : PySem.W.findIn K (.ref C) "logged" = some none
  n4 : PySem.W.findIn K (.ref C) "joined" = some none
  n5 : PySem.W.findIn K (.ref C) "stage" = some none
  n6 : PySem.W.findIn K (.ref C) "queued" = some none
  n7 : PySem.W.findIn K (.ref C) "finished" = some none
theorem Jnd.same {H H' : Hp} {v : V} {j : Option (List Str × Nat)} (h : Jnd H v j) (s : Same H H') : Jnd H' v j := by
  match j, h with
  | none, h => exact h
  | some (xs, c), ⟨t, pa, e, a, b⟩ => exact ⟨t, pa, e, a.same s, b.same s⟩
theorem Hst.same {K : PySem.W.Frag} {C : Addr} {H H' : Hp} {h : Addr} {st : HS} {ad : HA} (x : Hst K C H h st ad) (s : Same H H') : Hst K C H' h st ad := by
  obtain ⟨v1, a1, b1⟩ := x.lg
  obtain ⟨v2, a2, b2⟩ := x.qu
  obtain ⟨v3, a3, b3⟩ := x.an
  have f := fz_keep (FzK.of s)
  exact ⟨s _ _ x.at_, s _ _ x.lk, ⟨v1, s _ _ a1, b1.same f⟩, x.jn.same f, ⟨v2, s _ _ a2, b2.same f⟩, ⟨v3, s _ _ a3, b3.same f⟩, x.sep⟩
section
variable {P : Program} {w : World} {K : PySem.W.Frag} {mg : Str → Option Value} {base : Heap} {H : Hp} {C : Addr}
/-- all but one address stands -/
def Off (h : Addr) (H H' : Hp) : Prop := ∀ x o, H x = some o → x ≠ h → H' x = some o
theorem sq_off {h a dx : Addr} {H H' : Hp} {fs : List (Str × V)} {xs : List V} (s : SqL K H a xs) (hh : H h = some (.ins C dx fs)) (o : Off h H H') : SqL K H' a xs := by
  rcases s with (s | ⟨u, s⟩) | s
  · exact .inl (.inl (o _ _ s (ne_of s hh (fun z => nomatch z))))
  · exact .inl (.inr ⟨u, o _ _ s (ne_of s hh (fun z => nomatch z))⟩)
  · exact .inr s
theorem st_off {h a dx : Addr} {H H' : Hp} {fs : List (Str × V)} {xs : List V} (s : SqT K H a xs) (hh : H h = some (.ins C dx fs)) (o : Off h H H') : SqT K H' a xs := by
  rcases s with (s | ⟨u, s⟩) | s
  · exact .inl (.inl (o _ _ s (ne_of s hh (fun z => nomatch z))))
  · exact .inl (.inr ⟨u, o _ _ s (ne_of s hh (fun z => nomatch z))⟩)
  · exact .inr s
theorem Off.refl (h : Addr) (H : Hp) : Off h H H := fun _ _ e _ => e
theorem Off.upd {h : Addr} {H H' : Hp} {u : HO} (o : Off h H H') : Off h H (L2.upd H' h u) := fun x v e n => by
  rw [upd_ne n]
  exact o x v e n
theorem Off.new {h l : Addr} {H H' : Hp} {u : HO} (o : Off h H H') (n : H' l = none) : Off h H (L2.upd H' l u) := fun x v e nx => by
  rw [upd_ne (ne_of_none (o x v e nx) n)]
  exact o x v e nx
theorem Off.none {h l dx : Addr} {H H' : Hp} {fs' : List (Str × V)} (o : Off h H H') (h1 : H' h = some (.ins C dx fs')) (n : H' l = none) : H l = none := by
  cases z : H l with
  | none => rfl
  | some u =>
    have ne : l ≠ h := fun e => by rw [e, h1] at n; cases n
    rw [o _ _ z ne] at n
    cases n
theorem FzK.off {h dx : Addr} {H H' : Hp} {fs : List (Str × V)} (hh : H h = some (.ins C dx fs)) (o : Off h H H') : FzK H H' := fun b ob u e => o b _ e (ne_of e hh (fun z => nomatch z))
def spHInit (K : PySem.W.Frag) (C : Addr) : Sp := fun vs H Q _ => ∃ (h l g dx : Addr) (nm : Str) (xs : List Str) (us : List V) (lg : List PyData), vs = [.ref h, .str nm, .ref l, .ref g] ∧ H h = some (.ins C dx []) ∧ (SqL K H l (xs.map V.str) ∨ SqT K H l (xs.map V.str)) ∧ xs.length < 64 ∧ SqL K H g us ∧ Dns K (fz H) us lg ∧
  ∀ H' ad ys, Off h H H' → FzK H H' → Hst K C H' h ⟨nm, ys, lg, none, "free", [], []⟩ ad → sortedS ys = true → ys.Nodup → (∀ x, x ∈ ys ↔ x ∈ xs) → H ad.Lk = none → H ad.Ll = none → H ad.Lq = none → H ad.La = none → Q .non H'
theorem ok_hinit {f : Addr} {fd : FuncData} (F : Fun K "__init__" "Host.__init__" m_init f fd) (Y : Bn mg) (T : Ch K C) : FnOk P w K mg base CX0 1 f fd ["self", "name", "links", "log"] (spHInit K C) := by
  refine F.ok scm_init (fun vs H Q E h => ?_) (fun cdv A outer s H vs Q E hr h => ?_)
  · obtain ⟨h, l, g, dx, nm, xs, us, lg, rfl, _⟩ := h
    rfl
  · obtain ⟨h, l, g, dx, nm, xs, us, lg, rfl, hh, sq, few, hg, dg, q⟩ := h
    refine ⟨_, (pss_cons (ps_fld (pv 0) (pv 1) rfl)
 (pss_cons (ps_fld (pv 0) (pe_srtSet (by rfl) Y.sorted (by rfl) Y.set (pv 2)) rfl)
 (pss_cons (ps_fld (pv 0) (pe_callTy call_list_of (by rfl) Y.list (by decide +kernel) (pa_cons (pv 3) pa_nil)) rfl)
 (pss_cons (ps_fld (pv 0) pe_non rfl)
 (pss_cons (ps_fld (pv 0) pe_str rfl)
 (pss_cons (ps_fld (pv 0) (pe_lst pa_nil) rfl)
 (pss_one (ps_fld (pv 0) (pe_lst pa_nil) rfl)))))))), ?_⟩
    refine ⟨_, rfl, _, rfl, h, C, dx, [], rfl, hh, T.cl, T.n1, by decide, ?_⟩
    have o1 : Off h H (upd H h (.ins C dx [("own_name", .str nm)])) := (Off.refl h H).upd
    have g1 : (upd H h (.ins C dx [("own_name", .str nm)])) h = some (.ins C dx [("own_name", .str nm)]) := upd_same
    show tSeq _ _ _ _ (upd H h (.ins C dx [("own_name", .str nm)]))
    generalize upd H h (.ins C dx [("own_name", .str nm)]) = H1 at o1 g1 ⊢
    refine ⟨_, rfl, l, xs, rfl, sq.imp (fun z => sq_off z hh o1) (fun z => st_off z hh o1), few, fun ys Lk srt nd mem nk => ?_⟩
    have o2 := o1.new (u := .lst (ys.map V.str)) nk
    have g2 : (upd H1 Lk (.lst (ys.map V.str))) h = some (.ins C dx [("own_name", .str nm)]) := same_upd nk _ _ g1
    have k2 : (upd H1 Lk (.lst (ys.map V.str))) Lk = some (.lst (ys.map V.str)) := upd_same
    have nk0 := o1.none g1 nk
    generalize upd H1 Lk (.lst (ys.map V.str)) = H2 at o2 g2 k2 ⊢
    refine ⟨_, rfl, h, C, dx, _, rfl, g2, T.cl, T.n2, (by show 1 < 1000; decide), ?_⟩
    show tSeq _ _ _ _ (upd H2 h (.ins C dx [("own_name", .str nm), ("linked", .ref Lk)]))
    have hk : Lk ≠ h := ne_of k2 g2 (fun z => nomatch z)
    have o3 := o2.upd (u := .ins C dx [("own_name", .str nm), ("linked", .ref Lk)])
    have g3 : (upd H2 h (.ins C dx [("own_name", .str nm), ("linked", .ref Lk)])) h = _ := upd_same
    have k3 := (upd_ne (H := H2) (o := .ins C dx [("own_name", .str nm), ("linked", .ref Lk)]) hk).trans k2
    generalize upd H2 h (.ins C dx [("own_name", .str nm), ("linked", .ref Lk)]) = H3 at o3 g3 k3 ⊢
    refine ⟨_, rfl, g, us, rfl, .inl (sq_off hg hh o3), fun Ll nl => ?_⟩
    have nl0 := o3.none g3 nl
    have o4 := o3.new (u := .lst us) nl
    have s4 := same_upd (o := .lst us) nl
    have g4 := s4 _ _ g3
    have k4 := s4 _ _ k3
    have l4 : (upd H3 Ll (.lst us)) Ll = some (.lst us) := upd_same
    generalize upd H3 Ll (.lst us) = H4 at o4 g4 k4 l4 ⊢
    refine ⟨_, rfl, h, C, dx, _, rfl, g4, T.cl, T.n3, (by show 2 < 1000; decide), ?_⟩
    show tSeq _ _ _ _ (upd H4 h (.ins C dx [("own_name", .str nm), ("linked", .ref Lk), ("logged", .ref Ll)]))
    have hl : Ll ≠ h := ne_of l4 g4 (fun z => nomatch z)
    refine ⟨_, rfl, h, C, dx, _, rfl, upd_same, T.cl, T.n4, (by show 3 < 1000; decide), ?_⟩
    rw [upd_upd]
    refine ⟨_, rfl, h, C, dx, _, rfl, upd_same, T.cl, T.n5, (by show 4 < 1000; decide), ?_⟩
    rw [upd_upd]
    show tSeq _ _ _ _ (upd H4 h (.ins C dx [("own_name", .str nm), ("linked", .ref Lk), ("logged", .ref Ll), ("joined", .non), ("stage", .str "free")]))
    have o5 := o4.upd (u := .ins C dx [("own_name", .str nm), ("linked", .ref Lk), ("logged", .ref Ll), ("joined", .non), ("stage", .str "free")])
    have g5 : (upd H4 h (.ins C dx [("own_name", .str nm), ("linked", .ref Lk), ("logged", .ref Ll), ("joined", .non), ("stage", .str "free")])) h = _ := upd_same
    have k5 := (upd_ne (H := H4) (o := .ins C dx [("own_name", .str nm), ("linked", .ref Lk), ("logged", .ref Ll), ("joined", .non), ("stage", .str "free")]) hk).trans k4
    have l5 := (upd_ne (H := H4) (o := .ins C dx [("own_name", .str nm), ("linked", .ref Lk), ("logged", .ref Ll), ("joined", .non), ("stage", .str "free")]) hl).trans l4
    generalize upd H4 h (.ins C dx [("own_name", .str nm), ("linked", .ref Lk), ("logged", .ref Ll), ("joined", .non), ("stage", .str "free")]) = H5 at o5 g5 k5 l5 ⊢
    refine ⟨Nat.zero_le _, fun Lq nq => ?_⟩
    have nq0 := o5.none g5 nq
    have s6 := same_upd (o := .lst []) nq
    have o6 := o5.new (u := .lst []) nq
    have g6 := s6 _ _ g5
    have k6 := s6 _ _ k5
    have l6 := s6 _ _ l5
    have q6 : (upd H5 Lq (.lst [])) Lq = some (.lst []) := upd_same
    generalize upd H5 Lq (.lst []) = H6 at o6 g6 k6 l6 q6 ⊢
    refine ⟨_, rfl, h, C, dx, _, rfl, g6, T.cl, T.n6, (by show 5 < 1000; decide), ?_⟩
    dsimp only
    rw [show putF "queued" (V.ref Lq) [("own_name", V.str nm), ("linked", .ref Lk), ("logged", .ref Ll), ("joined", .non), ("stage", .str "free")] = ([("own_name", .str nm), ("linked", .ref Lk), ("logged", .ref Ll), ("joined", .non), ("stage", .str "free"), ("queued", .ref Lq)] : List (Str × V)) from rfl]
    have hq : Lq ≠ h := ne_of q6 g6 (fun z => nomatch z)
    have o7 := o6.upd (u := .ins C dx [("own_name", .str nm), ("linked", .ref Lk), ("logged", .ref Ll), ("joined", .non), ("stage", .str "free"), ("queued", .ref Lq)])
    have g7 : (upd H6 h (.ins C dx [("own_name", .str nm), ("linked", .ref Lk), ("logged", .ref Ll), ("joined", .non), ("stage", .str "free"), ("queued", .ref Lq)])) h = _ := upd_same
    have k7 := (upd_ne (H := H6) (o := .ins C dx [("own_name", .str nm), ("linked", .ref Lk), ("logged", .ref Ll), ("joined", .non), ("stage", .str "free"), ("queued", .ref Lq)]) hk).trans k6
    have l7 := (upd_ne (H := H6) (o := .ins C dx [("own_name", .str nm), ("linked", .ref Lk), ("logged", .ref Ll), ("joined", .non), ("stage", .str "free"), ("queued", .ref Lq)]) hl).trans l6
    have q7 := (upd_ne (H := H6) (o := .ins C dx [("own_name", .str nm), ("linked", .ref Lk), ("logged", .ref Ll), ("joined", .non), ("stage", .str "free"), ("queued", .ref Lq)]) hq).trans q6
    generalize upd H6 h (.ins C dx [("own_name", .str nm), ("linked", .ref Lk), ("logged", .ref Ll), ("joined", .non), ("stage", .str "free"), ("queued", .ref Lq)]) = H7 at o7 g7 k7 l7 q7 ⊢
    refine ⟨Nat.zero_le _, fun La na => ?_⟩
    have na0 := o7.none g7 na
    have s8 := same_upd (o := .lst []) na
    have o8 := o7.new (u := .lst []) na
    have g8 := s8 _ _ g7
    have k8 := s8 _ _ k7
    have l8 := s8 _ _ l7
    have q8 := s8 _ _ q7
    have a8 : (upd H7 La (.lst [])) La = some (.lst []) := upd_same
    generalize upd H7 La (.lst []) = H8 at o8 g8 k8 l8 q8 a8 ⊢
    refine ⟨_, rfl, h, C, dx, _, rfl, g8, T.cl, T.n7, (by show 6 < 1000; decide), ?_⟩
    have ha : La ≠ h := ne_of a8 g8 (fun z => nomatch z)
    show Q .non (upd H8 h (.ins C dx [("own_name", .str nm), ("linked", .ref Lk), ("logged", .ref Ll), ("joined", .non), ("stage", .str "free"), ("queued", .ref Lq), ("finished", .ref La)]))
    have o9 := o8.upd (u := .ins C dx [("own_name", .str nm), ("linked", .ref Lk), ("logged", .ref Ll), ("joined", .non), ("stage", .str "free"), ("queued", .ref Lq), ("finished", .ref La)])
    have fk := FzK.off hh o9
    refine q _ ⟨Lk, Ll, Lq, La, .non, dx⟩ ys o9 fk ⟨upd_same, (upd_ne hk).trans k8, ⟨us, (upd_ne hl).trans l8, dg.same (fz_keep fk)⟩, rfl, ⟨[], (upd_ne hq).trans q8, .nil⟩, ⟨[], (upd_ne ha).trans a8, .nil⟩, ⟨ne_of_none k3 nl, ne_of_none k5 nq, ne_of_none k7 na, ne_of_none l5 nq, ne_of_none l7 na, ne_of_none q7 na⟩⟩ srt nd mem nk0 nl0 nq0 na0
end
end My

namespace My
open PySem PySem.Spec PyProof.Rows L2
/-! ### a list of texts has one sorted arrangement -/
def leS (a b : Str) : Prop := a.cps.toList ≤ b.cps.toList
theorem leS_of {a b : Str} (h : ltCps b.cps.toList a.cps.toList = false) : leS a b := by
  rw [ltCps_eq] at h
  exact List.not_lt.mp (of_decide_eq_false h)
theorem rise_all : ∀ {r : List Str} {p : Str}, risingS p r = true → (∀ x ∈ r, leS p x) ∧ r.Pairwise leS
  | [], _, _ => ⟨fun _ z => (nomatch z), List.Pairwise.nil⟩
  | x :: r, p, h => by
    have h2 : (!ltCps x.cps.toList p.cps.toList) = true ∧ risingS x r = true := by simpa only [risingS, Bool.and_eq_true] using h
    obtain ⟨a, b⟩ := rise_all h2.2
    have px : leS p x := leS_of (by simpa using h2.1)
    refine ⟨fun y hy => ?_, List.Pairwise.cons a b⟩
    rcases List.mem_cons.mp hy with rfl | hy
    · exact px
    · exact List.le_trans px (a y hy)
theorem sorted_pw {ys : List Str} (h : sortedS ys = true) : ys.Pairwise leS := by
  cases ys with
  | nil => exact List.Pairwise.nil
  | cons x r =>
    obtain ⟨a, b⟩ := rise_all (show risingS x r = true from h)
    exact List.Pairwise.cons a b
theorem leS_anti {a b : Str} (h1 : leS a b) (h2 : leS b a) : a = b := by
  have e := List.le_antisymm h1 h2
  cases a with
  | mk ca =>
    cases b with
    | mk cb =>
      have e' : ca.toList = cb.toList := e
      rw [Array.toList_inj.mp e']
theorem sort_one : ∀ {ys zs : List Str}, ys.Perm zs → ys.Pairwise leS → zs.Pairwise leS → ys = zs
  | [], zs, p, _, _ => (List.Perm.eq_nil p.symm).symm
  | y :: ys, [], p, _, _ => absurd (List.Perm.eq_nil p) (by simp)
  | y :: ys, z :: zs, p, h1, h2 => by
    have e : y = z := by
      have m1 : y ∈ z :: zs := p.mem_iff.mp List.mem_cons_self
      have m2 : z ∈ y :: ys := p.mem_iff.mpr List.mem_cons_self
      rcases List.mem_cons.mp m1 with e | m1
      · exact e
      · rcases List.mem_cons.mp m2 with e | m2
        · exact e.symm
        · exact leS_anti ((List.pairwise_cons.mp h1).1 z m2) ((List.pairwise_cons.mp h2).1 y m1)
    subst e
    rw [sort_one (List.perm_cons y |>.mp p) (List.pairwise_cons.mp h1).2 (List.pairwise_cons.mp h2).2]
theorem sort_uniq {ys zs ls : List Str} (p1 : ys.Perm ls) (s1 : sortedS ys = true) (p2 : zs.Perm ls) (s2 : sortedS zs = true) : ys = zs := sort_one (p1.trans p2.symm) (sorted_pw s1) (sorted_pw s2)
end My

namespace My
open PySem PySem.Spec PyProof.Rows L2 Gy Xl Xs Xt Xo Xp
section
variable {P : Program} {w : World} {K : PySem.W.Frag} {mg : Str → Option Value} {base : Heap} {H : Hp} {C CB CL CT CN : Addr}
structure Fm (P : Program) (w : World) (K : PySem.W.Frag) (mg : Str → Option Value) (base : Heap) (CX : CXT) (k : Nat) (C : Addr) (nm : Str) (ps : List Str) (sp : Sp) : Prop where
  ex : ∃ (f : Addr) (fd : FuncData), Meth K C nm f ∧ Binds K fd ps [] ∧ FnOk P w K mg base CX k f fd ps sp
theorem same_no {H H' : Hp} {a : Addr} (s : Same H H') (n : H' a = none) : H a = none := by
  cases z : H a with
  | none => rfl
  | some o => rw [s _ _ z] at n; cases n
/-- what is told as it is -/
def spGet (K : PySem.W.Frag) (C : Addr) (v : HS → HA → V) : Sp := fun vs H Q _ => ∃ (h : Addr) (st : HS) (ad : HA), vs = [.ref h] ∧ Hst K C H h st ad ∧ Q (v st ad) H
/-- a copy of one of its lists -/
def spLst (K : PySem.W.Frag) (C : Addr) (l : HS → List PyData) : Sp := fun vs H Q _ => ∃ (h : Addr) (st : HS) (ad : HA), vs = [.ref h] ∧ Hst K C H h st ad ∧ ∀ H' L us, Same H H' → H L = none → H' L = some (.lst us) → Dns K (fz H') us (l st) → Q (.ref L) H'
theorem dns_strs' {K : PySem.W.Frag} {H : Hp} (xs : List Str) : Dns K H (xs.map V.str) (xs.map PyData.str) := dns_strs xs
theorem ok_name_ {f : Addr} {fd : FuncData} (F : Fun K "name" "Host.name" m_name f fd) (T : Ch K C) : FnOk P w K mg base CX0 1 f fd ["self"] (spGet K C fun st _ => .str st.nm) := by
  refine F.ok scm_name (fun vs H Q E h => ?_) (fun cdv A outer s H vs Q E hr h => ?_)
  · obtain ⟨h, st, ad, rfl, _⟩ := h
    rfl
  · obtain ⟨h, st, ad, rfl, x, q⟩ := h
    refine ⟨_, (pss_one (ps_ret (pe_fld (pv 0) rfl))), ?_⟩
    exact ⟨_, rfl, h, C, ad.dx, _, _, rfl, x.at_, T.cl, T.n1, rfl, q⟩
theorem ok_relink_ {f : Addr} {fd : FuncData} (F : Fun K "relink" "Host.relink" m_relink f fd) (T : Ch K C) : FnOk P w K mg base CX0 1 f fd ["self"] (spGet K C fun _ ad => ad.jv) := by
  refine F.ok scm_relink (fun vs H Q E h => ?_) (fun cdv A outer s H vs Q E hr h => ?_)
  · obtain ⟨h, st, ad, rfl, _⟩ := h
    rfl
  · obtain ⟨h, st, ad, rfl, x, q⟩ := h
    refine ⟨_, (pss_one (ps_ret (pe_fld (pv 0) rfl))), ?_⟩
    exact ⟨_, rfl, h, C, ad.dx, _, _, rfl, x.at_, T.cl, T.n4, rfl, q⟩
theorem ok_phase_ {f : Addr} {fd : FuncData} (F : Fun K "phase" "Host.phase" m_phase f fd) (T : Ch K C) : FnOk P w K mg base CX0 1 f fd ["self"] (spGet K C fun st _ => .str st.sg) := by
  refine F.ok scm_phase (fun vs H Q E h => ?_) (fun cdv A outer s H vs Q E hr h => ?_)
  · obtain ⟨h, st, ad, rfl, _⟩ := h
    rfl
  · obtain ⟨h, st, ad, rfl, x, q⟩ := h
    refine ⟨_, (pss_one (ps_ret (pe_fld (pv 0) rfl))), ?_⟩
    exact ⟨_, rfl, h, C, ad.dx, _, _, rfl, x.at_, T.cl, T.n5, rfl, q⟩
theorem ok_log_ {f : Addr} {fd : FuncData} (F : Fun K "log" "Host.log" m_log f fd) (Y : Bn mg) (T : Ch K C) : FnOk P w K mg base CX0 1 f fd ["self"] (spLst K C fun st => st.lg) := by
  refine F.ok scm_log (fun vs H Q E h => ?_) (fun cdv A outer s H vs Q E hr h => ?_)
  · obtain ⟨h, st, ad, rfl, _⟩ := h
    rfl
  · obtain ⟨h, st, ad, rfl, x, q⟩ := h
    refine ⟨_, (pss_one (ps_ret (pe_callTy call_list_of (by rfl) Y.list (by decide +kernel) (pa_cons (pe_fld (pv 0) rfl) pa_nil)))), ?_⟩
    obtain ⟨us, e, d⟩ := x.lg
    refine ⟨_, rfl, h, C, ad.dx, _, _, rfl, x.at_, T.cl, T.n3, rfl, ad.Ll, us, rfl, .inl (SqL.of e), fun L nL => ?_⟩
    exact q _ L us (same_upd nL) nL upd_same (d.same (fz_keep (FzK.of (same_upd nL))))
theorem ok_links_ {f : Addr} {fd : FuncData} (F : Fun K "links" "Host.links" m_links f fd) (Y : Bn mg) (T : Ch K C) : FnOk P w K mg base CX0 1 f fd ["self"] (spLst K C fun st => st.lk.map PyData.str) := by
  refine F.ok scm_links (fun vs H Q E h => ?_) (fun cdv A outer s H vs Q E hr h => ?_)
  · obtain ⟨h, st, ad, rfl, _⟩ := h
    rfl
  · obtain ⟨h, st, ad, rfl, x, q⟩ := h
    refine ⟨_, (pss_one (ps_ret (pe_callTy call_list_of (by rfl) Y.list (by decide +kernel) (pa_cons (pe_fld (pv 0) rfl) pa_nil)))), ?_⟩
    refine ⟨_, rfl, h, C, ad.dx, _, _, rfl, x.at_, T.cl, T.n2, rfl, ad.Lk, _, rfl, .inl (SqL.of x.lk), fun L nL => ?_⟩
    exact q _ L _ (same_upd nL) nL upd_same (dns_strs _)
theorem ok_answers_ {f : Addr} {fd : FuncData} (F : Fun K "answers" "Host.answers" m_answers f fd) (Y : Bn mg) (T : Ch K C) : FnOk P w K mg base CX0 1 f fd ["self"] (spLst K C fun st => st.an) := by
  refine F.ok scm_answers (fun vs H Q E h => ?_) (fun cdv A outer s H vs Q E hr h => ?_)
  · obtain ⟨h, st, ad, rfl, _⟩ := h
    rfl
  · obtain ⟨h, st, ad, rfl, x, q⟩ := h
    refine ⟨_, (pss_one (ps_ret (pe_callTy call_list_of (by rfl) Y.list (by decide +kernel) (pa_cons (pe_fld (pv 0) rfl) pa_nil)))), ?_⟩
    obtain ⟨us, e, d⟩ := x.an
    refine ⟨_, rfl, h, C, ad.dx, _, _, rfl, x.at_, T.cl, T.n7, rfl, ad.La, us, rfl, .inl (SqL.of e), fun L nL => ?_⟩
    exact q _ L us (same_upd nL) nL upd_same (d.same (fz_keep (FzK.of (same_upd nL))))
theorem ok_queue_ {f : Addr} {fd : FuncData} (F : Fun K "queue" "Host.queue" m_queue f fd) (Y : Bn mg) (T : Ch K C) : FnOk P w K mg base CX0 1 f fd ["self"] (spLst K C fun st => st.qu) := by
  refine F.ok scm_queue (fun vs H Q E h => ?_) (fun cdv A outer s H vs Q E hr h => ?_)
  · obtain ⟨h, st, ad, rfl, _⟩ := h
    rfl
  · obtain ⟨h, st, ad, rfl, x, q⟩ := h
    refine ⟨_, (pss_one (ps_ret (pe_callTy call_list_of (by rfl) Y.list (by decide +kernel) (pa_cons (pe_fld (pv 0) rfl) pa_nil)))), ?_⟩
    obtain ⟨us, e, d⟩ := x.qu
    refine ⟨_, rfl, h, C, ad.dx, _, _, rfl, x.at_, T.cl, T.n6, rfl, ad.Lq, us, rfl, .inl (SqL.of e), fun L nL => ?_⟩
    exact q _ L us (same_upd nL) nL upd_same (d.same (fz_keep (FzK.of (same_upd nL))))
/-- Busy, if it takes part -/
def spCF (K : PySem.W.Frag) (C CB : Addr) : Sp := fun vs H Q E => ∃ (h : Addr) (st : HS) (ad : HA), vs = [.ref h] ∧ Hst K C H h st ad ∧ (st.jn = none → Q .non H) ∧ (st.jn ≠ none → Ro E CB "host" (.str st.nm) H)
theorem ok_cf {f : Addr} {fd : FuncData} (F : Fun K "check_free" "Host.check_free" m_check_free f fd) (T : Ch K C) (R : Rz P w K mg base "Busy" "host" CB) : FnOk P w K mg base (L2.CX P w) 3 f fd ["self"] (spCF K C CB) := by
  obtain ⟨fI, fdI, XI, GI, bI⟩ := R.ex
  refine F.okX scm_check_free (fun vs H Q E h => ?_) (fun cdv A outer s H vs Q E hr h => ?_)
  · obtain ⟨h, st, ad, rfl, _⟩ := h
    rfl
  · obtain ⟨h, st, ad, rfl, x, q1, q2⟩ := h
    refine ⟨_, (pss_one (ps_if (pt_cmpR op_notN (pe_fld (pv 0) rfl) pe_non (nomark _))
 (pss_one (ps_raise1 rfl (takes_of rfl rfl rfl rfl) XI R.ty GI (hr.mono (by decide)) bI (by rfl) R.gm (pa_cons (pe_fld (pv 0) rfl) pa_nil)))
 pss_nil)), ?_⟩
    refine ⟨_, rfl, h, C, ad.dx, _, _, rfl, x.at_, T.cl, T.n4, rfl, ?_⟩
    refine ⟨rfl, _, rfl, ?_⟩
    dsimp only
    cases ej : st.jn with
    | none =>
      have e : ad.jv = .non := by
        have := x.jn
        rw [ej] at this
        exact this
      rw [e]
      exact q1 ej
    | some p =>
      have ne : ad.jv ≠ .non := fun z => by
        have := x.jn
        rw [ej, z] at this
        obtain ⟨xs, c⟩ := p
        obtain ⟨t, pa, e, _⟩ := this
        cases e
      rw [decide_eq_false ne]
      refine iteT ⟨_, rfl, h, C, ad.dx, _, _, rfl, x.at_, T.cl, T.n1, rfl, _, rfl, fun ex nd => ?_⟩
      exact q2 (fun z => nomatch (ej.symm.trans z)) _ ex (same_upd nd) upd_same
/-- leave: Busy, NotALeaf, or the message to the only link -/
def spLeave (K : PySem.W.Frag) (C CB CL : Addr) : Sp := fun vs H Q E => ∃ (h : Addr) (st : HS) (ad : HA), vs = [.ref h] ∧ Hst K C H h st ad ∧ st.lk.length < 64 ∧ (st.jn ≠ none → Ro E CB "host" (.str st.nm) H) ∧ (st.jn = none → st.lk.length ≠ 1 → Ro E CL "host" (.str st.nm) H) ∧
  (st.jn = none → ∀ x, st.lk = [x] → ∀ H' L t u, Same H H' → H L = none → H' L = some (.lst [.ref t]) → Tz H' t [.str x, .ref u] → Tz H' u [.str "bye"] → Q (.ref L) H')
theorem ok_leave {f : Addr} {fd : FuncData} (F : Fun K "leave" "Host.leave" m_leave f fd) (Y : Bn mg) (T : Ch K C) (R : Rz P w K mg base "NotALeaf" "host" CL) (M_check_free : Fm P w K mg base (L2.CX P w) 3 C "check_free" ["self"] (spCF K C CB)) : FnOk P w K mg base (L2.CX P w) 4 f fd ["self"] (spLeave K C CB CL) := by
  obtain ⟨fI, fdI, XI, GI, bI⟩ := R.ex
  obtain ⟨_, _, MM_check_free, MB_check_free, MF_check_free⟩ := M_check_free.ex
  refine F.okX scm_leave (fun vs H Q E h => ?_) (fun cdv A outer s H vs Q E hr h => ?_)
  · obtain ⟨h, st, ad, rfl, _⟩ := h
    rfl
  · obtain ⟨h, st, ad, rfl, x, few, q1, q2, q3⟩ := h
    refine ⟨_, (pss_cons (ps_expr (pe_meth0 (pv 0) T.cl MM_check_free MF_check_free (hr.mono (by decide)) MB_check_free .nil (passes_call (E := E) (takes_of rfl rfl rfl rfl) (fun _ _ _ _ h => h))))
 (pss_cons (ps_if (pt_cmpR op_ne (pe_callB call_len_seq (by rfl) Y.len PySem.boot_len (pa_cons (pe_fld (pv 0) rfl) pa_nil)) pe_int (nomark _))
 (pss_one (ps_raise1 rfl (takes_of rfl rfl rfl rfl) XI R.ty GI (hr.mono (by decide)) bI (by rfl) R.gm (pa_cons (pe_fld (pv 0) rfl) pa_nil)))
 pss_nil)
 (pss_one (ps_ret (pe_lst (pa_cons (pe_tupZ (pa_cons (pe_ix ix_list (pe_fld (pv 0) rfl) pe_int (fun _ _ => rfl)) (pa_cons (pe_tupZ (pa_cons pe_str pa_nil)) pa_nil))) pa_nil)))))), ?_⟩
    refine ⟨_, rfl, h, ad.dx, _, rfl, x.at_, (by rfl), h, st, ad, rfl, x, fun ej => ?_, q1⟩
    refine ⟨_, rfl, h, C, ad.dx, _, _, rfl, x.at_, T.cl, T.n2, rfl, ad.Lk, _, rfl, .inl (SqL.of x.lk), rfl, _, rfl, ?_⟩
    dsimp only
    rw [List.length_map]
    by_cases l1 : st.lk.length = 1
    · rw [l1]
      obtain ⟨y, ey⟩ : ∃ y, st.lk = [y] := by
        match st.lk, l1 with
        | [y], _ => exact ⟨y, rfl⟩
      have ek := x.lk
      rw [ey] at ek
      refine iteF ?_
      refine ⟨_, rfl, h, C, ad.dx, _, _, rfl, x.at_, T.cl, T.n2, rfl, ad.Lk, _, 0, .str y, rfl, rfl, SqL.of ek, (show atI [V.str y] ((0 : Nat) : Int) = some (.str y) from atI_nat rfl), (by show 1 ≤ sizeLine; decide), fun t1 o1 n1 s1 z1 => ?_⟩
      generalize upd H t1 o1 = H1 at s1 z1 ⊢
      refine ⟨(by show 2 ≤ sizeLine; decide), fun t2 o2 n2 s2 z2 => ?_⟩
      generalize upd H1 t2 o2 = H2 at s2 z2 ⊢
      refine ⟨(by show 1 ≤ sizeLine; decide), fun L nL => ?_⟩
      have s3 := same_upd (o := .lst [.ref t2]) nL
      exact q3 ej y ey _ L t2 t1 ((s1.trans s2).trans s3) (same_no (s1.trans s2) nL) upd_same (z2.same s3) ((z1.same s2).same s3)
    · have ne : V.int ((st.lk.length : Nat) : Int) ≠ V.int 1 := fun z => l1 (by
        injection z with z
        omega)
      rw [decide_eq_false ne]
      refine iteT ⟨_, rfl, h, C, ad.dx, _, _, rfl, x.at_, T.cl, T.n1, rfl, _, rfl, fun ex nd => ?_⟩
      exact q2 ej l1 _ ex (same_upd nd) upd_same
theorem Hst.keep {h : Addr} {st : HS} {ad : HA} {H' : Hp} (x : Hst K C H h st ad) (o : Off h H H') : H' ad.Lk = some (.lst (st.lk.map V.str)) ∧ (∃ vs, H' ad.Ll = some (.lst vs) ∧ Dns K (fz H') vs st.lg) ∧ Jnd (fz H') ad.jv st.jn ∧ (∃ vs, H' ad.Lq = some (.lst vs) ∧ Dns K (fz H') vs st.qu) ∧ (∃ vs, H' ad.La = some (.lst vs) ∧ Dns K (fz H') vs st.an) := by
  have fk := fz_keep (FzK.off x.at_ o)
  have nh : ∀ {a : Addr} {vs : List V}, H a = some (.lst vs) → H' a = some (.lst vs) := fun e => o _ _ e (ne_of e x.at_ (fun z => nomatch z))
  obtain ⟨v1, a1, b1⟩ := x.lg
  obtain ⟨v2, a2, b2⟩ := x.qu
  obtain ⟨v3, a3, b3⟩ := x.an
  exact ⟨nh x.lk, ⟨v1, nh a1, b1.same fk⟩, x.jn.same fk, ⟨v2, nh a2, b2.same fk⟩, ⟨v3, nh a3, b3.same fk⟩⟩
/-- the links with one more -/
def spJoin (K : PySem.W.Frag) (C : Addr) : Sp := fun vs H Q _ => ∃ (h : Addr) (o : Str) (st : HS) (ad : HA), vs = [.ref h, .str o] ∧ Hst K C H h st ad ∧ st.lk.length < 60 ∧ ∀ H' Lk' ys, Off h H H' → FzK H H' → H Lk' = none → Hst K C H' h { st with lk := ys } { ad with Lk := Lk' } → ys.Perm (st.lk ++ [o]) → sortedS ys = true → Q .non H'
theorem ok_join {f : Addr} {fd : FuncData} (F : Fun K "join_to" "Host.join_to" m_join_to f fd) (Y : Bn mg) (T : Ch K C) : FnOk P w K mg base CX0 1 f fd ["self", "other"] (spJoin K C) := by
  refine F.ok scm_join_to (fun vs H Q E h => ?_) (fun cdv A outer s H vs Q E hr h => ?_)
  · obtain ⟨h, o, st, ad, rfl, _⟩ := h
    rfl
  · obtain ⟨h, o, st, ad, rfl, x, few, q⟩ := h
    refine ⟨_, (pss_one (ps_fld (pv 0) (pe_callB cr_sortedS (by rfl) Y.sorted (by decide +kernel) (pa_cons (pe_lst (StX.pa_star (pe_fld (pv 0) rfl) (pa_cons (pv 1) pa_nil))) pa_nil)) rfl)), ?_⟩
    have lk1 : (st.lk ++ [o]).map V.str = st.lk.map V.str ++ [.str o] := by rw [List.map_append]; rfl
    refine ⟨_, rfl, h, C, ad.dx, _, _, rfl, x.at_, T.cl, T.n2, rfl, ad.Lk, _, rfl, .inr (SqL.of x.lk), _, rfl, ?_, fun l nl => ?_⟩
    · rw [List.length_append, List.length_map]
      exact le400 (by show st.lk.length + 1 ≤ 10000; omega)
    have s1 := same_upd (o := .lst (st.lk.map V.str ++ [.str o])) nl
    have g1 : (upd H l (.lst (st.lk.map V.str ++ [.str o]))) l = _ := upd_same
    generalize upd H l (.lst (st.lk.map V.str ++ [.str o])) = H1 at s1 g1 ⊢
    refine ⟨l, st.lk ++ [o], rfl, SqL.of (by rw [lk1]; exact g1), (by rw [List.length_append, List.length_cons, List.length_nil]; omega), fun ys p pm srt np => ?_⟩
    have s2 := same_upd (o := .lst (ys.map V.str)) np
    have g2 : (upd H1 p (.lst (ys.map V.str))) p = _ := upd_same
    generalize upd H1 p (.lst (ys.map V.str)) = H2 at s2 g2 ⊢
    have s02 := s1.trans s2
    have at2 := s02 _ _ x.at_
    refine ⟨_, rfl, h, C, ad.dx, _, rfl, at2, T.cl, T.n2, (by show 7 < 1000; decide), ?_⟩
    have ph : p ≠ h := ne_of g2 at2 (fun z => nomatch z)
    have of : Off h H (upd H2 h (.ins C ad.dx (putF "linked" (.ref p) [("own_name", .str st.nm), ("linked", .ref ad.Lk), ("logged", .ref ad.Ll), ("joined", ad.jv), ("stage", .str st.sg), ("queued", .ref ad.Lq), ("finished", .ref ad.La)]))) := fun b u e n => by
      rw [upd_ne n]
      exact s02 b u e
    have fk := FzK.off x.at_ of
    obtain ⟨k1, k2, k3, k4, k5⟩ := x.keep of
    obtain ⟨_, el, _⟩ := x.lg
    obtain ⟨_, eq, _⟩ := x.qu
    obtain ⟨_, ea, _⟩ := x.an
    exact q _ p ys of fk (same_no s1 np) ⟨upd_same, (upd_ne ph).trans g2, k2, k3, k4, k5, (ne_of_none (s1 _ _ el) np).symm, (ne_of_none (s1 _ _ eq) np).symm, (ne_of_none (s1 _ _ ea) np).symm, x.sep.2.2.2⟩ pm srt
theorem text_str' {v : V} {cs : Str} {n : Int} (h : textOf v cs n = true) : ∃ x, v = .str x := by
  cases v with
  | str x => exact ⟨x, rfl⟩
  | _ => cases h
theorem txt_nm {v : V} (h : textOf v LET 8 = true) : ∃ x, v = .str x ∧ Nm x := by
  obtain ⟨x, rfl⟩ := text_str' h
  have h : (decide ((1 : Int) ≤ (x.length : Int)) && decide ((x.length : Int) ≤ 8) && x.cps.toList.all fun c => decide (c ∈ LET.cps.toList)) = true := h
  rw [Bool.and_eq_true, Bool.and_eq_true, decide_eq_true_eq, decide_eq_true_eq, List.all_eq_true] at h
  exact ⟨x, rfl, by omega, by omega, fun c hc => of_decide_eq_true (h.2 c hc)⟩
theorem nm_txt {x : Str} (h : Nm x) : textOf (.str x) LET 8 = true := by
  show (decide ((1 : Int) ≤ (x.length : Int)) && decide ((x.length : Int) ≤ 8) && x.cps.toList.all fun c => decide (c ∈ LET.cps.toList)) = true
  rw [Bool.and_eq_true, Bool.and_eq_true, decide_eq_true_eq, decide_eq_true_eq, List.all_eq_true]
  have := h.1
  have := h.2.1
  exact ⟨⟨by omega, by omega⟩, fun c hc => decide_eq_true (h.2.2 c hc)⟩
/-- a link to a new leaf: InvalidName, NameTaken, or one link more -/
def spAddL (K : PySem.W.Frag) (C CN CT : Addr) : Sp := fun vs H Q E => ∃ (h : Addr) (v : V) (st : HS) (ad : HA), vs = [.ref h, v] ∧ Kd K H v ∧ Hst K C H h st ad ∧ st.lk.length < 60 ∧ (textOf v LET 8 = false → Ro E CN "value" v H) ∧
  ∀ o, v = .str o → Nm o → ((o = st.nm ∨ o ∈ st.lk) → Ro E CT "value" v H) ∧ (¬ (o = st.nm ∨ o ∈ st.lk) → ∀ H' Lk' ys, Off h H H' → FzK H H' → H Lk' = none → Hst K C H' h { st with lk := ys } { ad with Lk := Lk' } → ys.Perm (st.lk ++ [o]) → sortedS ys = true → Q .non H')
theorem ok_addl {f : Addr} {fd : FuncData} (F : Fun K "add_link" "Host.add_link" m_add_link f fd) (Y : Bn mg) (T : Ch K C) (R : Rz P w K mg base "InvalidName" "value" CN) (R2 : Rz P w K mg base "NameTaken" "value" CT) (G_is_host_name : Fk P w K mg base CX0 2 "is_host_name" ["value"] (spHost K))
    (M_join_to : Fm P w K mg base CX0 1 C "join_to" ["self", "other"] (spJoin K C)) : FnOk P w K mg base (L2.CX P w) 3 f fd ["self", "other"] (spAddL K C CN CT) := by
  obtain ⟨fI, fdI, XI, GI, bI⟩ := R.ex
  obtain ⟨fI2, fdI2, XI2, GI2, bI2⟩ := R2.ex
  obtain ⟨_, _, MM_join_to, MB_join_to, MF_join_to⟩ := M_join_to.ex
  refine F.okX scm_add_link (fun vs H Q E h => ?_) (fun cdv A outer s H vs Q E hr h => ?_)
  · obtain ⟨h, v, st, ad, rfl, _⟩ := h
    rfl
  · obtain ⟨h, v, st, ad, rfl, kd, x, few, q1, q2⟩ := h
    refine ⟨_, (pss_cons (ps_if (pt_not (pt_val (pe_callF G_is_host_name (hr.mono (by decide)) (by rfl) pass0 (pa_cons (pv 1) pa_nil))))
 (pss_one (ps_raise1 rfl (takes_of rfl rfl rfl rfl) XI R.ty GI (hr.mono (by decide)) bI (by rfl) R.gm (pa_cons (pv 1) pa_nil)))
 pss_nil)
 (pss_cons (ps_if (PW.pt (pw_or (pt_cmpR op_eq (pv 1) (pe_fld (pv 0) rfl) (nomark _)) (pw_or1 (pt_cmpR op_in_seq (pv 1) (pe_fld (pv 0) rfl) rfl))))
 (pss_one (ps_raise1 rfl (takes_of rfl rfl rfl rfl) XI2 R2.ty GI2 (hr.mono (by decide)) bI2 (by rfl) R2.gm (pa_cons (pv 1) pa_nil)))
 pss_nil)
 (pss_one (ps_expr (pe_meth (pv 0) T.cl MM_join_to MF_join_to (hr.mono (by decide)) MB_join_to .nil pass0 (pa_cons (pv 1) pa_nil)))))), ?_⟩
    refine ⟨_, rfl, v, rfl, kd, fun H1 s1 => ⟨_, rfl, ?_⟩⟩
    cases t1 : textOf v LET 8 with
    | false => exact iteT ⟨_, rfl, _, rfl, fun ex nd => q1 t1 _ ex (s1.trans (same_upd nd)) upd_same⟩
    | true =>
    obtain ⟨o, rfl, no⟩ := txt_nm t1
    obtain ⟨q3, q4⟩ := q2 o rfl no
    have x1 := x.same s1
    refine iteF ?_
    refine ⟨_, rfl, _, rfl, h, C, ad.dx, _, _, rfl, x1.at_, T.cl, T.n1, rfl, rfl, _, rfl, ?_⟩
    by_cases e : o = st.nm
    · rw [decide_eq_true (show V.str o = V.str st.nm by rw [e])]
      exact iteT (iteT ⟨_, rfl, _, rfl, fun ex nd => q3 (.inl e) _ ex (s1.trans (same_upd nd)) upd_same⟩)
    rw [decide_eq_false (show ¬ V.str o = V.str st.nm from fun z => e (by injection z))]
    refine iteF ⟨_, rfl, _, rfl, h, C, ad.dx, _, _, rfl, x1.at_, T.cl, T.n2, rfl, ad.Lk, _, rfl, .inl (SqL.of x1.lk), rfl, flat_strs _, _, rfl, ?_⟩
    rw [if_neg (by decide : ¬ false = true), inV_strs]
    by_cases m : o ∈ st.lk
    · rw [decide_eq_true m]
      exact iteT ⟨_, rfl, _, rfl, fun ex nd => q3 (.inr m) _ ex (s1.trans (same_upd nd)) upd_same⟩
    · rw [decide_eq_false m]
      refine iteF ?_
      refine ⟨_, rfl, h, ad.dx, _, rfl, x1.at_, (by rfl), _, rfl, h, o, st, ad, rfl, x1, few, fun H2 Lk' ys off fk nk hx pm srt => ?_⟩
      exact q4 (fun z => z.elim e m) H2 Lk' ys (fun b u eb n => off _ _ (s1 b u eb) n) ((FzK.of s1).trans fk) (same_no s1 nk) hx pm srt
/-- how a host is made -/
structure MkH (P : Program) (w : World) (K : PySem.W.Frag) (mg : Str → Option Value) (base : Heap) (C : Addr) : Prop where
  gm : mg "Host" = some (.ref C)
  ex : ∃ (fI : Addr) (fd : FuncData) (g : List Value → List Value → List Value), Mk K C fI ∧ KBn K fd ["self", "name", "links", "log"] 2 ["links", "log"] g (fun vs zs => vs ++ zs) ∧ FnOk P w K mg base CX0 1 fI fd ["self", "name", "links", "log"] (spHInit K C)
theorem off_same {h : Addr} {H H1 H2 : Hp} (s : Same H H1) (n : H h = none) (o : Off h H1 H2) : Same H H2 := fun b u e => o _ _ (s b u e) (ne_of_none e n)
def spCopied (K : PySem.W.Frag) (C : Addr) : Sp := fun vs H Q _ => ∃ (h : Addr) (st : HS) (ad : HA), vs = [.ref h] ∧ Hst K C H h st ad ∧ st.lk.length < 60 ∧ sortedS st.lk = true ∧ st.lk.Nodup ∧ ∀ H' h2 ad2, Same H H' → H h2 = none → Hst K C H' h2 st ad2 → Q (.ref h2) H'
theorem ok_copied {f : Addr} {fd : FuncData} (F : Fun K "copied" "Host.copied" m_copied f fd) (Y : Bn mg) (T : Ch K C) (MI : MkH P w K mg base C) : FnOk P w K mg base CX0 3 f fd ["self"] (spCopied K C) := by
  obtain ⟨fI, fdI, gI, MMk, KBI, FI⟩ := MI.ex
  have gT := MI.gm
  refine F.ok scm_copied (fun vs H Q E h => ?_) (fun cdv A outer s H vs Q E hr h => ?_)
  · obtain ⟨h, st, ad, rfl, _⟩ := h
    rfl
  · obtain ⟨h, st, ad, rfl, x, few, srt, nd, q⟩ := h
    refine ⟨_, (pss_cons (ps_set (i := 1) scm_copied.nd rfl (.inl rfl) (pe_makeK (n := 1) MMk FI (hr.mono (by decide)) (by rfl) gT KBI pass0 (pa_cons (pe_fld (pv 0) rfl) pa_nil) (pk_cons (pe_fld (pv 0) rfl) (pk_cons (pe_fld (pv 0) rfl) pk_nil))))
 (pss_cons (ps_fld (pv 1) (pe_fld (pv 0) rfl) rfl)
 (pss_cons (ps_fld (pv 1) (pe_fld (pv 0) rfl) rfl)
 (pss_cons (ps_fld (pv 1) (pe_callTy call_list_of (by rfl) Y.list (by decide +kernel) (pa_cons (pe_fld (pv 0) rfl) pa_nil)) rfl)
 (pss_cons (ps_fld (pv 1) (pe_callTy call_list_of (by rfl) Y.list (by decide +kernel) (pa_cons (pe_fld (pv 0) rfl) pa_nil)) rfl)
 (pss_one (ps_ret (pv 1)))))))), ?_⟩
    obtain ⟨us, el, dl⟩ := x.lg
    obtain ⟨u2, eq, dq⟩ := x.qu
    obtain ⟨u3, ea, da⟩ := x.an
    refine ⟨_, rfl, h, C, ad.dx, _, _, rfl, x.at_, T.cl, T.n1, rfl, _, rfl, h, C, ad.dx, _, _, rfl, x.at_, T.cl, T.n2, rfl, _, rfl, h, C, ad.dx, _, _, rfl, x.at_, T.cl, T.n3, rfl, rfl, rfl, fun p dx np ndx nex => ?_⟩
    have s1 : Same H (upd (upd H dx (.own p)) p (.ins C dx [])) := same_upd2 (same_upd ndx) np
    have g1 : (upd (upd H dx (.own p)) p (.ins C dx [])) p = some (.ins C dx []) := upd_same
    generalize upd (upd H dx (.own p)) p (.ins C dx []) = H1 at s1 g1 ⊢
    refine ⟨p, ad.Lk, ad.Ll, dx, st.nm, st.lk, us, st.lg, rfl, g1, .inl (SqL.of (s1 _ _ x.lk)), by omega, SqL.of (s1 _ _ el), dl.same (fz_keep (FzK.of s1)), fun H2 ad2 ys off fk hx srt2 nd2 mem nk nl nq na => ⟨rfl, ?_⟩⟩
    have ey : ys = st.lk := sort_uniq ((List.perm_ext_iff_of_nodup nd2 nd).mpr mem) srt2 (List.Perm.refl _) srt
    subst ey
    have s2 := off_same s1 np off
    have x2 := x.same s2
    have a2 := hx.at_
    -- joined, stage
    refine ⟨_, rfl, h, C, ad.dx, _, _, rfl, x2.at_, T.cl, T.n4, rfl, _, rfl, p, C, ad2.dx, _, rfl, a2, T.cl, T.n4, (by show 7 < 1000; decide), ?_⟩
    show tSeq _ _ _ _ (upd H2 p (.ins C ad2.dx [("own_name", .str st.nm), ("linked", .ref ad2.Lk), ("logged", .ref ad2.Ll), ("joined", ad.jv), ("stage", .str "free"), ("queued", .ref ad2.Lq), ("finished", .ref ad2.La)]))
    have o3 : Off p H2 (upd H2 p (.ins C ad2.dx [("own_name", .str st.nm), ("linked", .ref ad2.Lk), ("logged", .ref ad2.Ll), ("joined", ad.jv), ("stage", .str "free"), ("queued", .ref ad2.Lq), ("finished", .ref ad2.La)])) := (Off.refl p H2).upd
    have g3 : (upd H2 p (.ins C ad2.dx [("own_name", .str st.nm), ("linked", .ref ad2.Lk), ("logged", .ref ad2.Ll), ("joined", ad.jv), ("stage", .str "free"), ("queued", .ref ad2.Lq), ("finished", .ref ad2.La)])) p = some (.ins C ad2.dx [("own_name", .str st.nm), ("linked", .ref ad2.Lk), ("logged", .ref ad2.Ll), ("joined", ad.jv), ("stage", .str "free"), ("queued", .ref ad2.Lq), ("finished", .ref ad2.La)]) := upd_same
    generalize upd H2 p (.ins C ad2.dx [("own_name", .str st.nm), ("linked", .ref ad2.Lk), ("logged", .ref ad2.Ll), ("joined", ad.jv), ("stage", .str "free"), ("queued", .ref ad2.Lq), ("finished", .ref ad2.La)]) = H3 at o3 g3 ⊢
    have s3 := off_same s2 np o3
    have x3 := x.same s3
    refine ⟨_, rfl, h, C, ad.dx, _, _, rfl, x3.at_, T.cl, T.n5, rfl, _, rfl, p, C, ad2.dx, _, rfl, g3, T.cl, T.n5, (by show 7 < 1000; decide), ?_⟩
    show tSeq _ _ _ _ (upd H3 p (.ins C ad2.dx [("own_name", .str st.nm), ("linked", .ref ad2.Lk), ("logged", .ref ad2.Ll), ("joined", ad.jv), ("stage", .str st.sg), ("queued", .ref ad2.Lq), ("finished", .ref ad2.La)]))
    have o4 : Off p H2 (upd H3 p (.ins C ad2.dx [("own_name", .str st.nm), ("linked", .ref ad2.Lk), ("logged", .ref ad2.Ll), ("joined", ad.jv), ("stage", .str st.sg), ("queued", .ref ad2.Lq), ("finished", .ref ad2.La)])) := o3.upd
    have g4 : (upd H3 p (.ins C ad2.dx [("own_name", .str st.nm), ("linked", .ref ad2.Lk), ("logged", .ref ad2.Ll), ("joined", ad.jv), ("stage", .str st.sg), ("queued", .ref ad2.Lq), ("finished", .ref ad2.La)])) p = some (.ins C ad2.dx [("own_name", .str st.nm), ("linked", .ref ad2.Lk), ("logged", .ref ad2.Ll), ("joined", ad.jv), ("stage", .str st.sg), ("queued", .ref ad2.Lq), ("finished", .ref ad2.La)]) := upd_same
    generalize upd H3 p (.ins C ad2.dx [("own_name", .str st.nm), ("linked", .ref ad2.Lk), ("logged", .ref ad2.Ll), ("joined", ad.jv), ("stage", .str st.sg), ("queued", .ref ad2.Lq), ("finished", .ref ad2.La)]) = H4 at o4 g4 ⊢
    have s4 := off_same s2 np o4
    have x4 := x.same s4
    -- queued
    refine ⟨_, rfl, h, C, ad.dx, _, _, rfl, x4.at_, T.cl, T.n6, rfl, ad.Lq, u2, rfl, .inl (SqL.of (s4 _ _ eq)), fun Lq nLq => ?_⟩
    obtain ⟨kq, ⟨_, lq, _⟩, _⟩ := hx.keep o4
    have o5 := o4.new (u := .lst u2) nLq
    have g5 := same_upd (o := .lst u2) nLq _ _ g4
    have l5 : (upd H4 Lq (.lst u2)) Lq = some (.lst u2) := upd_same
    generalize upd H4 Lq (.lst u2) = H5 at o5 g5 l5 ⊢
    refine ⟨_, rfl, p, C, ad2.dx, _, rfl, g5, T.cl, T.n6, (by show 7 < 1000; decide), ?_⟩
    show tSeq _ _ _ _ (upd H5 p (.ins C ad2.dx [("own_name", .str st.nm), ("linked", .ref ad2.Lk), ("logged", .ref ad2.Ll), ("joined", ad.jv), ("stage", .str st.sg), ("queued", .ref Lq), ("finished", .ref ad2.La)]))
    have nqp : Lq ≠ p := ne_of l5 g5 (fun z => nomatch z)
    have o6 : Off p H2 (upd H5 p (.ins C ad2.dx [("own_name", .str st.nm), ("linked", .ref ad2.Lk), ("logged", .ref ad2.Ll), ("joined", ad.jv), ("stage", .str st.sg), ("queued", .ref Lq), ("finished", .ref ad2.La)])) := o5.upd
    have g6 : (upd H5 p (.ins C ad2.dx [("own_name", .str st.nm), ("linked", .ref ad2.Lk), ("logged", .ref ad2.Ll), ("joined", ad.jv), ("stage", .str st.sg), ("queued", .ref Lq), ("finished", .ref ad2.La)])) p = some (.ins C ad2.dx [("own_name", .str st.nm), ("linked", .ref ad2.Lk), ("logged", .ref ad2.Ll), ("joined", ad.jv), ("stage", .str st.sg), ("queued", .ref Lq), ("finished", .ref ad2.La)]) := upd_same
    have l6 := (upd_ne (H := H5) (o := .ins C ad2.dx [("own_name", .str st.nm), ("linked", .ref ad2.Lk), ("logged", .ref ad2.Ll), ("joined", ad.jv), ("stage", .str st.sg), ("queued", .ref Lq), ("finished", .ref ad2.La)]) nqp).trans l5
    generalize upd H5 p (.ins C ad2.dx [("own_name", .str st.nm), ("linked", .ref ad2.Lk), ("logged", .ref ad2.Ll), ("joined", ad.jv), ("stage", .str st.sg), ("queued", .ref Lq), ("finished", .ref ad2.La)]) = H6 at o6 g6 l6 ⊢
    have s6 := off_same s2 np o6
    have x6 := x.same s6
    -- finished
    refine ⟨_, rfl, h, C, ad.dx, _, _, rfl, x6.at_, T.cl, T.n7, rfl, ad.La, u3, rfl, .inl (SqL.of (s6 _ _ ea)), fun La nLa => ?_⟩
    obtain ⟨ka, ⟨_, la, _⟩, _⟩ := hx.keep o6
    have o7 := o6.new (u := .lst u3) nLa
    have s67 := same_upd (o := .lst u3) nLa
    have g7 := s67 _ _ g6
    have l7 := s67 _ _ l6
    have m7 : (upd H6 La (.lst u3)) La = some (.lst u3) := upd_same
    generalize upd H6 La (.lst u3) = H7 at o7 s67 g7 l7 m7 ⊢
    refine ⟨_, rfl, p, C, ad2.dx, _, rfl, g7, T.cl, T.n7, (by show 7 < 1000; decide), ?_⟩
    have nap : La ≠ p := ne_of m7 g7 (fun z => nomatch z)
    have o8 : Off p H2 (upd H7 p (.ins C ad2.dx [("own_name", .str st.nm), ("linked", .ref ad2.Lk), ("logged", .ref ad2.Ll), ("joined", ad.jv), ("stage", .str st.sg), ("queued", .ref Lq), ("finished", .ref La)])) := o7.upd
    have s8 := off_same s2 np o8
    have fk8 := fz_keep (FzK.of s8)
    obtain ⟨k1, k2, _, _, _⟩ := hx.keep o8
    refine ⟨_, rfl, q _ p ⟨ad2.Lk, ad2.Ll, Lq, La, ad.jv, ad2.dx⟩ s8 np ⟨upd_same, k1, k2, x.jn.same fk8, ⟨u2, (upd_ne nqp).trans l7, dq.same fk8⟩, ⟨u3, (upd_ne nap).trans m7, da.same fk8⟩, ⟨hx.sep.1, ne_of_none kq nLq, ne_of_none ka nLa, ne_of_none lq nLq, ne_of_none la nLa, ne_of_none l6 nLa⟩⟩⟩
end
end My

namespace My
open PySem PySem.Spec PyProof.Rows L2 Gy Xl Xs Xt Xo Xp
/-! ### a host's messages -/
def sendD (w x : Str) (p : Str × Int) : PyData := .tuple [.str p.1, .tuple [.str "message", .str w, .str x, .int p.2]]
/-- whom a host sends a message on to -/
def outs (st : HS) (src : Option Str) (b : Int) : List (Str × Int) := match st.jn with
  | none => (gls src st.lk).map fun g => (g, 0)
  | some (xs, c) => match posn xs (.str st.nm) with
    | some j => sents (fun g => fwd xs c j st.sg src g b) (gls src st.lk)
    | none => []
/-- the relink in which it takes part is one, with this host on its path -/
def JnOk (st : HS) : Prop := ∀ xs c, st.jn = some (xs, c) → isRel (reld xs c) = true ∧ sml (reld xs c) = true ∧ ∃ j, posn xs (.str st.nm) = some j
section
variable {P : Program} {w : World} {K : PySem.W.Frag} {mg : Str → Option Value} {base : Heap} {H : Hp} {C CR CU CW : Addr}
def logD (w x : Str) : PyData := .tuple [.str w, .str x]
theorem outs_len (st : HS) (src : Option Str) (b : Int) : (outs st src b).length ≤ st.lk.length := by
  have g : (gls src st.lk).length ≤ st.lk.length := List.length_filter_le _ _
  unfold outs
  split
  · rw [List.length_map]
    exact g
  · split
    · exact Nat.le_trans (List.length_filterMap_le _ _) g
    · exact Nat.zero_le _
theorem pri_get {H : Hp} : ∀ {ts : List Addr} {ps : List (Str × Int)} {i : Nat} {y : V}, PrI H ts ps → (ts.map V.ref)[i]? = some y → ∃ t p, y = .ref t ∧ ps[i]? = some p ∧ Tz H t [.str p.1, .int p.2]
  | [], _, i, y, _, h => by simp at h
  | t :: ts, [], i, y, h, _ => h.elim
  | t :: ts, p :: ps, 0, y, h, e => by
    simp at e
    exact ⟨t, p, e.symm, rfl, h.1⟩
  | t :: ts, p :: ps, i + 1, y, h, e => by
    simp only [List.map_cons, List.getElem?_cons_succ] at e
    exact pri_get (ts := ts) (ps := ps) (i := i) h.2 e
theorem seq_use {te : TE} {g : TG} {rest : TS} {D : Ends} {σ : L2.St} {H : Hp} (S : V → Hp → Prop) (h1 : ∀ Q' : VK, (∀ v H', S v H' → Q' v H') → te σ H Q') (h2 : ∀ v H', S v H' → g v σ H' fun σ2 H2 => rest D σ2 H2) : tSeq (tAsg te g) rest D σ H := h1 _ h2
theorem Hst.log {h : Addr} {st : HS} {ad : HA} {lv : List V} {v : V} {d : PyData} (x : Hst K C H h st ad) (e : H ad.Ll = some (.lst lv)) (dl : Dns K (fz H) lv st.lg) (dn : Dn K (fz H) v d) : Hst K C (upd H ad.Ll (.lst (lv ++ [v]))) h { st with lg := st.lg ++ [d] } ad := by
  have fk := fz_keep ((FzK.refl H).upd (w := .lst (lv ++ [v])) e (fun _ _ z => nomatch z))
  obtain ⟨v2, a2, b2⟩ := x.qu
  obtain ⟨v3, a3, b3⟩ := x.an
  obtain ⟨s1, s2, s3, s4, s5, s6⟩ := x.sep
  exact ⟨(upd_ne (ne_of x.at_ e (fun z => nomatch z))).trans x.at_, (upd_ne s1).trans x.lk, ⟨_, upd_same, dns_app (dl.same fk) (.cons (dn.same fk) .nil)⟩, x.jn.same fk, ⟨v2, (upd_ne s4.symm).trans a2, b2.same fk⟩, ⟨v3, (upd_ne s5.symm).trans a3, b3.same fk⟩, x.sep⟩
def spLAF (K : PySem.W.Frag) (C : Addr) : Sp := fun vs H Q _ => ∃ (h : Addr) (w x : Str) (src : Option Str) (b : Int) (st : HS) (ad : HA), vs = [.ref h, .str w, .str x, optV src, .int b] ∧ Hst K C H h st ad ∧ st.lk.length ≤ 20 ∧ sortedS st.lk = true ∧ st.lg.length ≤ 1000 ∧ JnOk st ∧ Nm st.nm ∧
  ∀ H' L us, (∀ y o, H y = some o → y ≠ ad.Ll → H' y = some o) → Hst K C H' h { st with lg := st.lg ++ [logD w x] } ad → H L = none → H' L = some (.lst us) → Dns K (fz H') us ((outs st src b).map (sendD w x)) → Q (.ref L) H'
theorem dn_jnd {H : Hp} {v : V} {xs : List Str} {c : Nat} (j : Jnd (fz H) v (some (xs, c))) : Dn K H v (reld xs c) := by
  obtain ⟨t, pa, rfl, a, b⟩ := j
  exact (dn_reld a b).same (fz_same H)
theorem ok_laf {f : Addr} {fd : FuncData} {dvs : List V} (F : FunD K "log_and_forward" "Host.log_and_forward" (defArgs m_log_and_forward) (defBody m_log_and_forward) (defScope m_log_and_forward) dvs [] f fd) (Y : Bn mg) (T : Ch K C)
    (GP_forwards : Fw P w K mg base (L2.CX P w) 8 "forwards" ["links", "source", "bit", "relink", "host", "phase"] 1 ["source", "bit", "relink", "host", "phase"] (fun vs zs => vs ++ zs) (spForw K CR CU)) : FnOk P w K mg base CX0 9 f fd ["self", "writer", "word", "source", "bit"] (spLAF K C) := by
  refine F.ok (CX := CX0) scm_log_and_forward (fun vs H Q E h => ?_) (fun cdv A outer s H vs Q E hr h => ?_)
  · obtain ⟨h, w, x, src, b, st, ad, rfl, _⟩ := h
    rfl
  · obtain ⟨h, w, x, src, b, st, ad, rfl, hs, l20, srt, lgl, jok, nnm, q⟩ := h
    refine ⟨_, (pss_cons (ps_expr (pe_bm PySem.F.plainAttrs_list PySem.F.slot_list_append PySem.F.type_list_append mt_append (pe_fld (pv 0) rfl) (pa_cons (pe_tupZ (pa_cons (pv 1) (pa_cons (pv 2) pa_nil))) pa_nil)))
 (pss_cons (ps_set (i := 5) scm_log_and_forward.nd rfl (.inl rfl) (pe_callNF (E := fun _ _ _ => False) GP_forwards (hr.mono (by decide)) (by rfl) passN (pa_cons (pe_fld (pv 0) rfl) pa_nil) (pk_cons (pv 3) (pk_cons (pv 4) (pk_cons (pe_fld (pv 0) rfl) (pk_cons (pe_fld (pv 0) rfl) (pk_cons (pe_fld (pv 0) rfl) pk_nil)))))))
 (pss_one (ps_ret (pe_lc (own := [("goal", 6), ("sent", 7)]) (g := gTup K 2 (gCons (gName 6) (gCons (gName 7) gNil))) (tt := tYes) rfl scm_log_and_forward.nd (pi_list (pv 5)) (blkOk_by (N := ["self", "writer", "word", "source", "bit", "goals", "goal", "sent"]) (sc := defScope m_log_and_forward) (by decide +kernel)) (fun _ _ _ _ _ => (pg_tup (by rfl) (pgs_cons (pg_name (i := 6) scm_log_and_forward.nd rfl (Or.inl rfl)) (pgs_cons (pg_name (i := 7) scm_log_and_forward.nd rfl (Or.inl rfl)) pgs_nil)))) (fun _ _ _ _ _ => pts_nil) (fun _ _ _ _ _ => (pe_tupZ (pa_cons (pv 6) (pa_cons (pe_tupZ (pa_cons pe_str (pa_cons (pv 1) (pa_cons (pv 2) (pa_cons (pv 7) pa_nil))))) pa_nil))))))))), ?_⟩
    obtain ⟨lv, el, dl⟩ := hs.lg
    have ll := Dns.len dl
    refine ⟨_, rfl, h, C, ad.dx, _, _, rfl, hs.at_, T.cl, T.n3, rfl, .inl ⟨rfl, _, SqL.of el⟩, _, rfl, _, rfl, (by show 2 ≤ sizeLine; decide), fun t o nt s1 z1 => ?_⟩
    generalize upd H t o = H1 at s1 z1 ⊢
    have el1 := s1 _ _ el
    refine ⟨ad.Ll, lv, .ref t, rfl, rfl, el1, (by rw [sizeLine_eq]; omega), ?_⟩
    have x2 := (hs.same s1).log el1 (dl.same (fz_keep (FzK.of s1))) (show Dn K (fz H1) (.ref t) (logD w x) from .tup (Tz.fz z1) (.cons (.str w) (.cons (.str x) .nil)))
    have fr2 : ∀ y o, H y = some o → y ≠ ad.Ll → (upd H1 ad.Ll (.lst (lv ++ [.ref t]))) y = some o := fun y o e n => by
      rw [upd_ne n]
      exact s1 _ _ e
    have nn2 : ∀ {y}, (upd H1 ad.Ll (.lst (lv ++ [.ref t]))) y = none → H y = none := fun {y} e => by
      by_cases c : y = ad.Ll
      · rw [c, upd_same] at e
        cases e
      · rw [upd_ne c] at e
        exact same_no s1 e
    generalize upd H1 ad.Ll (.lst (lv ++ [.ref t])) = H2 at x2 fr2 nn2 ⊢
    dsimp only
    refine seq_use (fun v H3 => ∃ L, v = .ref L ∧ Same H2 H3 ∧ Lp H3 L (outs st src b)) (fun Q' hS => ?_) (fun v H3 hS => ?_)
    · have j2 := x2.jn
      cases ej : st.jn with
      | none =>
        have e : ad.jv = .non := by
          have : Jnd (fz H2) ad.jv st.jn := j2
          rw [ej] at this
          exact this
        refine ⟨_, rfl, h, C, ad.dx, _, _, rfl, x2.at_, T.cl, T.n2, rfl, _, rfl, _, rfl, _, rfl, h, C, ad.dx, _, _, rfl, x2.at_, T.cl, T.n4, rfl, _, rfl, h, C, ad.dx, _, _, rfl, x2.at_, T.cl, T.n1, rfl, _, rfl, h, C, ad.dx, _, _, rfl, x2.at_, T.cl, T.n5, rfl, rfl, rfl, ?_⟩
        refine ⟨ad.Lk, st.lk, src, b, ad.jv, .str st.nm, .none, .str st.nm, st.sg, rfl, x2.lk, l20, (by rw [e]; exact .non), rfl, .str _, (a0_nm nnm).sm, fun _ ys H3 L pm sr s3 nL lp => ?_, (fun z => absurd rfl z), fun xs c z => nomatch z⟩
        have ey := sort_uniq pm sr (List.Perm.refl _) srt
        subst ey
        refine hS _ _ ⟨L, rfl, s3, ?_⟩
        unfold outs
        rw [ej]
        exact lp
      | some p =>
        obtain ⟨xs, c⟩ := p
        have dj : Dn K H2 ad.jv (reld xs c) := dn_jnd (by
          have : Jnd (fz H2) ad.jv st.jn := j2
          rw [ej] at this
          exact this)
        obtain ⟨ir, sm, j, hj⟩ := jok xs c ej
        refine ⟨_, rfl, h, C, ad.dx, _, _, rfl, x2.at_, T.cl, T.n2, rfl, _, rfl, _, rfl, _, rfl, h, C, ad.dx, _, _, rfl, x2.at_, T.cl, T.n4, rfl, _, rfl, h, C, ad.dx, _, _, rfl, x2.at_, T.cl, T.n1, rfl, _, rfl, h, C, ad.dx, _, _, rfl, x2.at_, T.cl, T.n5, rfl, rfl, rfl, ?_⟩
        refine ⟨ad.Lk, st.lk, src, b, ad.jv, .str st.nm, reld xs c, .str st.nm, st.sg, rfl, x2.lk, l20, dj, sm, .str _, (a0_nm nnm).sm, (fun z => nomatch z), (fun _ z => absurd (ir.symm.trans z) (by decide)), fun xs' c' ee _ => ?_⟩
        obtain ⟨rfl, rfl⟩ := reld_inj ee
        refine ⟨fun z => (by rw [hj] at z; cases z), fun j' hj' ys H3 L pm sr s3 nL lp => ?_⟩
        have ey := sort_uniq pm sr (List.Perm.refl _) srt
        subst ey
        refine hS _ _ ⟨L, rfl, s3, ?_⟩
        unfold outs
        rw [ej]
        dsimp only
        rw [hj']
        exact lp
    · obtain ⟨L, rfl, s3, ts, eL, pr⟩ := hS
      have x3 := x2.same s3
      have ol := outs_len st src b
      generalize outs st src b = out at pr ol q
      have tl := pr.len
      refine ⟨_, rfl, L, rfl, ⟨_, SqL.of eL⟩, fun D nD => ?_⟩
      have nH : H D = none := nn2 (same_no s3 nD)
      refine lc_it (walk_list (K := K) (a := L) (xs := ts.map V.ref)) (fun i H' => Same H3 H' ∧ ∃ us, H' D = some (.lst us) ∧ Dns K (fz H') us ((out.take i).map (sendD w x)))
        ⟨same_upd nD, [], upd_same, .nil⟩ (fun i H' _ hI => SqL.of (hI.1 _ _ eL)) ?_ ?_
      · rintro i y H4 H5 hi ⟨s4, us, hD, du⟩ ⟨rfl, hy⟩
        obtain ⟨t, p, rfl, hp, tz⟩ := pri_get (pr.same s4) hy
        have lu := Dns.len du
        rw [List.length_map, List.length_take] at lu
        refine ⟨t, _, rfl, tz.sq, rfl, _, _, rfl, _, _, rfl, rfl, rfl, ?_⟩
        dsimp only [tYes]
        refine iteT ?_
        refine ⟨_, rfl, _, rfl, _, rfl, _, rfl, (by show 4 ≤ sizeLine; decide), fun t1 o1 n1 s5 z5 => ?_⟩
        generalize upd _ t1 o1 = H6 at s5 z5 ⊢
        refine ⟨(by show 2 ≤ sizeLine; decide), fun t2 o2 n2 s6 z6 => ?_⟩
        generalize upd H6 t2 o2 = H7 at s6 z6 ⊢
        have s46 := s5.trans s6
        have hD7 := s46 _ _ hD
        have fk := fz_keep ((FzK.refl H7).upd (w := .lst (us ++ [.ref t2])) hD7 (fun _ _ z => nomatch z))
        refine ⟨_, hD7, small200 (by omega), same_upd2 (s4.trans s46) nD, us ++ [.ref t2], upd_same, ?_⟩
        rw [List.take_add_one, hp, List.map_append]
        refine dns_app ((du.same (fz_keep (FzK.of s46))).same fk) (.cons (Dn.same fk ?_) .nil)
        exact .tup (Tz.fz z6) (.cons (.str _) (.cons (.tup (Tz.fz (z5.same s6)) (.cons (.str _) (.cons (.str w) (.cons (.str x) (.cons (.int _) .nil))))) .nil))
      · rintro H4 ⟨s4, us, hD, du⟩
        rw [List.length_map, tl, List.take_of_length_le (Nat.le_refl _)] at du
        exact q H4 D us (fun y o e n => s4 _ _ (s3 _ _ (fr2 y o e n))) (x3.same s4) nH hD du
end
end My

namespace My
open PySem PySem.Spec PyProof.Rows L2 Gy Xl Xs Xt Xo Xp
section
variable {P : Program} {w : World} {K : PySem.W.Frag} {mg : Str → Option Value} {base : Heap} {H : Hp} {C CR CU CW CB CD CN CI : Addr}
/-- a method that may be asked without its last two arguments -/
structure FmD (P : Program) (w : World) (K : PySem.W.Frag) (mg : Str → Option Value) (base : Heap) (CX : CXT) (k : Nat) (C : Addr) (nm : Str) (ps : List Str) (dvs : List V) (sp : Sp) : Prop where
  ex : ∃ (f : Addr) (fd : FuncData) (ds : List Value), Meth K C nm f ∧ Vals dvs ds ∧ Binds K fd ps ds ∧ FnOk P w K mg base CX k f fd ps sp
def spWrite (K : PySem.W.Frag) (C CW : Addr) : Sp := fun vs H Q E => ∃ (h : Addr) (v : V) (st : HS) (ad : HA), vs = [.ref h, v] ∧ Kd K H v ∧ Hst K C H h st ad ∧ st.lk.length ≤ 20 ∧ sortedS st.lk = true ∧ st.lg.length ≤ 1000 ∧ JnOk st ∧ Nm st.nm ∧ (textOf v WSG 12 = false → Ro E CW "value" v H) ∧
  ∀ x, v = .str x → textOf v WSG 12 = true → ∀ H' L us, (∀ y o, H y = some o → y ≠ ad.Ll → H' y = some o) → Hst K C H' h { st with lg := st.lg ++ [logD st.nm x] } ad → H L = none → H' L = some (.lst us) → Dns K (fz H') us ((outs st none 0).map (sendD st.nm x)) → Q (.ref L) H'
theorem ok_write {f : Addr} {fd : FuncData} (F : Fun K "write" "Host.write" m_write f fd) (Y : Bn mg) (T : Ch K C) (R : Rz P w K mg base "InvalidWord" "value" CW) (G_is_word : Fk P w K mg base CX0 2 "is_word" ["value"] (spWord K)) (M_laf : FmD P w K mg base CX0 9 C "log_and_forward" ["self", "writer", "word", "source", "bit"] [.non, .int 0] (spLAF K C)) : FnOk P w K mg base (L2.CX P w) 10 f fd ["self", "word"] (spWrite K C CW) := by
  obtain ⟨fI, fdI, XI, GI, bI⟩ := R.ex
  obtain ⟨_, _, _, MM_laf, MV_laf, MB_laf, MF_laf⟩ := M_laf.ex
  refine F.okX scm_write (fun vs H Q E h => ?_) (fun cdv A outer s H vs Q E hr h => ?_)
  · obtain ⟨h, v, st, ad, rfl, _⟩ := h
    rfl
  · obtain ⟨h, v, st, ad, rfl, kd, x, l20, srt, lgl, jok, nnm, q1, q2⟩ := h
    refine ⟨_, (pss_cons (ps_if (pt_not (pt_val (pe_callF G_is_word (hr.mono (by decide)) (by rfl) pass0 (pa_cons (pv 1) pa_nil))))
 (pss_one (ps_raise1 rfl (takes_of rfl rfl rfl rfl) XI R.ty GI (hr.mono (by decide)) bI (by rfl) R.gm (pa_cons (pv 1) pa_nil)))
 pss_nil)
 (pss_one (ps_ret (pe_meth (pv 0) T.cl MM_laf MF_laf (hr.mono (by decide)) MB_laf MV_laf pass0 (pa_cons (pe_fld (pv 0) rfl) (pa_cons (pv 1) pa_nil)))))), ?_⟩
    refine ⟨_, rfl, v, rfl, kd, fun H1 s1 => ⟨_, rfl, ?_⟩⟩
    cases t1 : textOf v WSG 12 with
    | false => exact iteT ⟨_, rfl, _, rfl, fun ex nd => q1 t1 _ ex (s1.trans (same_upd nd)) upd_same⟩
    | true =>
    obtain ⟨z, rfl⟩ := text_str' t1
    have x1 := x.same s1
    refine iteF ⟨_, rfl, h, ad.dx, _, rfl, x1.at_, (by rfl), _, rfl, h, C, ad.dx, _, _, rfl, x1.at_, T.cl, T.n1, rfl, _, rfl, ?_⟩
    refine ⟨h, st.nm, z, none, 0, st, ad, rfl, x1, l20, srt, lgl, jok, nnm, fun H2 L us fr hx nL hL du => ?_⟩
    exact q2 z rfl t1 H2 L us (fun y o e n => fr _ _ (s1 _ _ e) n) hx (same_no s1 nL) hL du
/-- receive, of what is no name or no item -/
def spNo : Sp := fun _ _ _ _ => False
def spRecv (K : PySem.W.Frag) (C CN CI : Addr) : Sp := fun vs H Q E => ∃ (h : Addr) (v1 v2 : V) (d2 : PyData) (st : HS) (ad : HA), vs = [.ref h, v1, v2] ∧ Kd K H v1 ∧ Dn K H v2 d2 ∧ sml d2 = true ∧ Hst K C H h st ad ∧
  ((textOf v1 LET 8 = false ∧ Ro E CN "value" v1 H) ∨ (textOf v1 LET 8 = true ∧ isItem d2 = false ∧ Ro E CI "value" v2 H))
theorem ok_recv {f : Addr} {fd : FuncData} (F : Fun K "receive" "Host.receive" m_receive f fd) (Y : Bn mg) (T : Ch K C) (R : Rz P w K mg base "InvalidName" "value" CN) (G_is_host_name : Fk P w K mg base CX0 2 "is_host_name" ["value"] (spHost K)) (G_check_item : Fk P w K mg base (L2.CX P w) 6 "check_item" ["value"] (spChkI K CI))
    (M_accept : Fm P w K mg base CX0 1 C "accept" ["self", "source", "item"] spNo) : FnOk P w K mg base (L2.CX P w) 7 f fd ["self", "source", "item"] (spRecv K C CN CI) := by
  obtain ⟨fI, fdI, XI, GI, bI⟩ := R.ex
  obtain ⟨_, _, MM_accept, MB_accept, MF_accept⟩ := M_accept.ex
  refine F.okX scm_receive (fun vs H Q E h => ?_) (fun cdv A outer s H vs Q E hr h => ?_)
  · obtain ⟨h, v1, v2, d2, st, ad, rfl, _⟩ := h
    rfl
  · obtain ⟨h, v1, v2, d2, st, ad, rfl, kd, dn, sm, x, q⟩ := h
    refine ⟨_, (pss_cons (ps_if (pt_not (pt_val (pe_callF G_is_host_name (hr.mono (by decide)) (by rfl) pass0 (pa_cons (pv 1) pa_nil))))
 (pss_one (ps_raise1 rfl (takes_of rfl rfl rfl rfl) XI R.ty GI (hr.mono (by decide)) bI (by rfl) R.gm (pa_cons (pv 1) pa_nil)))
 pss_nil)
 (pss_cons (ps_expr (pe_callF G_check_item (hr.mono (by decide)) (by rfl) (passes_call (E := E) (takes_of rfl rfl rfl rfl) (fun _ _ _ _ h => h)) (pa_cons (pv 2) pa_nil)))
 (pss_one (ps_ret (pe_meth (pv 0) T.cl MM_accept MF_accept (hr.mono (by decide)) MB_accept .nil pass0 (pa_cons (pv 1) (pa_cons (pv 2) pa_nil))))))), ?_⟩
    refine ⟨_, rfl, v1, rfl, kd, fun H1 s1 => ⟨_, rfl, ?_⟩⟩
    rcases q with ⟨t1, q⟩ | ⟨t1, ni, q⟩
    · rw [t1]
      exact iteT ⟨_, rfl, _, rfl, fun ex nd => q _ ex (s1.trans (same_upd nd)) upd_same⟩
    · rw [t1]
      exact iteF ⟨_, rfl, v2, d2, rfl, dn.same s1, sm, (fun z => absurd (ni.symm.trans z) (by decide)), fun _ => q.same s1⟩
/-- ask -/
def spAsk (K : PySem.W.Frag) (C CR CB CD : Addr) : Sp := fun vs H Q E => ∃ (h : Addr) (v1 v2 : V) (d1 d2 : PyData) (st : HS) (ad : HA), vs = [.ref h, v1, v2] ∧ Dn K H v1 d1 ∧ Dn K H v2 d2 ∧ sml (.tuple [d1, d2]) = true ∧ Hst K C H h st ad ∧ st.lk.length ≤ 60 ∧
  ((isRel (.tuple [d1, d2]) = false ∨ ∃ xs c, PyData.tuple [d1, d2] = reld xs c ∧ xs.head? ≠ some st.nm) → ∀ H' dx t, Same H H' → Tz H' t [v1, v2] → H' dx = some (.xd [("value", .ref t)]) → E (.ref CR) (some dx) H') ∧
  ∀ xs c, PyData.tuple [d1, d2] = reld xs c → isRel (reld xs c) = true → xs.head? = some st.nm → (st.jn ≠ none → Ro E CB "host" (.str st.nm) H) ∧
    (st.jn = none → ∀ x1, xs[1]? = some x1 → (x1 ∉ st.lk → Ro2 E CD "host" "other" (.str st.nm) (.str x1) H) ∧
      (x1 ∈ st.lk → ∀ H' jv L t u, Off h H H' → FzK H H' → Hst K C H' h { st with jn := some (xs, c), sg := "reserved" } { ad with jv := jv } → H L = none → H' L = some (.lst [.ref t]) → Tz H' t [.str x1, .ref u] → Tz H' u [.str "ask", v1, v2] → Q (.ref L) H'))
theorem ap_0 {x0 x1 : Str} {r : List Str} : atI ((x0 :: x1 :: r).map V.str) 0 = some (.str x0) := atI_nat (j := 0) rfl
theorem ap_1 {x0 x1 : Str} {r : List Str} : atI ((x0 :: x1 :: r).map V.str) 1 = some (.str x1) := atI_nat (j := 1) rfl
theorem three_of {xs : List Str} (h : 3 ≤ xs.length) : ∃ (x0 x1 : Str) (r : List Str), xs = x0 :: x1 :: r := by
  cases xs with
  | nil => exact absurd h (by decide)
  | cons a t =>
    cases t with
    | nil => exact absurd h (by show ¬ 3 ≤ 1; decide)
    | cons b r => exact ⟨a, b, r, rfl⟩
theorem ask_pair {v1 v2 : V} {d1 d2 : PyData} (ir : isRel (.tuple [d1, d2]) = true) (h1 : Dn K H v1 d1) (h2 : Dn K H v2 d2) : ∃ (x0 x1 : Str) (r : List Str) (c : Nat) (b : Addr), PyData.tuple [d1, d2] = reld (x0 :: x1 :: r) c ∧ v1 = .ref b ∧ v2 = .int (c : Int) ∧ Tz H b ((x0 :: x1 :: r).map V.str) := by
  obtain ⟨xs, c, e, l3, _⟩ := rel_parts ir
  have e0 := e
  unfold reld at e
  injection e with e
  injection e with e1 e2
  injection e2 with e2 _
  subst e1 e2
  cases h2
  cases h1 with
  | tup hb hx =>
    have e := Dns.txts hx
    subst e
    obtain ⟨x0, x1, r, ex⟩ := three_of l3
    subst ex
    exact ⟨x0, x1, r, c, _, e0, rfl, rfl, hb⟩
theorem ok_ask {f : Addr} {fd : FuncData} (F : Fun K "ask" "Host.ask" m_ask f fd) (Y : Bn mg) (T : Ch K C) (R : Rz P w K mg base "InvalidRelink" "value" CR) (R2 : Rz2 P w K mg base "NotLinked" "host" "other" CD) (G_is_relink : Fk P w K mg base CX0 4 "is_relink" ["value"] (spRel K))
    (M_check_free : Fm P w K mg base (L2.CX P w) 3 C "check_free" ["self"] (spCF K C CB)) : FnOk P w K mg base (L2.CX P w) 6 f fd ["self", "path", "cut"] (spAsk K C CR CB CD) := by
  obtain ⟨fI, fdI, XI, GI, bI⟩ := R.ex
  obtain ⟨fI2, fdI2, XI2, GI2, bI2⟩ := R2.ex
  obtain ⟨_, _, MM_check_free, MB_check_free, MF_check_free⟩ := M_check_free.ex
  refine F.okX scm_ask (fun vs H Q E h => ?_) (fun cdv A outer s H vs Q E hr h => ?_)
  · obtain ⟨h, v1, v2, d1, d2, st, ad, rfl, _⟩ := h
    rfl
  · obtain ⟨h, v1, v2, d1, d2, st, ad, rfl, dn1, dn2, sm, x, few, q1, q2⟩ := h
    refine ⟨_, (pss_cons (ps_set (i := 3) scm_ask.nd rfl (.inl rfl) (pe_tupZ (pa_cons (pv 1) (pa_cons (pv 2) pa_nil))))
 (pss_cons (ps_if (PW.pt (pw_or (pt_not (pt_val (pe_callF G_is_relink (hr.mono (by decide)) (by rfl) pass0 (pa_cons (pv 3) pa_nil)))) (pw_or1 (pt_cmpR op_ne (pe_ix ix_tup (pv 1) pe_int (fun _ _ => rfl)) (pe_fld (pv 0) rfl) (nomark _)))))
 (pss_one (ps_raise1 rfl (takes_of rfl rfl rfl rfl) XI R.ty GI (hr.mono (by decide)) bI (by rfl) R.gm (pa_cons (pv 3) pa_nil)))
 pss_nil)
 (pss_cons (ps_expr (pe_meth0 (pv 0) T.cl MM_check_free MF_check_free (hr.mono (by decide)) MB_check_free .nil (passes_call (E := E) (takes_of rfl rfl rfl rfl) (fun _ _ _ _ h => h))))
 (pss_cons (ps_if (pt_cmpR op_notIn_seq (pe_ix ix_tup (pv 1) pe_int (fun _ _ => rfl)) (pe_fld (pv 0) rfl) rfl)
 (pss_one (ps_raise2 rfl (takes_of rfl rfl rfl rfl) XI2 R2.ty GI2 (hr.mono (by decide)) bI2 (by rfl) R2.gm (pa_cons (pe_fld (pv 0) rfl) (pa_cons (pe_ix ix_tup (pv 1) pe_int (fun _ _ => rfl)) pa_nil))))
 pss_nil)
 (pss_cons (ps_fld (pv 0) (pv 3) rfl)
 (pss_cons (ps_fld (pv 0) pe_str rfl)
 (pss_one (ps_ret (pe_lst (pa_cons (pe_tupZ (pa_cons (pe_ix ix_tup (pv 1) pe_int (fun _ _ => rfl)) (pa_cons (pe_tupZ (pa_cons pe_str (pa_cons (pv 1) (pa_cons (pv 2) pa_nil)))) pa_nil))) pa_nil)))))))))), ?_⟩
    refine ⟨_, rfl, _, rfl, (by show 2 ≤ sizeLine; decide), fun t o nt s1 z1 => ?_⟩
    generalize upd H t o = H1 at s1 z1 ⊢
    refine ⟨_, rfl, .ref t, .tuple [d1, d2], rfl, .tup z1 (.cons (dn1.same s1) (.cons (dn2.same s1) .nil)), sm, fun H2 s2 => ⟨_, rfl, ?_⟩⟩
    have s02 : Same H H2 := s1.trans s2
    have x2 := x.same s02
    have z2 := z1.same s2
    cases ir : isRel (.tuple [d1, d2]) with
    | false => exact iteT (iteT ⟨_, rfl, _, rfl, fun ex nd => q1 (.inl ir) _ ex t (s02.trans (same_upd nd)) (z2.same (same_upd nd)) upd_same⟩)
    | true =>
    obtain ⟨x0, x1, rest, c, b, e, e1, e2, zb0⟩ := ask_pair ir dn1 dn2
    subst e1 e2
    have za := z2
    have zb := zb0.same s02
    rw [e] at ir
    refine iteF ?_
    refine ⟨_, rfl, b, _, 0, .str x0, rfl, rfl, zb.sq, ap_0, _, rfl, h, C, ad.dx, _, _, rfl, x2.at_, T.cl, T.n1, rfl, rfl, _, rfl, ?_⟩
    by_cases en : x0 = st.nm
    · rw [decide_eq_true (show V.str x0 = V.str st.nm by rw [en])]
      refine iteF ?_
      obtain ⟨q3, q4⟩ := q2 _ c e ir (by show some x0 = _; rw [en])
      refine ⟨_, rfl, h, ad.dx, _, rfl, x2.at_, (by rfl), h, st, ad, rfl, x2, fun ej => ?_, fun nj => (q3 nj).same s02⟩
      obtain ⟨q5, q6⟩ := q4 ej x1 rfl
      refine ⟨_, rfl, b, _, 1, .str x1, rfl, rfl, zb.sq, ap_1, _, rfl, h, C, ad.dx, _, _, rfl, x2.at_, T.cl, T.n2, rfl, ad.Lk, _, rfl, .inl (SqL.of x2.lk), rfl, flat_strs _, _, rfl, ?_⟩
      rw [if_pos rfl, inV_strs]
      by_cases m : x1 ∈ st.lk
      · rw [decide_eq_true m]
        refine iteF ?_
        refine ⟨_, rfl, _, rfl, h, C, ad.dx, _, rfl, x2.at_, T.cl, T.n4, (by show 7 < 1000; decide), ?_⟩
        refine ⟨_, rfl, h, C, ad.dx, _, rfl, upd_same, T.cl, T.n5, (by show 7 < 1000; decide), ?_⟩
        rw [upd_upd]
        have o3 : Off h H (upd H2 h (.ins C ad.dx [("own_name", .str st.nm), ("linked", .ref ad.Lk), ("logged", .ref ad.Ll), ("joined", .ref t), ("stage", .str "reserved"), ("queued", .ref ad.Lq), ("finished", .ref ad.La)])) := Off.upd fun b' u eb n => s02 _ _ eb
        have g3 : (upd H2 h (.ins C ad.dx [("own_name", .str st.nm), ("linked", .ref ad.Lk), ("logged", .ref ad.Ll), ("joined", .ref t), ("stage", .str "reserved"), ("queued", .ref ad.Lq), ("finished", .ref ad.La)])) h = some (.ins C ad.dx [("own_name", .str st.nm), ("linked", .ref ad.Lk), ("logged", .ref ad.Ll), ("joined", .ref t), ("stage", .str "reserved"), ("queued", .ref ad.Lq), ("finished", .ref ad.La)]) := upd_same
        have zt3 : Tz (upd H2 h (.ins C ad.dx [("own_name", .str st.nm), ("linked", .ref ad.Lk), ("logged", .ref ad.Ll), ("joined", .ref t), ("stage", .str "reserved"), ("queued", .ref ad.Lq), ("finished", .ref ad.La)])) t [.ref b, .int (c : Int)] := by
          obtain ⟨o, eo, r⟩ := za
          exact ⟨o, (upd_ne (ne_of eo x2.at_ (fun z => nomatch z))).trans eo, r⟩
        have zb3 : Tz (upd H2 h (.ins C ad.dx [("own_name", .str st.nm), ("linked", .ref ad.Lk), ("logged", .ref ad.Ll), ("joined", .ref t), ("stage", .str "reserved"), ("queued", .ref ad.Lq), ("finished", .ref ad.La)])) b ((x0 :: x1 :: rest).map V.str) := by
          obtain ⟨o, eo, r⟩ := zb
          exact ⟨o, (upd_ne (ne_of eo x2.at_ (fun z => nomatch z))).trans eo, r⟩
        rw [show putF "stage" (.str "reserved") (putF "joined" (.ref t) ([("own_name", .str st.nm), ("linked", .ref ad.Lk), ("logged", .ref ad.Ll), ("joined", ad.jv), ("stage", .str st.sg), ("queued", .ref ad.Lq), ("finished", .ref ad.La)] : List (Str × V))) = ([("own_name", .str st.nm), ("linked", .ref ad.Lk), ("logged", .ref ad.Ll), ("joined", .ref t), ("stage", .str "reserved"), ("queued", .ref ad.Lq), ("finished", .ref ad.La)] : List (Str × V)) from rfl]
        generalize upd H2 h (.ins C ad.dx [("own_name", .str st.nm), ("linked", .ref ad.Lk), ("logged", .ref ad.Ll), ("joined", .ref t), ("stage", .str "reserved"), ("queued", .ref ad.Lq), ("finished", .ref ad.La)]) = H3 at o3 g3 zt3 zb3 ⊢
        refine ⟨_, rfl, b, _, 1, .str x1, rfl, rfl, zb3.sq, ap_1, _, rfl, _, rfl, (by show 3 ≤ sizeLine; decide), fun t1 o1 n1 s4 y1 => ?_⟩
        generalize upd H3 t1 o1 = H4 at s4 y1 ⊢
        refine ⟨(by show 2 ≤ sizeLine; decide), fun t2 o2 n2 s5 y2 => ?_⟩
        generalize upd H4 t2 o2 = H5 at s5 y2 ⊢
        refine ⟨(by show 1 ≤ sizeLine; decide), fun L nL => ?_⟩
        have s6 := same_upd (o := .lst [.ref t2]) nL
        have s36 := (s4.trans s5).trans s6
        have o6 : Off h H (upd H5 L (.lst [.ref t2])) := fun b' u eb n => s36 _ _ (o3 _ _ eb n)
        have fk := FzK.off x.at_ o6
        obtain ⟨k1, k2, _, k4, k5⟩ := x.keep o6
        have nL0 : H L = none := o3.none g3 (same_no (s4.trans s5) nL)
        exact q6 m _ (.ref t) L t2 t1 o6 fk ⟨s36 _ _ g3, k1, k2, ⟨t, b, rfl, Tz.fz (zt3.same s36), Tz.fz (zb3.same s36)⟩, k4, k5, x.sep⟩ nL0 upd_same (y2.same s6) ((y1.same s5).same s6)
      · rw [decide_eq_false m]
        refine iteT ⟨_, rfl, h, C, ad.dx, _, _, rfl, x2.at_, T.cl, T.n1, rfl, _, rfl, b, _, 1, .str x1, rfl, rfl, zb.sq, ap_1, _, _, rfl, fun ex nd => ?_⟩
        exact q5 m _ ex (s02.trans (same_upd nd)) upd_same
    · rw [decide_eq_false (show ¬ V.str x0 = V.str st.nm from fun z => en (by injection z))]
      refine iteT ⟨_, rfl, _, rfl, fun ex nd => ?_⟩
      exact q1 (.inr ⟨_, c, e, fun z => en (by injection z)⟩) _ ex t (s02.trans (same_upd nd)) (z2.same (same_upd nd)) upd_same
end
end My

namespace My
open PySem PySem.Spec PyProof.Rows L2 Gy Xl Xs Xt Xo Xp
/-! ### which error -/
structure X47 (K : PySem.W.Frag) (mg : Str → Option Value) (W N I R T B L o1 o2 o3 o4 o5 o6 E0 : Addr) : Prop where
  gW : mg "InvalidWord" = some (.ref W)
  gN : mg "InvalidName" = some (.ref N)
  gI : mg "InvalidItem" = some (.ref I)
  gR : mg "InvalidRelink" = some (.ref R)
  gT : mg "NameTaken" = some (.ref T)
  gB : mg "Busy" = some (.ref B)
  gL : mg "NotALeaf" = some (.ref L)
  go1 : mg "EmptyChannel" = some (.ref o1)
  go2 : mg "InvalidStep" = some (.ref o2)
  go3 : mg "InvalidTree" = some (.ref o3)
  go4 : mg "NotLinked" = some (.ref o4)
  go5 : mg "TooMany" = some (.ref o5)
  go6 : mg "UnknownHost" = some (.ref o6)
  gE0 : mg "RelinkTreeError" = some (.ref E0)
  zV : mg "ValueError" = none
  zR : mg "RuntimeError" = none
  cl : ∀ (m : Nat) (C : Addr), [W, N, I, R, T, B, L][m]? = some C → XCl K C
  kW : ∀ (m : Nat) (C : Addr), [W, N, I, R, T, B, L][m]? = some C → PySem.W.kitOne K (.ref C) (.ref W) = some (decide (m = 0))
  kN : ∀ (m : Nat) (C : Addr), [W, N, I, R, T, B, L][m]? = some C → PySem.W.kitOne K (.ref C) (.ref N) = some (decide (m = 1))
  kI : ∀ (m : Nat) (C : Addr), [W, N, I, R, T, B, L][m]? = some C → PySem.W.kitOne K (.ref C) (.ref I) = some (decide (m = 2))
  kR : ∀ (m : Nat) (C : Addr), [W, N, I, R, T, B, L][m]? = some C → PySem.W.kitOne K (.ref C) (.ref R) = some (decide (m = 3))
  kT : ∀ (m : Nat) (C : Addr), [W, N, I, R, T, B, L][m]? = some C → PySem.W.kitOne K (.ref C) (.ref T) = some (decide (m = 4))
  kB : ∀ (m : Nat) (C : Addr), [W, N, I, R, T, B, L][m]? = some C → PySem.W.kitOne K (.ref C) (.ref B) = some (decide (m = 5))
  kL : ∀ (m : Nat) (C : Addr), [W, N, I, R, T, B, L][m]? = some C → PySem.W.kitOne K (.ref C) (.ref L) = some (decide (m = 6))
  kO : ∀ (m : Nat) (C : Addr), [W, N, I, R, T, B, L][m]? = some C → PySem.W.kitAny K (.ref C) [.ref o1, .ref o2, .ref o3, .ref o4, .ref o5, .ref o6] = some false
  kE : ∀ (m : Nat) (C : Addr), [W, N, I, R, T, B, L][m]? = some C → PySem.W.kitOne K (.ref C) (.ref E0) = some (decide (m < 4))
  kV : ∀ (m : Nat) (C : Addr), [W, N, I, R, T, B, L][m]? = some C → m < 4 → PySem.W.kitOne K (.ref C) (.type "ValueError") = some true
  kU : ∀ (m : Nat) (C : Addr), [W, N, I, R, T, B, L][m]? = some C → PySem.W.kitOne K (.ref C) (.type "RuntimeError") = some (decide (4 ≤ m))
def kn (m : Nat) : Str := match m with
  | 0 => "word"
  | 1 => "name"
  | 2 => "item"
  | 3 => "relink"
  | 4 => "taken"
  | 5 => "busy"
  | _ => "leaf"
def kfl (m : Nat) : List V := [.bl (decide (m = 0)), .bl (decide (m = 1)), .bl (decide (m = 2)), .bl (decide (m = 3)), .bl (decide (m = 4)), .bl (decide (m = 5)), .bl (decide (m = 6))]
theorem kfl_cnt : ∀ m < 7, (kfl m).countP (fun z => eqV z (.bl true)) = 1 := by decide
theorem kfl_lo : ∀ m < 7, inV (.bl true) (cutV (kfl m) none (some 4)) = decide (m < 4) := by decide
theorem kfl_hi : ∀ m < 7, inV (.bl true) (cutV (kfl m) (some 4) none) = decide (4 ≤ m) := by decide
theorem kfl_flat (m : Nat) : (kfl m).all flatV = true := rfl
theorem ne_bases {x y z1 z2 : Bool} (e1 : x = z1) (e2 : y = z2) : ¬ (!PyData.eqv (.list [.bool x, .bool y]) (.list [.bool z1, .bool z2])) = true := by
  subst e1 e2
  cases x <;> cases y <;> decide
theorem flat_cut {xs : List V} {lo hi : Option Int} (h : xs.all flatV = true) : (cutV xs lo hi).all flatV = true := by
  rw [List.all_eq_true] at h ⊢
  unfold cutV
  exact fun x hx => h x (List.mem_of_mem_drop (List.mem_of_mem_take hx))
theorem kfl_at : ∀ m < 7, (kfl m)[m]? = some (.bl true) := fun m h => by
  match m, h with
  | 0, _ | 1, _ | 2, _ | 3, _ | 4, _ | 5, _ | 6, _ => rfl
theorem kfl_no : ∀ m < 7, ∀ j < m, ∀ z, (kfl m)[j]? = some z → eqV z (.bl true) = false := fun m h j hj z e => by
  have : ∀ m < 7, ∀ j < m, ((kfl m)[j]?.any fun z => eqV z (.bl true)) = false := by decide
  have := this m h j hj
  rw [e] at this
  exact this
theorem kn_at : ∀ m < 7, [V.str "word", .str "name", .str "item", .str "relink", .str "taken", .str "busy", .str "leaf"][m]? = some (.str (kn m)) := fun m h => by
  match m, h with
  | 0, _ | 1, _ | 2, _ | 3, _ | 4, _ | 5, _ | 6, _ => rfl
theorem any_six {P : List Value → Prop} {x1 x2 x3 x4 x5 x6 : Addr} {its : List Value} (h : Vals [.ref x1, .ref x2, .ref x3, .ref x4, .ref x5, .ref x6] its) (p : P [.ref x1, .ref x2, .ref x3, .ref x4, .ref x5, .ref x6]) : P its := by
  cases h with
  | cons r1 h =>
    cases h with
    | cons r2 h =>
      cases h with
      | cons r3 h =>
        cases h with
        | cons r4 h =>
          cases h with
          | cons r5 h =>
            cases h with
            | cons r6 h =>
              cases h
              cases r1
              cases r2
              cases r3
              cases r4
              cases r5
              cases r6
              exact p
def spKd (K : PySem.W.Frag) (W N I R T B L : Addr) : SpE := fun a cls d vs H Q _ => ∃ (m : Nat) (C dd : Addr) (fs : List (Str × V)), vs = [.ref a] ∧ cls = .ref C ∧ d = some dd ∧ H dd = some (.xd fs) ∧ [W, N, I, R, T, B, L][m]? = some C ∧ ∀ H', Same H H' → Q (.str (kn m)) H'
section
variable {P : Program} {w : World} {K : PySem.W.Frag} {mg : Str → Option Value} {base : Heap} {W N I R T B L o1 o2 o3 o4 o5 o6 E0 : Addr}
theorem ok_lkind {f : Addr} {fd : FuncData} (F : Fun K "_law_kind" "_law_kind" s_law_kind f fd) (Y : Bn mg) (G : Cg K) (XX : X47 K mg W N I R T B L o1 o2 o3 o4 o5 o6 E0) : FnP P w K mg base 1 f fd ["_law_e"] (spKd K W N I R T B L) := by
  refine fun_P F sc_law_kind (fun {a cls d vs H Q E} h => ?_) (fun cdv A outer s H vs Q E a oe cls d hz hf hr h => ?_)
  · obtain ⟨m, C, dd, fs, rfl, _⟩ := h
    rfl
  · obtain ⟨m, C, dd, fs, rfl, rfl, rfl, hd, hm, q⟩ := h
    have hu64 : (A.deeper (envOfC "_law_kind" (defScope s_law_kind) s.heap.objs.size f cdv)).units + 64 < cLine := by have := hr.un; omega
    have m7 : m < 7 := (List.getElem?_eq_some_iff.mp hm).1
    have xc := XX.cl m C hm
    refine ⟨_, (pss_cons (ps_set (i := 1) sc_law_kind.nd rfl (.inl rfl) (pe_lst (pa_cons (pe_callB (show CallR _ (.builtin "isinstance") (rIsS K a (.ref C) (some dd)) from call_isSP List.mem_cons_self G.cg G.ct hz hf) (by rfl) Y.isinstance (by decide +kernel) (pa_cons (pv 0) (pa_cons (pe_glob (v := .ref W) (by rfl) XX.gW rfl) pa_nil))) (pa_cons (pe_callB (show CallR _ (.builtin "isinstance") (rIsS K a (.ref C) (some dd)) from call_isSP List.mem_cons_self G.cg G.ct hz hf) (by rfl) Y.isinstance (by decide +kernel) (pa_cons (pv 0) (pa_cons (pe_glob (v := .ref N) (by rfl) XX.gN rfl) pa_nil))) (pa_cons (pe_callB (show CallR _ (.builtin "isinstance") (rIsS K a (.ref C) (some dd)) from call_isSP List.mem_cons_self G.cg G.ct hz hf) (by rfl) Y.isinstance (by decide +kernel) (pa_cons (pv 0) (pa_cons (pe_glob (v := .ref I) (by rfl) XX.gI rfl) pa_nil))) pa_nil)))))
 (pss_cons (ps_set (i := 1) sc_law_kind.nd rfl (.inl rfl) (pe_op op_cat (pv 1) (pe_lst (pa_cons (pe_callB (show CallR _ (.builtin "isinstance") (rIsS K a (.ref C) (some dd)) from call_isSP List.mem_cons_self G.cg G.ct hz hf) (by rfl) Y.isinstance (by decide +kernel) (pa_cons (pv 0) (pa_cons (pe_glob (v := .ref R) (by rfl) XX.gR rfl) pa_nil))) (pa_cons (pe_callB (show CallR _ (.builtin "isinstance") (rIsS K a (.ref C) (some dd)) from call_isSP List.mem_cons_self G.cg G.ct hz hf) (by rfl) Y.isinstance (by decide +kernel) (pa_cons (pv 0) (pa_cons (pe_glob (v := .ref T) (by rfl) XX.gT rfl) pa_nil))) (pa_cons (pe_callB (show CallR _ (.builtin "isinstance") (rIsS K a (.ref C) (some dd)) from call_isSP List.mem_cons_self G.cg G.ct hz hf) (by rfl) Y.isinstance (by decide +kernel) (pa_cons (pv 0) (pa_cons (pe_glob (v := .ref B) (by rfl) XX.gB rfl) pa_nil))) pa_nil))))))
 (pss_cons (ps_expr (pe_bm PySem.F.plainAttrs_list PySem.F.slot_list_append PySem.F.type_list_append mt_append (pv 1) (pa_cons (pe_callB (show CallR _ (.builtin "isinstance") (rIsS K a (.ref C) (some dd)) from call_isSP List.mem_cons_self G.cg G.ct hz hf) (by rfl) Y.isinstance (by decide +kernel) (pa_cons (pv 0) (pa_cons (pe_glob (v := .ref L) (by rfl) XX.gL rfl) pa_nil))) pa_nil)))
 (pss_cons (ps_set (i := 2) sc_law_kind.nd rfl (.inl rfl) (pe_callB (show CallR _ (.builtin "isinstance") (rIsT K a (.ref C) (some dd)) from call_isTP List.mem_cons_self G.cg G.ct hz hf) (by rfl) Y.isinstance (by decide +kernel) (pa_cons (pv 0) (pa_cons (pe_tupZ (pa_cons (pe_glob (v := .ref o1) (by rfl) XX.go1 rfl) (pa_cons (pe_glob (v := .ref o2) (by rfl) XX.go2 rfl) (pa_cons (pe_glob (v := .ref o3) (by rfl) XX.go3 rfl) (pa_cons (pe_glob (v := .ref o4) (by rfl) XX.go4 rfl) (pa_cons (pe_glob (v := .ref o5) (by rfl) XX.go5 rfl) (pa_cons (pe_glob (v := .ref o6) (by rfl) XX.go6 rfl) pa_nil))))))) pa_nil))))
 (pss_cons (ps_set (i := 3) sc_law_kind.nd rfl (.inl rfl) (pe_lst (pa_cons (pe_and (pe_callB (show CallR _ (.builtin "isinstance") (rIsS K a (.ref C) (some dd)) from call_isSP List.mem_cons_self G.cg G.ct hz hf) (by rfl) Y.isinstance (by decide +kernel) (pa_cons (pv 0) (pa_cons (pe_glob (v := .ref E0) (by rfl) XX.gE0 rfl) pa_nil))) (pe_one (pe_callB (show CallR _ (.builtin "isinstance") (rIsS K a (.ref C) (some dd)) from call_isSP List.mem_cons_self G.cg G.ct hz hf) (by rfl) Y.isinstance (by decide +kernel) (pa_cons (pv 0) (pa_cons (pe_bltn (v := .ty "ValueError") (by rfl) XX.zV (by decide +kernel) rfl) pa_nil))))) (pa_cons (pe_callB (show CallR _ (.builtin "isinstance") (rIsS K a (.ref C) (some dd)) from call_isSP List.mem_cons_self G.cg G.ct hz hf) (by rfl) Y.isinstance (by decide +kernel) (pa_cons (pv 0) (pa_cons (pe_bltn (v := .ty "RuntimeError") (by rfl) XX.zR (by decide +kernel) rfl) pa_nil))) pa_nil))))
 (pss_cons (ps_if (PW.pt (pw_or (pt_val (pv 2)) (pw_or (pt_cmpR op_ne (show PE _ _ (tBM K "list" (rCntF K) (tVar 1) _) from pe_bm PySem.F.plainAttrs_list PySem.F.slot_list_count PySem.F.type_list_count mt_lcountF (pv 1) (pa_cons pe_bl pa_nil)) pe_int (nomark _)) (pw_or1 (pt_cmpR (op_neD hu64) (pv 3) (pe_lst (pa_cons (pe_cmpR op_in_seq pe_bl (pe_slice sl_list (pv 1) po_none (po_some pe_int)) rfl) (pa_cons (pe_cmpR op_in_seq pe_bl (pe_slice sl_list (pv 1) (po_some pe_int) po_none) rfl) pa_nil))) (nomark _))))))
 (pss_one (ps_ret pe_str))
 pss_nil)
 (pss_one (ps_ret (pe_ix ix_list (pe_lst (pa_cons pe_str (pa_cons pe_str (pa_cons pe_str (pa_cons pe_str (pa_cons pe_str (pa_cons pe_str (pa_cons pe_str pa_nil)))))))) (pe_bm PySem.F.plainAttrs_list PySem.F.slot_list_index PySem.F.type_list_index mt_index (pv 1) (pa_cons pe_bl pa_nil)) (fun _ _ => rfl)))))))))), ?_⟩
    refine ⟨_, rfl, C, dd, _, .ref W, .ref W, _, rfl, rfl, rfl, hd, xc, .own W, XX.kW m C hm, _, rfl, C, dd, _, .ref N, .ref N, _, rfl, rfl, rfl, hd, xc, .own N, XX.kN m C hm, _, rfl, C, dd, _, .ref I, .ref I, _, rfl, rfl, rfl, hd, xc, .own I, XX.kI m C hm, (by show 3 ≤ sizeLine; decide), fun l1 n1 => ?_⟩
    generalize hg : upd H l1 _ = H1
    obtain ⟨s1, g1⟩ := upd_new hg n1
    clear hg
    have hd1 := s1 _ _ hd
    refine ⟨_, rfl, _, rfl, C, dd, _, .ref R, .ref R, _, rfl, rfl, rfl, hd1, xc, .own R, XX.kR m C hm, _, rfl, C, dd, _, .ref T, .ref T, _, rfl, rfl, rfl, hd1, xc, .own T, XX.kT m C hm, _, rfl, C, dd, _, .ref B, .ref B, _, rfl, rfl, rfl, hd1, xc, .own B, XX.kB m C hm, (by show 3 ≤ sizeLine; decide), fun l2 n2 => ?_⟩
    generalize hg : upd H1 l2 _ = H2
    obtain ⟨s2, g2⟩ := upd_new hg n2
    clear hg
    refine ⟨l1, l2, _, _, rfl, rfl, s2 _ _ g1, g2, (by show 6 ≤ sizeLine; decide), fun p np => ?_⟩
    generalize hg : upd H2 p _ = H3
    obtain ⟨s3, g3⟩ := upd_new hg np
    clear hg
    have s03 := (s1.trans s2).trans s3
    have hd3 := s03 _ _ hd
    have np0 := same_no (s1.trans s2) np
    refine ⟨_, rfl, .inl ⟨rfl, _, SqL.of g3⟩, _, rfl, C, dd, _, .ref L, .ref L, _, rfl, rfl, rfl, hd3, xc, .own L, XX.kL m C hm, p, _, _, rfl, rfl, g3, (by show 6 < sizeLine; decide), ?_⟩
    generalize hh : upd H3 p _ = H4
    have hh : upd H3 p (.lst (kfl m)) = H4 := hh
    have s4 : Same H H4 := fun b o e => by
      rw [← hh]
      exact (upd_ne (fun z => by rw [z, np0] at e; cases e)).trans (s03 b o e)
    have g4 : H4 p = some (.lst (kfl m)) := by
      rw [← hh]
      exact upd_same
    clear hh
    have hd4 := s4 _ _ hd
    refine ⟨_, rfl, (by show 6 ≤ sizeLine; decide), fun t5 o5' n5 s5 z5 => ?_⟩
    generalize upd H4 t5 o5' = H5 at s5 z5 ⊢
    have hd5 := s5 _ _ hd4
    refine ⟨C, dd, t5, _, _, false, rfl, rfl, rfl, hd5, xc, z5, (fun its rv => any_six (P := fun l => PySem.W.kitAny K (.ref C) l = some false) rv (XX.kO m C hm)), ?_⟩
    refine ⟨_, rfl, C, dd, _, .ref E0, .ref E0, _, rfl, rfl, rfl, hd5, xc, .own E0, XX.kE m C hm, _, rfl, ?_⟩
    rcases Nat.lt_or_ge m 4 with h4 | h4
    · rw [decide_eq_true h4]
      refine iteT ⟨_, rfl, C, dd, _, .ty "ValueError", .type "ValueError", true, rfl, rfl, rfl, hd5, xc, .ty "ValueError", XX.kV m C hm h4, ?_⟩
      refine ⟨_, rfl, C, dd, _, .ty "RuntimeError", .type "RuntimeError", _, rfl, rfl, rfl, hd5, xc, .ty "RuntimeError", XX.kU m C hm, (by show 2 ≤ sizeLine; decide), fun l6 n6 => ?_⟩
      generalize hg : upd H5 l6 _ = H6
      obtain ⟨s6, g6⟩ := upd_new hg n6
      clear hg
      have g46 := s6 _ _ (s5 _ _ g4)
      refine ⟨_, rfl, _, rfl, iteF ?_⟩
      refine ⟨_, rfl, .inl ⟨rfl, _, SqL.of g46⟩, p, kfl m, .bl true, rfl, rfl, SqL.of g46, rfl, rfl, ?_⟩
      rw [kfl_cnt m m7]
      refine ⟨rfl, _, rfl, ite2 (fun c => absurd c (by decide)) fun _ => ?_⟩
      refine ⟨_, rfl, _, rfl, 4, rfl, p, kfl m, rfl, SqL.of g46, fun l7 n7 => ?_⟩
      generalize hg : upd H6 l7 _ = H7
      obtain ⟨s7, g7⟩ := upd_new hg n7
      clear hg
      refine ⟨l7, _, rfl, .inl (SqL.of g7), rfl, (flat_cut (kfl_flat m)), ?_⟩
      refine ⟨_, rfl, 4, rfl, p, kfl m, rfl, SqL.of (s7 _ _ g46), fun l8 n8 => ?_⟩
      generalize hg : upd H7 l8 _ = H8
      obtain ⟨s8, g8⟩ := upd_new hg n8
      clear hg
      refine ⟨l8, _, rfl, .inl (SqL.of g8), rfl, (flat_cut (kfl_flat m)), (by show 2 ≤ sizeLine; decide), fun l9 n9 => ?_⟩
      generalize hg : upd H8 l9 _ = H9
      obtain ⟨s9, g9⟩ := upd_new hg n9
      clear hg
      have s69 := (s7.trans s8).trans s9
      refine ⟨_, _, .lst (SqL.of (s69 _ _ g6)) (.cons (.bl _) (.cons (.bl _) .nil)), .lst (SqL.of g9) (.cons (.bl _) (.cons (.bl _) .nil)), rfl, rfl, _, rfl, ite2 (fun c => absurd c (ne_bases ((kfl_lo m m7).trans (decide_eq_true h4)).symm (kfl_hi m m7).symm)) fun _ => ?_⟩
      refine ⟨(by show 7 ≤ sizeLine; decide), fun l10 n10 => ?_⟩
      generalize hg : upd H9 l10 _ = H10
      obtain ⟨s10, g10⟩ := upd_new hg n10
      clear hg
      have s6a := s69.trans s10
      have s4a := (s5.trans s6).trans s6a
      exact ⟨_, rfl, .inl ⟨rfl, _, SqL.of (s4a _ _ g4)⟩, p, kfl m, .bl true, m, .bl true, rfl, rfl, SqL.of (s4a _ _ g4), rfl, rfl, kfl_at m m7, rfl, (fun j z hj e => kfl_no m m7 j hj z e), l10, _, ((m : Nat) : Int), .str (kn m), rfl, rfl, SqL.of g10, atI_nat (kn_at m m7), q _ (s4.trans s4a)⟩
    · rw [decide_eq_false (Nat.not_lt.mpr h4)]
      refine iteF ?_
      refine ⟨_, rfl, C, dd, _, .ty "RuntimeError", .type "RuntimeError", _, rfl, rfl, rfl, hd5, xc, .ty "RuntimeError", XX.kU m C hm, (by show 2 ≤ sizeLine; decide), fun l6 n6 => ?_⟩
      generalize hg : upd H5 l6 _ = H6
      obtain ⟨s6, g6⟩ := upd_new hg n6
      clear hg
      have g46 := s6 _ _ (s5 _ _ g4)
      refine ⟨_, rfl, _, rfl, iteF ?_⟩
      refine ⟨_, rfl, .inl ⟨rfl, _, SqL.of g46⟩, p, kfl m, .bl true, rfl, rfl, SqL.of g46, rfl, rfl, ?_⟩
      rw [kfl_cnt m m7]
      refine ⟨rfl, _, rfl, ite2 (fun c => absurd c (by decide)) fun _ => ?_⟩
      refine ⟨_, rfl, _, rfl, 4, rfl, p, kfl m, rfl, SqL.of g46, fun l7 n7 => ?_⟩
      generalize hg : upd H6 l7 _ = H7
      obtain ⟨s7, g7⟩ := upd_new hg n7
      clear hg
      refine ⟨l7, _, rfl, .inl (SqL.of g7), rfl, (flat_cut (kfl_flat m)), ?_⟩
      refine ⟨_, rfl, 4, rfl, p, kfl m, rfl, SqL.of (s7 _ _ g46), fun l8 n8 => ?_⟩
      generalize hg : upd H7 l8 _ = H8
      obtain ⟨s8, g8⟩ := upd_new hg n8
      clear hg
      refine ⟨l8, _, rfl, .inl (SqL.of g8), rfl, (flat_cut (kfl_flat m)), (by show 2 ≤ sizeLine; decide), fun l9 n9 => ?_⟩
      generalize hg : upd H8 l9 _ = H9
      obtain ⟨s9, g9⟩ := upd_new hg n9
      clear hg
      have s69 := (s7.trans s8).trans s9
      refine ⟨_, _, .lst (SqL.of (s69 _ _ g6)) (.cons (.bl _) (.cons (.bl _) .nil)), .lst (SqL.of g9) (.cons (.bl _) (.cons (.bl _) .nil)), rfl, rfl, _, rfl, ite2 (fun c => absurd c (ne_bases ((kfl_lo m m7).trans (decide_eq_false (Nat.not_lt.mpr h4))).symm (kfl_hi m m7).symm)) fun _ => ?_⟩
      refine ⟨(by show 7 ≤ sizeLine; decide), fun l10 n10 => ?_⟩
      generalize hg : upd H9 l10 _ = H10
      obtain ⟨s10, g10⟩ := upd_new hg n10
      clear hg
      have s6a := s69.trans s10
      have s4a := (s5.trans s6).trans s6a
      exact ⟨_, rfl, .inl ⟨rfl, _, SqL.of (s4a _ _ g4)⟩, p, kfl m, .bl true, m, .bl true, rfl, rfl, SqL.of (s4a _ _ g4), rfl, rfl, kfl_at m m7, rfl, (fun j z hj e => kfl_no m m7 j hj z e), l10, _, ((m : Nat) : Int), .str (kn m), rfl, rfl, SqL.of g10, atI_nat (kn_at m m7), q _ (s4.trans s4a)⟩
end
end My

namespace My
open PySem PySem.Spec PyProof.Rows L2 Gy Xl Xs Xt Xo Xp Xq LamX
/-! ### what a call that a lambda makes raises -/
theorem pe_or {X : Cx} {e : Expr} {t1 t2 : TE} (h1 : PE X e t1) (h2 : PE X e t2) : PE X e (fun σ H Q => t1 σ H Q ∨ t2 σ H Q) := ⟨fun pins s σ H Q I h => h.elim (fun h => h1.run pins s σ H Q I h) fun h => h2.run pins s σ H Q I h⟩
theorem xf_of {K : PySem.W.Frag} {C : Addr} (x : XCl K C) : XfC K C := ⟨x.ga, x.gg, x.ex, x.hd⟩
/-- a def told of the caught error -/
structure Fp (P : Program) (w : World) (K : PySem.W.Frag) (mg : Str → Option Value) (base : Heap) (k : Nat) (nm : Str) (ps : List Str) (sp : SpE) : Prop where
  ex : ∃ (f : Addr) (fd : FuncData), mg nm = some (.ref f) ∧ PySem.W.keepIn K (.ref f) = true ∧ Binds K fd ps [] ∧ FnP P w K mg base k f fd ps sp
/-- what the clauses hit, where the fields are found -/
structure X47t (K : PySem.W.Frag) (W N I R T B L : Addr) : Prop where
  h1 : ∀ (m : Nat) (C : Addr), [W, N, I, R, T, B, L][m]? = some C → PySem.W.exmAny K (.ref C) [.ref W, .ref N, .ref I, .ref R] = some (decide (m < 4))
  h2 : ∀ (m : Nat) (C : Addr), [W, N, I, R, T, B, L][m]? = some C → 4 ≤ m → PySem.W.exmOne K (.ref C) (.ref T) = some (decide (m = 4))
  h3 : ∀ (m : Nat) (C : Addr), [W, N, I, R, T, B, L][m]? = some C → 5 ≤ m → PySem.W.exmAny K (.ref C) [.ref B, .ref L] = some true
  fW : PySem.W.findIn K (.ref W) "value" = some none
  fN : PySem.W.findIn K (.ref N) "value" = some none
  fI : PySem.W.findIn K (.ref I) "value" = some none
  fR : PySem.W.findIn K (.ref R) "value" = some none
  fT : PySem.W.findIn K (.ref T) "value" = some none
  fB : PySem.W.findIn K (.ref B) "host" = some none
  fL : PySem.W.findIn K (.ref L) "host" = some none
def fldE (m : Nat) : Str := if m < 5 then "value" else "host"
/-- what is told when the call raises one of the errors -/
def HTold (K : PySem.W.Frag) (W N I R T B L : Addr) (Q : VK) (cls : Value) (dx : Option Addr) (H' : Hp) : Prop :=
  ∃ (m : Nat) (C : Addr) (v : V) (d : PyData) (dd : Addr), [W, N, I, R, T, B, L][m]? = some C ∧ cls = .ref C ∧ dx = some dd ∧ H' dd = some (.xd [(fldE m, v)]) ∧ Dn K H' v d ∧ Fits (.tuple [.str (kn m), d]) ∧ ∀ H'', Same H' H'' → Q (.str (PyData.shown (.tuple [.str (kn m), d]))) H''
def TTold (K : PySem.W.Frag) (W N I R T B L : Addr) (tl : XK → Hp → VK → Prop) (H : Hp) (Q : VK) : Prop := ∀ (H1 : Hp) (Ech : XK) (Q' : VK), Same H H1 → (∀ cls dx H', HTold K W N I R T B L Q cls dx H' → Ech cls dx H') → tl Ech H1 Q'
section
variable {X : Cx} {W N I R T B L o1 o2 o3 o4 o5 o6 E0 : Addr}
theorem told_gives {g : Addr} {cdg : Value} {q : Str} (Y : Bn X.mg) (G : Cg X.K) (gd : X.A.guards = some []) (hr : Room 2 X.A) (XX : X47 X.K X.mg W N I R T B L o1 o2 o3 o4 o5 o6 E0) (XT : X47t X.K W N I R T B L)
    (KF : Fp X.prog X.w X.K X.mg X.base 1 "_law_kind" ["_law_e"] (spKd X.K W N I R T B L)) :
    GivesS X ["_law_call", "_law_told_here", "_law_e"] "_law_told" (defScope s_law_told) g cdg (defBody s_law_told) "_law_call" q (TTold X.K W N I R T B L) := by
  intro f c' s H Q tl act hc h
  obtain ⟨fk, fdk, mk, kk, bk, Fk_⟩ := KF.ex
  have hr' : Room 1 (cxOf C8.CX0 X.prog X.w X.K X.mg X.base ["_law_call", "_law_told_here", "_law_e"] "_law_told" (defScope s_law_told) g cdg X.A X.stack s H C8.E0).nox.A := hr.deeper _
  have gd' : (cxOf C8.CX0 X.prog X.w X.K X.mg X.base ["_law_call", "_law_told_here", "_law_e"] "_law_told" (defScope s_law_told) g cdg X.A X.stack s H C8.E0).nox.A.guards = some [] := gd
  have hu70 := Room.units70 hr'
  refine ⟨_, pss_cons (ps_set (i := 1) sc_law_told.nd rfl (.inl rfl) (pe_tupZ (pa_cons pe_str (pa_cons pe_non pa_nil))))
    (pss_cons (ps_try_T (i := 2) (n := "_law_e") (tb := fun W D σ H => σ[0]? = some (some (.ref f)) ∧ H c' = some (CodeO c' q) ∧ tl (WE W σ) H fun _ H' => D.nx σ H') rfl rfl sc_law_told.nd rfl rfl L2.takes0
      (fun W pn xe tk _ => ?_)
      (.tup (.cons ⟨rfl, by decide, .inl XX.gW⟩ (.cons ⟨rfl, by decide, .inl XX.gN⟩ (.cons ⟨rfl, by decide, .inl XX.gI⟩ (.cons ⟨rfl, by decide, .inl XX.gR⟩ .nil)))) (.inr rfl) rfl (fun a oe cls d pn hz hf => pss_one (ps_set (i := 1) sc_law_told.nd rfl (.inl rfl) (pe_tupZ (pa_cons (pe_callP Fk_ ⟨hr'.dp, hr'.un⟩ hz hf (by rfl) mk kk bk (pa_cons (pv 2) pa_nil)) (pa_cons (pe_or (pe_xf (xf_of (XX.cl 0 W rfl)) XT.fW hz hf (pv 2)) (pe_or (pe_xf (xf_of (XX.cl 1 N rfl)) XT.fN hz hf (pv 2)) (pe_or (pe_xf (xf_of (XX.cl 2 I rfl)) XT.fI hz hf (pv 2)) (pe_xf (xf_of (XX.cl 3 R rfl)) XT.fR hz hf (pv 2))))) pa_nil)))))
      (.one ⟨rfl, by decide, .inl XX.gT⟩ (fun a oe cls d pn hz hf => pss_one (ps_set (i := 1) sc_law_told.nd rfl (.inl rfl) (pe_tupZ (pa_cons (pe_callP Fk_ ⟨hr'.dp, hr'.un⟩ hz hf (by rfl) mk kk bk (pa_cons (pv 2) pa_nil)) (pa_cons (pe_xf (xf_of (XX.cl 4 T rfl)) XT.fT hz hf (pv 2)) pa_nil)))))
      (.tup (.cons ⟨rfl, by decide, .inl XX.gB⟩ (.cons ⟨rfl, by decide, .inl XX.gL⟩ .nil)) (.inl rfl) rfl (fun a oe cls d pn hz hf => pss_one (ps_set (i := 1) sc_law_told.nd rfl (.inl rfl) (pe_tupZ (pa_cons (pe_callP Fk_ ⟨hr'.dp, hr'.un⟩ hz hf (by rfl) mk kk bk (pa_cons (pv 2) pa_nil)) (pa_cons (pe_or (pe_xf (xf_of (XX.cl 5 B rfl)) XT.fB hz hf (pv 2)) (pe_xf (xf_of (XX.cl 6 L rfl)) XT.fL hz hf (pv 2))) pa_nil))))) .nil))))
    (pss_one (ps_ret (pe_callB (show CallR _ (.builtin "repr") (rReprN X.K) from repr_dn gd' hu70) (by rfl) Y.repr (by decide +kernel) (pa_cons (pv 1) pa_nil))))), ?_⟩
  · refine ⟨fun pins s' σ H' D I' h' => ?_⟩
    exact (pss_one (ps_expr (act W pn xe _ _ tk))).run pins s' σ H' D I' h'
  · refine ⟨(by show 2 ≤ sizeLine; decide), fun t1 o1 n1 s1 z1 => ?_⟩
    refine ⟨rfl, s1 _ _ hc, h _ _ _ s1 ?_⟩
    rintro cls dx H' ⟨m, C, v, d, dd, hm, rfl, rfl, hd, dn, ft, q⟩
    have m7 : m < 7 := (List.getElem?_eq_some_iff.mp hm).1
    refine ⟨_, XT.h1 m C hm, fun c4 a na => ?_, fun c4 => ?_⟩
    · have c4 := of_decide_eq_true c4
      obtain rfl | rfl | rfl | rfl : m = 0 ∨ m = 1 ∨ m = 2 ∨ m = 3 := by omega
      · obtain rfl : W = C := Option.some.inj hm
        exact ⟨_, rfl, 0, W, dd, _, rfl, rfl, rfl, hd, hm, fun H2 s2 => .inl ⟨_, rfl, rfl, rfl, dd, _, v, rfl, s2 _ _ hd, rfl, (by show 2 ≤ sizeLine; decide), fun t3 o3 n3 s3 z3 => ⟨_, rfl, _, _, rfl, .tup z3 (.cons (.str _) (.cons (dn.same (s2.trans s3)) .nil)), ft.1, ft.2.1, ft.2.2, q _ (s2.trans s3)⟩⟩⟩
      · obtain rfl : N = C := Option.some.inj hm
        exact ⟨_, rfl, 1, N, dd, _, rfl, rfl, rfl, hd, hm, fun H2 s2 => .inr (.inl ⟨_, rfl, rfl, rfl, dd, _, v, rfl, s2 _ _ hd, rfl, (by show 2 ≤ sizeLine; decide), fun t3 o3 n3 s3 z3 => ⟨_, rfl, _, _, rfl, .tup z3 (.cons (.str _) (.cons (dn.same (s2.trans s3)) .nil)), ft.1, ft.2.1, ft.2.2, q _ (s2.trans s3)⟩⟩)⟩
      · obtain rfl : I = C := Option.some.inj hm
        exact ⟨_, rfl, 2, I, dd, _, rfl, rfl, rfl, hd, hm, fun H2 s2 => .inr (.inr (.inl ⟨_, rfl, rfl, rfl, dd, _, v, rfl, s2 _ _ hd, rfl, (by show 2 ≤ sizeLine; decide), fun t3 o3 n3 s3 z3 => ⟨_, rfl, _, _, rfl, .tup z3 (.cons (.str _) (.cons (dn.same (s2.trans s3)) .nil)), ft.1, ft.2.1, ft.2.2, q _ (s2.trans s3)⟩⟩))⟩
      · obtain rfl : R = C := Option.some.inj hm
        exact ⟨_, rfl, 3, R, dd, _, rfl, rfl, rfl, hd, hm, fun H2 s2 => .inr (.inr (.inr ⟨_, rfl, rfl, rfl, dd, _, v, rfl, s2 _ _ hd, rfl, (by show 2 ≤ sizeLine; decide), fun t3 o3 n3 s3 z3 => ⟨_, rfl, _, _, rfl, .tup z3 (.cons (.str _) (.cons (dn.same (s2.trans s3)) .nil)), ft.1, ft.2.1, ft.2.2, q _ (s2.trans s3)⟩⟩))⟩
    have c4 := of_decide_eq_false c4
    refine ⟨_, XT.h2 m C hm (by omega), fun c5 a na => ?_, fun c5 => ?_⟩
    · obtain rfl := of_decide_eq_true c5
      obtain rfl : T = C := Option.some.inj hm
      exact ⟨_, rfl, 4, T, dd, _, rfl, rfl, rfl, hd, hm, fun H2 s2 => ⟨_, rfl, rfl, rfl, dd, _, v, rfl, s2 _ _ hd, rfl, (by show 2 ≤ sizeLine; decide), fun t3 o3 n3 s3 z3 => ⟨_, rfl, _, _, rfl, .tup z3 (.cons (.str _) (.cons (dn.same (s2.trans s3)) .nil)), ft.1, ft.2.1, ft.2.2, q _ (s2.trans s3)⟩⟩⟩
    have c5 := of_decide_eq_false c5
    refine ⟨true, XT.h3 m C hm (by omega), fun _ a na => ?_, fun z => nomatch z⟩
    obtain rfl | rfl : m = 5 ∨ m = 6 := by omega
    · obtain rfl : B = C := Option.some.inj hm
      exact ⟨_, rfl, 5, B, dd, _, rfl, rfl, rfl, hd, hm, fun H2 s2 => .inl ⟨_, rfl, rfl, rfl, dd, _, v, rfl, s2 _ _ hd, rfl, (by show 2 ≤ sizeLine; decide), fun t3 o3 n3 s3 z3 => ⟨_, rfl, _, _, rfl, .tup z3 (.cons (.str _) (.cons (dn.same (s2.trans s3)) .nil)), ft.1, ft.2.1, ft.2.2, q _ (s2.trans s3)⟩⟩⟩
    · obtain rfl : L = C := Option.some.inj hm
      exact ⟨_, rfl, 6, L, dd, _, rfl, rfl, rfl, hd, hm, fun H2 s2 => .inr ⟨_, rfl, rfl, rfl, dd, _, v, rfl, s2 _ _ hd, rfl, (by show 2 ≤ sizeLine; decide), fun t3 o3 n3 s3 z3 => ⟨_, rfl, _, _, rfl, .tup z3 (.cons (.str _) (.cons (dn.same (s2.trans s3)) .nil)), ft.1, ft.2.1, ft.2.2, q _ (s2.trans s3)⟩⟩⟩
end
end My

namespace My
open PySem PySem.Spec PyProof.Rows L2 Gy Xl Xs Xt Xo Xp Xq LamX
/-! ### values that are no words, names, items -/
theorem upd_new2 {H H' : Hp} {p : Addr} {o o' : HO} (hg : upd (upd H p o) p o' = H') (n : H p = none) : Same H H' ∧ H' p = some o' := by
  subst hg
  exact ⟨same_upd2 (same_upd n) n, upd_same⟩
def oddD : List PyData := [.none, .int 0, .int 1, .bool true, .bool false, .str "", .str "A", .str "a b", .str "a1-", .list [], .tuple [], .dict [], .list [.str "a"], .tuple [.str "a"], .dict [(.str "a", .int 1)], .int (-1), .int (10 ^ 20), .str "a\n"]
def itemD : List PyData := [.tuple [.str "message", .str "a", .str "x"], .tuple [.str "message", .str "a", .str "x", .int 2], .tuple [.str "message", .str "a", .str "x", .bool true], .tuple [.str "message", .str "A", .str "x", .int 0], .tuple [.str "message", .str "a", .str "", .int 0], .list [.str "message", .str "a", .str "x", .int 0], .tuple [.str "yes", .tuple [.str "a", .str "b", .str "c"]], .tuple [.str "yes", .tuple [.str "a", .str "b", .str "c"], .int 2], .tuple [.str "yes", .tuple [.str "a", .str "b", .str "c"], .bool false], .tuple [.str "back", .tuple [.str "a", .str "b", .str "c"], .int (-1)], .tuple [.str "maybe", .tuple [.str "a", .str "b", .str "c"], .int 1], .tuple [.str "go", .list [.str "a", .str "b", .str "c"], .int 1], .tuple [.str "go", .tuple [.str "a", .str "b"], .int 0], .tuple [.str "go", .tuple [.str "a", .str "b", .str "a"], .int 0], .tuple [.str "bye", .str "a"], .list [.str "bye"], .tuple [.str "bye", .str "bye"], .tuple [.none], .tuple [.dict [], .tuple [.str "a", .str "b", .str "c"], .int 1], .tuple [.str "ask", .tuple [.str "a", .str "b", .str "c"], .str "1"]]
section
variable {P : Program} {w : World} {K : PySem.W.Frag} {mg : Str → Option Value} {base : Heap} {H : Hp}
def spOdd (K : PySem.W.Frag) : Sp := fun vs H Q _ => ∃ r : Addr, vs = [.ref r] ∧ Rng H r ∧ ∀ H' v d, But r H H' → Rng H' r → Db K r H' v d → d ∈ oddD → Q v H'
theorem ok_odd {f : Addr} {fd : FuncData} (F : Fun K "_law_odd" "_law_odd" s_law_odd f fd) (Y : Bn mg) (G_law_choose : Fk P w K mg base CX0 2 "_law_choose" ["_law_pot_here", "_law_values"] spCh) : FnOk P w K mg base CX0 3 f fd ["_law_pot_here"] (spOdd K) := by
  refine F.ok sc_law_odd (fun vs H Q E h => ?_) (fun cdv A outer s H vs Q E hr h => ?_)
  · obtain ⟨r, rfl, _⟩ := h
    rfl
  · obtain ⟨r, rfl, R, q⟩ := h
    refine ⟨_, (pss_cons (ps_set (i := 1) sc_law_odd.nd rfl (.inl rfl) (pe_lst (pa_cons pe_non (pa_cons pe_int (pa_cons pe_int (pa_cons pe_bl (pa_cons pe_bl (pa_cons pe_str (pa_cons pe_str (pa_cons pe_str (pa_cons pe_str (pa_cons (pe_lst pa_nil) (pa_cons (pe_tupZ pa_nil) (pa_cons pe_dnewK (pa_cons (pe_lst (pa_cons pe_str pa_nil)) (pa_cons (pe_tupZ (pa_cons pe_str pa_nil)) (pa_cons (pe_disp (pps_cons pe_str pe_int pps_nil) (by rfl) (by rfl) (fun z => by cases z) (by decide)) (pa_cons (pe_un un_neg pe_int) (pa_cons (pe_op op_pow pe_int pe_int) (pa_cons pe_str pa_nil))))))))))))))))))))
 (pss_one (ps_ret (pe_callF G_law_choose (hr.mono (by decide)) (by rfl) pass0 (pa_cons (pv 0) (pa_cons (pv 1) pa_nil)))))), ?_⟩
    have D : Dbs K r H [] [] := .nil
    have b0 : But r H H := But.of (Same.refl _)
    have D := D.app (.cons (.non) .nil)
    have D := D.app (.cons (.int 0) .nil)
    have D := D.app (.cons (.int 1) .nil)
    have D := D.app (.cons (.bl true) .nil)
    have D := D.app (.cons (.bl false) .nil)
    have D := D.app (.cons (.str "") .nil)
    have D := D.app (.cons (.str "A") .nil)
    have D := D.app (.cons (.str "a b") .nil)
    have D := D.app (.cons (.str "a1-") .nil)
    refine ⟨(by show 0 ≤ sizeLine; decide), fun l1 n1 => ?_⟩
    have ne1 := R.ne n1
    generalize hg : upd _ l1 _ = H1
    obtain ⟨s1, g1⟩ := upd_new hg n1
    clear hg
    have D := D.same s1
    have R := R.same s1
    have b0 := b0.trans (But.of s1)
    have D := D.app (.cons (.lst ne1 g1 (.nil)) .nil)
    refine ⟨(by show 0 ≤ sizeLine; decide), fun t2 o2 n2 s2 z2 => ?_⟩
    have D := D.same s2
    have R := R.same s2
    have b0 := b0.trans (But.of s2)
    generalize upd _ t2 o2 = H2 at D R b0 z2 s2 ⊢
    have D := D.app (.cons (.tup R z2 (.nil)) .nil)
    refine fun l3 n3 => ?_
    have ne3 := R.ne n3
    generalize hg : upd _ l3 _ = H3
    obtain ⟨s3, g3⟩ := upd_new hg n3
    clear hg
    have D := D.same s3
    have R := R.same s3
    have b0 := b0.trans (But.of s3)
    have D := D.app (.cons (.dic ne3 g3) .nil)
    refine ⟨(by show 1 ≤ sizeLine; decide), fun l4 n4 => ?_⟩
    have ne4 := R.ne n4
    generalize hg : upd _ l4 _ = H4
    obtain ⟨s4, g4⟩ := upd_new hg n4
    clear hg
    have D := D.same s4
    have R := R.same s4
    have b0 := b0.trans (But.of s4)
    have D := D.app (.cons (.lst ne4 g4 (.cons (.str _) (.nil))) .nil)
    refine ⟨(by show 1 ≤ sizeLine; decide), fun t5 o5 n5 s5 z5 => ?_⟩
    have D := D.same s5
    have R := R.same s5
    have b0 := b0.trans (But.of s5)
    generalize upd _ t5 o5 = H5 at D R b0 z5 s5 ⊢
    have D := D.app (.cons (.tup R z5 (.cons (.str _) (.nil))) .nil)
    refine fun l6 n6 => ⟨upd_same, [(Sum.inr "a", .int 1)], rfl, by decide, ?_⟩
    have ne6 := R.ne n6
    generalize hg : upd (upd _ l6 _) l6 _ = H6
    obtain ⟨s6, g6⟩ := upd_new2 hg n6
    have g6 : H6 l6 = some (.dK [(Sum.inr "a", .int 1)]) := g6
    clear hg
    have D := D.same s6
    have R := R.same s6
    have b0 := b0.trans (But.of s6)
    have D := D.app (.cons (.dic1 ne6 g6) .nil)
    refine ⟨_, rfl, ?_⟩
    have D := D.app (.cons (.int (-1)) .nil)
    refine ⟨10, 20, rfl, rfl, ⟨by decide, by decide, by decide⟩, ?_⟩
    have D := D.app (.cons (.int (10 ^ 20)) .nil)
    have D := D.app (.cons (.str "a\n") .nil)
    refine ⟨(by show 18 ≤ sizeLine; decide), fun l7 n7 => ?_⟩
    have ne7 := R.ne n7
    generalize hg : upd _ l7 _ = H7
    obtain ⟨s7, g7⟩ := upd_new hg n7
    clear hg
    have D := D.same s7
    have R := R.same s7
    have b0 := b0.trans (But.of s7)
    have h1 := g7
    simp only [List.cons_append, List.nil_append] at D
    refine ⟨_, rfl, _, rfl, r, l7, _, rfl, R, ne7, h1, (by show 0 < 18; decide), (by show 18 ≤ 1000; decide), fun H' u b' R' mu => ?_⟩
    obtain ⟨d, md, dnd⟩ := (D.but b').mem mu
    exact q H' u d (b0.trans b') R' dnd md
def spOddI (K : PySem.W.Frag) : Sp := fun vs H Q _ => ∃ r : Addr, vs = [.ref r] ∧ Rng H r ∧ ∀ H' v d, But r H H' → Rng H' r → Db K r H' v d → d ∈ itemD ∨ d ∈ oddD → Q v H'
theorem ok_oddI {f : Addr} {fd : FuncData} (F : Fun K "_law_odd_item" "_law_odd_item" s_law_odd_item f fd) (Y : Bn mg) (G_law_choose : Fk P w K mg base CX0 2 "_law_choose" ["_law_pot_here", "_law_values"] spCh) (G_law_odd : Fk P w K mg base CX0 3 "_law_odd" ["_law_pot_here"] (spOdd K)) : FnOk P w K mg base CX0 4 f fd ["_law_pot_here"] (spOddI K) := by
  refine F.ok sc_law_odd_item (fun vs H Q E h => ?_) (fun cdv A outer s H vs Q E hr h => ?_)
  · obtain ⟨r, rfl, _⟩ := h
    rfl
  · obtain ⟨r, rfl, R, q⟩ := h
    refine ⟨_, (pss_cons (ps_set (i := 1) sc_law_odd_item.nd rfl (.inl rfl) (pe_tupZ (pa_cons pe_str (pa_cons pe_str (pa_cons pe_str pa_nil)))))
 (pss_cons (ps_set (i := 2) sc_law_odd_item.nd rfl (.inl rfl) (pe_lst (pa_cons (pe_tupZ (pa_cons pe_str (pa_cons pe_str (pa_cons pe_str pa_nil)))) (pa_cons (pe_tupZ (pa_cons pe_str (pa_cons pe_str (pa_cons pe_str (pa_cons pe_int pa_nil))))) (pa_cons (pe_tupZ (pa_cons pe_str (pa_cons pe_str (pa_cons pe_str (pa_cons pe_bl pa_nil))))) (pa_cons (pe_tupZ (pa_cons pe_str (pa_cons pe_str (pa_cons pe_str (pa_cons pe_int pa_nil))))) pa_nil))))))
 (pss_cons (ps_set (i := 2) sc_law_odd_item.nd rfl (.inl rfl) (pe_op op_cat (pv 2) (pe_lst (pa_cons (pe_tupZ (pa_cons pe_str (pa_cons pe_str (pa_cons pe_str (pa_cons pe_int pa_nil))))) (pa_cons (pe_lst (pa_cons pe_str (pa_cons pe_str (pa_cons pe_str (pa_cons pe_int pa_nil))))) (pa_cons (pe_tupZ (pa_cons pe_str (pa_cons (pv 1) pa_nil))) (pa_cons (pe_tupZ (pa_cons pe_str (pa_cons (pv 1) (pa_cons pe_int pa_nil)))) pa_nil)))))))
 (pss_cons (ps_set (i := 2) sc_law_odd_item.nd rfl (.inl rfl) (pe_op op_cat (pv 2) (pe_lst (pa_cons (pe_tupZ (pa_cons pe_str (pa_cons (pv 1) (pa_cons pe_bl pa_nil)))) (pa_cons (pe_tupZ (pa_cons pe_str (pa_cons (pv 1) (pa_cons (pe_un un_neg pe_int) pa_nil)))) pa_nil)))))
 (pss_cons (ps_set (i := 2) sc_law_odd_item.nd rfl (.inl rfl) (pe_op op_cat (pv 2) (pe_lst (pa_cons (pe_tupZ (pa_cons pe_str (pa_cons (pv 1) (pa_cons pe_int pa_nil)))) (pa_cons (pe_tupZ (pa_cons pe_str (pa_cons (pe_callTy call_list_of (by rfl) Y.list (by decide +kernel) (pa_cons (pv 1) pa_nil)) (pa_cons pe_int pa_nil)))) (pa_cons (pe_tupZ (pa_cons pe_str (pa_cons (pe_tupZ (pa_cons pe_str (pa_cons pe_str pa_nil))) (pa_cons pe_int pa_nil)))) (pa_cons (pe_tupZ (pa_cons pe_str (pa_cons (pe_tupZ (pa_cons pe_str (pa_cons pe_str (pa_cons pe_str pa_nil)))) (pa_cons pe_int pa_nil)))) pa_nil)))))))
 (pss_cons (ps_set (i := 2) sc_law_odd_item.nd rfl (.inl rfl) (pe_op op_cat (pv 2) (pe_lst (pa_cons (pe_tupZ (pa_cons pe_str (pa_cons pe_str pa_nil))) (pa_cons (pe_lst (pa_cons pe_str pa_nil)) (pa_cons (pe_op op_twoT (pe_tupZ (pa_cons pe_str pa_nil)) pe_int) (pa_cons (pe_tupZ (pa_cons pe_non pa_nil)) (pa_cons (pe_tupZ (pa_cons pe_dnewK (pa_cons (pv 1) (pa_cons pe_int pa_nil)))) (pa_cons (pe_tupZ (pa_cons pe_str (pa_cons (pv 1) (pa_cons pe_str pa_nil)))) (pa_cons (pe_callF G_law_odd (hr.mono (by decide)) (by rfl) pass0 (pa_cons (pv 0) pa_nil)) pa_nil))))))))))
 (pss_one (ps_ret (pe_callF G_law_choose (hr.mono (by decide)) (by rfl) pass0 (pa_cons (pv 0) (pa_cons (pv 2) pa_nil))))))))))), ?_⟩
    have D : Dbs K r H [] [] := .nil
    have b0 : But r H H := But.of (Same.refl _)
    refine ⟨(by show 3 ≤ sizeLine; decide), fun t1 o1 n1 s1 z1 => ?_⟩
    have D := D.same s1
    have R := R.same s1
    have b0 := b0.trans (But.of s1)
    generalize upd _ t1 o1 = H1 at D R b0 z1 s1 ⊢
    have dP : Db K r _ _ _ := .tup R z1 (.cons (.str _) (.cons (.str _) (.cons (.str _) (.nil))))
    have zP := z1
    refine ⟨(by show 3 ≤ sizeLine; decide), fun t2 o2 n2 s2 z2 => ?_⟩
    have D := D.same s2
    have R := R.same s2
    have b0 := b0.trans (But.of s2)
    have dP := dP.same s2
    have zP := zP.same s2
    generalize upd _ t2 o2 = H2 at D R b0 dP zP z2 s2 ⊢
    have D := D.app (.cons (.tup R z2 (.cons (.str _) (.cons (.str _) (.cons (.str _) (.nil))))) .nil)
    refine ⟨(by show 4 ≤ sizeLine; decide), fun t3 o3 n3 s3 z3 => ?_⟩
    have D := D.same s3
    have R := R.same s3
    have b0 := b0.trans (But.of s3)
    have dP := dP.same s3
    have zP := zP.same s3
    generalize upd _ t3 o3 = H3 at D R b0 dP zP z3 s3 ⊢
    have D := D.app (.cons (.tup R z3 (.cons (.str _) (.cons (.str _) (.cons (.str _) (.cons (.int 2) (.nil)))))) .nil)
    refine ⟨(by show 4 ≤ sizeLine; decide), fun t4 o4 n4 s4 z4 => ?_⟩
    have D := D.same s4
    have R := R.same s4
    have b0 := b0.trans (But.of s4)
    have dP := dP.same s4
    have zP := zP.same s4
    generalize upd _ t4 o4 = H4 at D R b0 dP zP z4 s4 ⊢
    have D := D.app (.cons (.tup R z4 (.cons (.str _) (.cons (.str _) (.cons (.str _) (.cons (.bl true) (.nil)))))) .nil)
    refine ⟨(by show 4 ≤ sizeLine; decide), fun t5 o5 n5 s5 z5 => ?_⟩
    have D := D.same s5
    have R := R.same s5
    have b0 := b0.trans (But.of s5)
    have dP := dP.same s5
    have zP := zP.same s5
    generalize upd _ t5 o5 = H5 at D R b0 dP zP z5 s5 ⊢
    have D := D.app (.cons (.tup R z5 (.cons (.str _) (.cons (.str _) (.cons (.str _) (.cons (.int 0) (.nil)))))) .nil)
    refine ⟨(by show 4 ≤ sizeLine; decide), fun l6 n6 => ?_⟩
    have ne6 := R.ne n6
    generalize hg : upd _ l6 _ = H6
    obtain ⟨s6, g6⟩ := upd_new hg n6
    clear hg
    have D := D.same s6
    have R := R.same s6
    have b0 := b0.trans (But.of s6)
    have dP := dP.same s6
    have zP := zP.same s6
    have h6 := g6
    refine ⟨_, rfl, ?_⟩
    refine ⟨(by show 4 ≤ sizeLine; decide), fun t7 o7 n7 s7 z7 => ?_⟩
    have D := D.same s7
    have R := R.same s7
    have b0 := b0.trans (But.of s7)
    have h6 := s7 _ _ h6
    have dP := dP.same s7
    have zP := zP.same s7
    generalize upd _ t7 o7 = H7 at D R b0 h6 dP zP z7 s7 ⊢
    have D := D.app (.cons (.tup R z7 (.cons (.str _) (.cons (.str _) (.cons (.str _) (.cons (.int 0) (.nil)))))) .nil)
    refine ⟨(by show 4 ≤ sizeLine; decide), fun l8 n8 => ?_⟩
    have ne8 := R.ne n8
    generalize hg : upd _ l8 _ = H8
    obtain ⟨s8, g8⟩ := upd_new hg n8
    clear hg
    have D := D.same s8
    have R := R.same s8
    have b0 := b0.trans (But.of s8)
    have h6 := s8 _ _ h6
    have dP := dP.same s8
    have zP := zP.same s8
    have D := D.app (.cons (.lst ne8 g8 (.cons (.str _) (.cons (.str _) (.cons (.str _) (.cons (.int 0) .nil))))) .nil)
    refine ⟨_, rfl, ?_⟩
    refine ⟨(by show 2 ≤ sizeLine; decide), fun t9 o9 n9 s9 z9 => ?_⟩
    have D := D.same s9
    have R := R.same s9
    have b0 := b0.trans (But.of s9)
    have h6 := s9 _ _ h6
    have dP := dP.same s9
    have zP := zP.same s9
    generalize upd _ t9 o9 = H9 at D R b0 h6 dP zP z9 s9 ⊢
    have D := D.app (.cons (.tup R z9 (.cons (.str _) (.cons (dP) (.nil)))) .nil)
    refine ⟨_, rfl, ?_⟩
    refine ⟨(by show 3 ≤ sizeLine; decide), fun t10 o10 n10 s10 z10 => ?_⟩
    have D := D.same s10
    have R := R.same s10
    have b0 := b0.trans (But.of s10)
    have h6 := s10 _ _ h6
    have dP := dP.same s10
    have zP := zP.same s10
    generalize upd _ t10 o10 = H10 at D R b0 h6 dP zP z10 s10 ⊢
    have D := D.app (.cons (.tup R z10 (.cons (.str _) (.cons (dP) (.cons (.int 2) (.nil))))) .nil)
    refine ⟨(by show 4 ≤ sizeLine; decide), fun l11 n11 => ?_⟩
    have ne11 := R.ne n11
    generalize hg : upd _ l11 _ = H11
    obtain ⟨s11, g11⟩ := upd_new hg n11
    clear hg
    have D := D.same s11
    have R := R.same s11
    have b0 := b0.trans (But.of s11)
    have h6 := s11 _ _ h6
    have dP := dP.same s11
    have zP := zP.same s11
    have h11 := g11
    refine ⟨l6, l11, _, _, rfl, rfl, h6, h11, (by show 8 ≤ sizeLine; decide), fun l12 n12 => ?_⟩
    have ne12 := R.ne n12
    generalize hg : upd _ l12 _ = H12
    obtain ⟨s12, g12⟩ := upd_new hg n12
    clear hg h6 h11
    have D := D.same s12
    have R := R.same s12
    have b0 := b0.trans (But.of s12)
    have dP := dP.same s12
    have zP := zP.same s12
    have h12 := g12
    refine ⟨_, rfl, ?_⟩
    refine ⟨_, rfl, ?_⟩
    refine ⟨(by show 3 ≤ sizeLine; decide), fun t13 o13 n13 s13 z13 => ?_⟩
    have D := D.same s13
    have R := R.same s13
    have b0 := b0.trans (But.of s13)
    have h12 := s13 _ _ h12
    have dP := dP.same s13
    have zP := zP.same s13
    generalize upd _ t13 o13 = H13 at D R b0 h12 dP zP z13 s13 ⊢
    have D := D.app (.cons (.tup R z13 (.cons (.str _) (.cons (dP) (.cons (.bl false) (.nil))))) .nil)
    refine ⟨_, rfl, ?_⟩
    refine ⟨_, rfl, ?_⟩
    refine ⟨(by show 3 ≤ sizeLine; decide), fun t14 o14 n14 s14 z14 => ?_⟩
    have D := D.same s14
    have R := R.same s14
    have b0 := b0.trans (But.of s14)
    have h12 := s14 _ _ h12
    have dP := dP.same s14
    have zP := zP.same s14
    generalize upd _ t14 o14 = H14 at D R b0 h12 dP zP z14 s14 ⊢
    have D := D.app (.cons (.tup R z14 (.cons (.str _) (.cons (dP) (.cons (.int (-1)) (.nil))))) .nil)
    refine ⟨(by show 2 ≤ sizeLine; decide), fun l15 n15 => ?_⟩
    have ne15 := R.ne n15
    generalize hg : upd _ l15 _ = H15
    obtain ⟨s15, g15⟩ := upd_new hg n15
    clear hg
    have D := D.same s15
    have R := R.same s15
    have b0 := b0.trans (But.of s15)
    have h12 := s15 _ _ h12
    have dP := dP.same s15
    have zP := zP.same s15
    have h15 := g15
    refine ⟨l12, l15, _, _, rfl, rfl, h12, h15, (by show 10 ≤ sizeLine; decide), fun l16 n16 => ?_⟩
    have ne16 := R.ne n16
    generalize hg : upd _ l16 _ = H16
    obtain ⟨s16, g16⟩ := upd_new hg n16
    clear hg h12 h15
    have D := D.same s16
    have R := R.same s16
    have b0 := b0.trans (But.of s16)
    have dP := dP.same s16
    have zP := zP.same s16
    have h16 := g16
    refine ⟨_, rfl, ?_⟩
    refine ⟨_, rfl, ?_⟩
    refine ⟨(by show 3 ≤ sizeLine; decide), fun t17 o17 n17 s17 z17 => ?_⟩
    have D := D.same s17
    have R := R.same s17
    have b0 := b0.trans (But.of s17)
    have h16 := s17 _ _ h16
    have dP := dP.same s17
    have zP := zP.same s17
    generalize upd _ t17 o17 = H17 at D R b0 h16 dP zP z17 s17 ⊢
    have D := D.app (.cons (.tup R z17 (.cons (.str _) (.cons (dP) (.cons (.int 1) (.nil))))) .nil)
    refine ⟨_, rfl, ?_⟩
    refine ⟨_, _, rfl, .inr zP.sq, ?_⟩
    refine fun l18 n18 => ?_
    have ne18 := R.ne n18
    generalize hg : upd _ l18 _ = H18
    obtain ⟨s18, g18⟩ := upd_new hg n18
    clear hg
    have D := D.same s18
    have R := R.same s18
    have b0 := b0.trans (But.of s18)
    have h16 := s18 _ _ h16
    have dP := dP.same s18
    have zP := zP.same s18
    have dL : Db K r _ _ _ := .lst ne18 g18 (.cons (.str _) (.cons (.str _) (.cons (.str _) (.nil))))
    refine ⟨(by show 3 ≤ sizeLine; decide), fun t19 o19 n19 s19 z19 => ?_⟩
    have D := D.same s19
    have R := R.same s19
    have b0 := b0.trans (But.of s19)
    have h16 := s19 _ _ h16
    have dP := dP.same s19
    have zP := zP.same s19
    have dL := dL.same s19
    generalize upd _ t19 o19 = H19 at D R b0 h16 dP zP dL z19 s19 ⊢
    have D := D.app (.cons (.tup R z19 (.cons (.str _) (.cons (dL) (.cons (.int 1) (.nil))))) .nil)
    refine ⟨(by show 2 ≤ sizeLine; decide), fun t20 o20 n20 s20 z20 => ?_⟩
    have D := D.same s20
    have R := R.same s20
    have b0 := b0.trans (But.of s20)
    have h16 := s20 _ _ h16
    have dP := dP.same s20
    have zP := zP.same s20
    generalize upd _ t20 o20 = H20 at D R b0 h16 dP zP z20 s20 ⊢
    have dA : Db K r _ _ _ := .tup R z20 (.cons (.str _) (.cons (.str _) (.nil)))
    refine ⟨(by show 3 ≤ sizeLine; decide), fun t21 o21 n21 s21 z21 => ?_⟩
    have D := D.same s21
    have R := R.same s21
    have b0 := b0.trans (But.of s21)
    have h16 := s21 _ _ h16
    have dP := dP.same s21
    have zP := zP.same s21
    have dA := dA.same s21
    generalize upd _ t21 o21 = H21 at D R b0 h16 dP zP dA z21 s21 ⊢
    have D := D.app (.cons (.tup R z21 (.cons (.str _) (.cons (dA) (.cons (.int 0) (.nil))))) .nil)
    refine ⟨(by show 3 ≤ sizeLine; decide), fun t22 o22 n22 s22 z22 => ?_⟩
    have D := D.same s22
    have R := R.same s22
    have b0 := b0.trans (But.of s22)
    have h16 := s22 _ _ h16
    have dP := dP.same s22
    have zP := zP.same s22
    generalize upd _ t22 o22 = H22 at D R b0 h16 dP zP z22 s22 ⊢
    have dB : Db K r _ _ _ := .tup R z22 (.cons (.str _) (.cons (.str _) (.cons (.str _) (.nil))))
    refine ⟨(by show 3 ≤ sizeLine; decide), fun t23 o23 n23 s23 z23 => ?_⟩
    have D := D.same s23
    have R := R.same s23
    have b0 := b0.trans (But.of s23)
    have h16 := s23 _ _ h16
    have dP := dP.same s23
    have zP := zP.same s23
    have dB := dB.same s23
    generalize upd _ t23 o23 = H23 at D R b0 h16 dP zP dB z23 s23 ⊢
    have D := D.app (.cons (.tup R z23 (.cons (.str _) (.cons (dB) (.cons (.int 0) (.nil))))) .nil)
    refine ⟨(by show 4 ≤ sizeLine; decide), fun l24 n24 => ?_⟩
    have ne24 := R.ne n24
    generalize hg : upd _ l24 _ = H24
    obtain ⟨s24, g24⟩ := upd_new hg n24
    clear hg
    have D := D.same s24
    have R := R.same s24
    have b0 := b0.trans (But.of s24)
    have h16 := s24 _ _ h16
    have dP := dP.same s24
    have zP := zP.same s24
    have h24 := g24
    refine ⟨l16, l24, _, _, rfl, rfl, h16, h24, (by show 14 ≤ sizeLine; decide), fun l25 n25 => ?_⟩
    have ne25 := R.ne n25
    generalize hg : upd _ l25 _ = H25
    obtain ⟨s25, g25⟩ := upd_new hg n25
    clear hg h16 h24
    have D := D.same s25
    have R := R.same s25
    have b0 := b0.trans (But.of s25)
    have dP := dP.same s25
    have zP := zP.same s25
    have h25 := g25
    refine ⟨_, rfl, ?_⟩
    refine ⟨(by show 2 ≤ sizeLine; decide), fun t26 o26 n26 s26 z26 => ?_⟩
    have D := D.same s26
    have R := R.same s26
    have b0 := b0.trans (But.of s26)
    have h25 := s26 _ _ h25
    have dP := dP.same s26
    have zP := zP.same s26
    generalize upd _ t26 o26 = H26 at D R b0 h25 dP zP z26 s26 ⊢
    have D := D.app (.cons (.tup R z26 (.cons (.str _) (.cons (.str _) (.nil)))) .nil)
    refine ⟨(by show 1 ≤ sizeLine; decide), fun l27 n27 => ?_⟩
    have ne27 := R.ne n27
    generalize hg : upd _ l27 _ = H27
    obtain ⟨s27, g27⟩ := upd_new hg n27
    clear hg
    have D := D.same s27
    have R := R.same s27
    have b0 := b0.trans (But.of s27)
    have h25 := s27 _ _ h25
    have dP := dP.same s27
    have zP := zP.same s27
    have D := D.app (.cons (.lst ne27 g27 (.cons (.str _) (.nil))) .nil)
    refine ⟨(by show 1 ≤ sizeLine; decide), fun t28 o28 n28 s28 z28 => ?_⟩
    have D := D.same s28
    have R := R.same s28
    have b0 := b0.trans (But.of s28)
    have h25 := s28 _ _ h25
    have dP := dP.same s28
    have zP := zP.same s28
    generalize upd _ t28 o28 = H28 at D R b0 h25 dP zP z28 s28 ⊢
    refine ⟨_, _, rfl, rfl, z28, fun t29 o29 n29 s29 z29 => ?_⟩
    have D := D.same s29
    have R := R.same s29
    have b0 := b0.trans (But.of s29)
    have h25 := s29 _ _ h25
    have dP := dP.same s29
    have zP := zP.same s29
    generalize upd _ t29 o29 = H29 at D R b0 h25 dP zP z29 s29 ⊢
    have D := D.app (.cons (.tup R z29 (.cons (.str _) (.cons (.str _) (.nil)))) .nil)
    refine ⟨(by show 1 ≤ sizeLine; decide), fun t30 o30 n30 s30 z30 => ?_⟩
    have D := D.same s30
    have R := R.same s30
    have b0 := b0.trans (But.of s30)
    have h25 := s30 _ _ h25
    have dP := dP.same s30
    have zP := zP.same s30
    generalize upd _ t30 o30 = H30 at D R b0 h25 dP zP z30 s30 ⊢
    have D := D.app (.cons (.tup R z30 (.cons (.non) (.nil))) .nil)
    refine fun l31 n31 => ?_
    have ne31 := R.ne n31
    generalize hg : upd _ l31 _ = H31
    obtain ⟨s31, g31⟩ := upd_new hg n31
    clear hg
    have D := D.same s31
    have R := R.same s31
    have b0 := b0.trans (But.of s31)
    have h25 := s31 _ _ h25
    have dP := dP.same s31
    have zP := zP.same s31
    have dE : Db K r _ _ _ := .dic ne31 g31
    refine ⟨_, rfl, ?_⟩
    refine ⟨(by show 3 ≤ sizeLine; decide), fun t32 o32 n32 s32 z32 => ?_⟩
    have D := D.same s32
    have R := R.same s32
    have b0 := b0.trans (But.of s32)
    have h25 := s32 _ _ h25
    have dP := dP.same s32
    have zP := zP.same s32
    have dE := dE.same s32
    generalize upd _ t32 o32 = H32 at D R b0 h25 dP zP dE z32 s32 ⊢
    have D := D.app (.cons (.tup R z32 (.cons (dE) (.cons (dP) (.cons (.int 1) (.nil))))) .nil)
    refine ⟨_, rfl, ?_⟩
    refine ⟨(by show 3 ≤ sizeLine; decide), fun t33 o33 n33 s33 z33 => ?_⟩
    have D := D.same s33
    have R := R.same s33
    have b0 := b0.trans (But.of s33)
    have h25 := s33 _ _ h25
    have dP := dP.same s33
    have zP := zP.same s33
    generalize upd _ t33 o33 = H33 at D R b0 h25 dP zP z33 s33 ⊢
    have D := D.app (.cons (.tup R z33 (.cons (.str _) (.cons (dP) (.cons (.str _) (.nil))))) .nil)
    refine ⟨_, rfl, r, rfl, R, fun H34 v0 d0 b1 R d1 m1 => ?_⟩
    have h25 := b1 _ _ ne25 h25
    have D := D.but b1
    have b0 := b0.trans b1
    have D := D.app (.cons d1 .nil)
    refine ⟨(by show 7 ≤ sizeLine; decide), fun l35 n35 => ?_⟩
    have ne35 := R.ne n35
    generalize hg : upd _ l35 _ = H35
    obtain ⟨s35, g35⟩ := upd_new hg n35
    clear hg
    have D := D.same s35
    have R := R.same s35
    have b0 := b0.trans (But.of s35)
    have h25 := s35 _ _ h25
    have h35 := g35
    refine ⟨l25, l35, _, _, rfl, rfl, h25, h35, (by show 21 ≤ sizeLine; decide), fun l36 n36 => ?_⟩
    have ne36 := R.ne n36
    generalize hg : upd _ l36 _ = H36
    obtain ⟨s36, g36⟩ := upd_new hg n36
    clear hg h25 h35
    have D := D.same s36
    have R := R.same s36
    have b0 := b0.trans (But.of s36)
    have h36 := g36
    simp only [List.cons_append, List.nil_append] at D
    refine ⟨_, rfl, _, rfl, r, l36, _, rfl, R, ne36, h36, (by show 0 < 21; decide), (by show 21 ≤ 1000; decide), fun H' u b' R' mu => ?_⟩
    obtain ⟨d, md, dnd⟩ := (D.but b').mem mu
    refine q H' u d (b0.trans b') R' dnd ?_
    have md : d ∈ itemD ++ [d0] := md
    rcases List.mem_append.mp md with md | md
    · exact .inl md
    · rw [List.mem_singleton.mp md]
      exact .inr m1
end
end My

namespace My
open PySem PySem.Spec PyProof.Rows L2 Gy Xl Xs Xt Xo Xp Xq LamX
/-! ### what the odd values are not -/
def okB (n W : Nat) (d : PyData) : Bool := d.showable && d.leavesShort 40 && decide (d.depth ≤ n) && decide (d.weight ≤ W) && sml d
theorem okB.bd {n W : Nat} {d : PyData} (h : okB n W d = true) : Bd n W d := by
  unfold okB at h
  simp only [Bool.and_eq_true, decide_eq_true_eq] at h
  exact ⟨h.1.1.1.1, h.1.1.1.2, h.1.1.2, h.1.2, h.2⟩
def isPathB (d : PyData) : Bool := isPath d
theorem all_of {p : PyData → Bool} {ds : List PyData} (h : ds.all p = true) : ∀ d ∈ ds, p d = true := fun d m => List.all_eq_true.mp h d m
theorem odd_word : ∀ d ∈ oddD, isWord d = false := fun d m => by
  have := all_of (p := fun d => !isWord d) (ds := oddD) (by decide +kernel) d m
  simpa using this
theorem odd_host : ∀ d ∈ oddD, isHost d = false := fun d m => by
  have := all_of (p := fun d => !isHost d) (ds := oddD) (by decide +kernel) d m
  simpa using this
theorem odd_item : ∀ d ∈ oddD, isItem d = false := fun d m => by
  have := all_of (p := fun d => !isItem d) (ds := oddD) (by decide +kernel) d m
  simpa using this
theorem odd_path : ∀ d ∈ oddD, isPath d = false := fun d m => by
  have := all_of (p := fun d => !isPath d) (ds := oddD) (by decide +kernel) d m
  simpa using this
theorem odd_bd : ∀ d ∈ oddD, Bd 2 200 d := fun d m => okB.bd (all_of (p := okB 2 200) (ds := oddD) (by decide +kernel) d m)
theorem item_no : ∀ d ∈ itemD, isItem d = false := fun d m => by
  have := all_of (p := fun d => !isItem d) (ds := itemD) (by decide +kernel) d m
  simpa using this
theorem item_bd : ∀ d ∈ itemD, Bd 3 900 d := fun d m => okB.bd (all_of (p := okB 3 900) (ds := itemD) (by decide +kernel) d m)
/-- the first part of a pair is no path -/
theorem rel_no1 {d e : PyData} (h : isPath d = false) : isRel (.tuple [d, e]) = false := by
  cases d with
  | tuple ds =>
    show (isPath (.tuple ds) && isIdx ((ds.length : Int) - 1) e) = false
    rw [h]
    rfl
  | _ => rfl
theorem told_fits {n W m : Nat} {d : PyData} (h : Bd n W d) (a : n ≤ 50) (b : W ≤ 10000) : Fits (.tuple [.str (kn m), d]) := by
  have k : ∀ m, Bd 50 10000 (.str (kn m)) := fun m => by
    unfold kn
    split <;> exact okB.bd (by decide +kernel)
  exact (Bd.tup (n := 50) (W := 10000) (L := 2) (fun e he => by
    simp only [List.mem_cons, List.not_mem_nil, or_false] at he
    rcases he with rfl | rfl
    · exact k m
    · exact h.mono a b) (by show 2 ≤ 2; decide) (by decide)).fits (by decide) (by decide)
/-! ### a host shown -/
def jnD : Option (List Str × Nat) → PyData
  | none => .none
  | some (xs, c) => reld xs c
def shownD (st : HS) : PyData := .list [.str st.nm, .list st.lg, .list (st.lk.map PyData.str), .list st.an, jnD st.jn, .str st.sg, .list st.qu]
theorem jn_dn {K : PySem.W.Frag} {H : Hp} {v : V} {j : Option (List Str × Nat)} (h : Jnd H v j) : Dn K H v (jnD j) := by
  match j, h with
  | none, h => rw [show v = .non from h]; exact .non
  | some (xs, c), ⟨t, pa, e, a, b⟩ => rw [e]; exact .tup a (.cons (.tup b (dns_strs xs)) (.cons (.int _) .nil))
section
variable {P : Program} {w : World} {K : PySem.W.Frag} {mg : Str → Option Value} {base : Heap} {H : Hp} {C : Addr}
def spShown (K : PySem.W.Frag) (C : Addr) : Sp := fun vs H Q _ => ∃ (h : Addr) (st : HS) (ad : HA), vs = [.ref h] ∧ Hst K C H h st ad ∧ Fits (shownD st) ∧ ∀ H', Same H H' → Q (.str (shownD st).shown) H'
theorem ok_shown {f : Addr} {fd : FuncData} (F : Fun K "_law_shown" "_law_shown" s_law_shown f fd) (Y : Bn mg) (T : Ch K C) (M_name : Fm P w K mg base CX0 1 C "name" ["self"] (spGet K C fun st _ => .str st.nm)) (M_log : Fm P w K mg base CX0 1 C "log" ["self"] (spLst K C fun st => st.lg))
    (M_links : Fm P w K mg base CX0 1 C "links" ["self"] (spLst K C fun st => st.lk.map PyData.str)) (M_answers : Fm P w K mg base CX0 1 C "answers" ["self"] (spLst K C fun st => st.an)) (M_relink : Fm P w K mg base CX0 1 C "relink" ["self"] (spGet K C fun _ ad => ad.jv))
    (M_phase : Fm P w K mg base CX0 1 C "phase" ["self"] (spGet K C fun st _ => .str st.sg)) (M_queue : Fm P w K mg base CX0 1 C "queue" ["self"] (spLst K C fun st => st.qu)) : FnG P w K mg base CX0 2 f fd ["_law_host"] (spShown K C) := by
  obtain ⟨_, _, MM_name, MB_name, MF_name⟩ := M_name.ex
  obtain ⟨_, _, MM_log, MB_log, MF_log⟩ := M_log.ex
  obtain ⟨_, _, MM_links, MB_links, MF_links⟩ := M_links.ex
  obtain ⟨_, _, MM_answers, MB_answers, MF_answers⟩ := M_answers.ex
  obtain ⟨_, _, MM_relink, MB_relink, MF_relink⟩ := M_relink.ex
  obtain ⟨_, _, MM_phase, MB_phase, MF_phase⟩ := M_phase.ex
  obtain ⟨_, _, MM_queue, MB_queue, MF_queue⟩ := M_queue.ex
  refine fun_g0 F sc_law_shown (fun {vs H Q E} h => ?_) (fun cdv A outer s H vs Q E gd hr h => ?_)
  · obtain ⟨h, st, ad, rfl, _⟩ := h
    rfl
  · obtain ⟨h, st, ad, rfl, x, ft, q⟩ := h
    have hu70 := Room.units70 hr
    refine ⟨_, (pss_one (ps_ret (pe_callB (show CallR _ (.builtin "repr") (rReprN K) from repr_dn gd hu70) (by rfl) Y.repr (by decide +kernel) (pa_cons (pe_lst (pa_cons (pe_meth0 (pv 0) T.cl MM_name MF_name (hr.mono (by decide)) MB_name .nil pass0) (pa_cons (pe_meth0 (pv 0) T.cl MM_log MF_log (hr.mono (by decide)) MB_log .nil pass0) (pa_cons (pe_meth0 (pv 0) T.cl MM_links MF_links (hr.mono (by decide)) MB_links .nil pass0) (pa_cons (pe_meth0 (pv 0) T.cl MM_answers MF_answers (hr.mono (by decide)) MB_answers .nil pass0) (pa_cons (pe_meth0 (pv 0) T.cl MM_relink MF_relink (hr.mono (by decide)) MB_relink .nil pass0) (pa_cons (pe_meth0 (pv 0) T.cl MM_phase MF_phase (hr.mono (by decide)) MB_phase .nil pass0) (pa_cons (pe_meth0 (pv 0) T.cl MM_queue MF_queue (hr.mono (by decide)) MB_queue .nil pass0) pa_nil)))))))) pa_nil)))), ?_⟩
    refine ⟨_, rfl, h, ad.dx, _, rfl, x.at_, (by rfl), h, st, ad, rfl, x, ?_⟩
    refine ⟨_, rfl, h, ad.dx, _, rfl, x.at_, (by rfl), h, st, ad, rfl, x, fun H1 L1 u1 s1 n1 e1 d1 => ?_⟩
    have x1 := x.same s1
    refine ⟨_, rfl, h, ad.dx, _, rfl, x1.at_, (by rfl), h, st, ad, rfl, x1, fun H2 L2 u2 s2 n2 e2 d2 => ?_⟩
    have x2 := x1.same s2
    refine ⟨_, rfl, h, ad.dx, _, rfl, x2.at_, (by rfl), h, st, ad, rfl, x2, fun H3 L3 u3 s3 n3 e3 d3 => ?_⟩
    have x3 := x2.same s3
    refine ⟨_, rfl, h, ad.dx, _, rfl, x3.at_, (by rfl), h, st, ad, rfl, x3, ?_⟩
    refine ⟨_, rfl, h, ad.dx, _, rfl, x3.at_, (by rfl), h, st, ad, rfl, x3, ?_⟩
    refine ⟨_, rfl, h, ad.dx, _, rfl, x3.at_, (by rfl), h, st, ad, rfl, x3, fun H4 L4 u4 s4 n4 e4 d4 => ?_⟩
    have x4 := x3.same s4
    refine ⟨(by show 7 ≤ sizeLine; decide), fun l5 n5 => ?_⟩
    generalize hg : upd H4 l5 _ = H5
    obtain ⟨s5, g5⟩ := upd_new hg n5
    clear hg
    have dd : Dn K H5 (.ref l5) (shownD st) := .lst g5 (.cons (.str _) (.cons (.lst ((((s2.trans s3).trans s4).trans s5) _ _ e1) (((d1.same (fz_same H1)).same (((s2.trans s3).trans s4).trans s5)))) (.cons (.lst (((s3.trans s4).trans s5) _ _ e2) ((d2.same (fz_same H2)).same ((s3.trans s4).trans s5))) (.cons (.lst ((s4.trans s5) _ _ e3) ((d3.same (fz_same H3)).same (s4.trans s5))) (.cons (jn_dn (((x3.jn.same (fz_same H3)).same s4).same s5)) (.cons (.str _) (.cons (.lst (s5 _ _ e4) ((d4.same (fz_same H4)).same s5)) .nil)))))))
    exact ⟨_, _, rfl, dd, ft.1, ft.2.1, ft.2.2, q _ ((((s1.trans s2).trans s3).trans s4).trans s5)⟩
end
end My

namespace My
open PySem PySem.Spec PyProof.Rows L2 Gy Xl Xs Xt Xo Xp Xq LamX
section
variable {P : Program} {w : World} {K : PySem.W.Frag} {mg : Str → Option Value} {base : Heap} {H : Hp} {C CB CL CW CN CT : Addr}
structure ValOk (st : HS) (ns : List Str) (word fr : Str) : Prop where
  few : ns.length ≤ 20
  free : st.sg = "free" → st.jn = none
  one : ∀ y, ns = [y] → st.lk = [y]
  l20 : st.lk.length ≤ 20
  srt : sortedS st.lk = true
  nd : st.lk.Nodup
  lgl : st.lg.length ≤ 1000
  jok : JnOk st
  nm : Nm st.nm
  wd : textOf (.str word) WSG 12 = true
  nfr : Nm fr
  ne : fr ≠ st.nm
  nl : fr ∉ st.lk
  nml : ∀ x ∈ st.lk, Nm x
theorem kd_word {K : PySem.W.Frag} {H : Hp} {x : Str} (h : textOf (.str x) WSG 12 = true) : Kd K H (.str x) := .str x (le200 (by
  have h : (decide ((1 : Int) ≤ (x.length : Int)) && decide ((x.length : Int) ≤ 12) && allIn WSG x) = true := h
  rw [Bool.and_eq_true, Bool.and_eq_true, decide_eq_true_eq, decide_eq_true_eq] at h
  have := h.1.2
  omega))
theorem kd_nm {K : PySem.W.Frag} {H : Hp} {x : Str} (h : Nm x) : Kd K H (.str x) := .str x (le200 (by have := h.2.1; omega))
theorem bye_sh {y : Str} (h : PyData.strOk y = true) : SeqAt.shaped (.list [.tuple [.str y, .tuple [.str "bye"]]]) = true := by
  refine Bool.and_eq_true_iff.mpr ⟨?_, decide_eq_true (show 3 ≤ 64 by decide)⟩
  have b : PyData.strOk "bye" = true := by decide +kernel
  simp only [PyData.canLay0, PyData.canLayAll0, h, b, Bool.and_true]
theorem one_of {xs : List Str} (h : xs.length = 1) : ∃ y, xs = [y] := by
  cases xs with
  | nil => cases h
  | cons a t =>
    cases t with
    | nil => exact ⟨a, rfl⟩
    | cons b r => exact absurd h (by show r.length + 1 + 1 ≠ 1; omega)
def spVR (K : PySem.W.Frag) (C : Addr) : Sp := fun vs H Q _ => ∃ (h la : Addr) (st : HS) (ad : HA) (ns : List Str) (word fr : Str), vs = [.ref h, .ref la, .str word, .str fr] ∧ Hst K C H h st ad ∧ H la = some (.lst (ns.map V.str)) ∧ ValOk st ns word fr ∧
  ∀ H' ad' ys, (∀ y o, H y = some o → y ≠ h → y ≠ ad.Ll → H' y = some o) → Hst K C H' h { st with lg := st.lg ++ [logD st.nm word], lk := ys } ad' → ys.Perm (st.lk ++ [fr]) → Q (.bl true) H'
theorem ok_vr {f : Addr} {fd : FuncData} (F : Fun K "_law_valid_right" "_law_valid_right" s_law_valid_right f fd) (Y : Bn mg) (T : Ch K C) (M_phase : Fm P w K mg base CX0 1 C "phase" ["self"] (spGet K C fun st _ => .str st.sg)) (M_copied : Fm P w K mg base CX0 3 C "copied" ["self"] (spCopied K C))
    (M_leave : Fm P w K mg base (L2.CX P w) 4 C "leave" ["self"] (spLeave K C CB CL)) (M_write : Fm P w K mg base (L2.CX P w) 10 C "write" ["self", "word"] (spWrite K C CW)) (M_add_link : Fm P w K mg base (L2.CX P w) 3 C "add_link" ["self", "other"] (spAddL K C CN CT)) :
    FnOk P w K mg base CX0 11 f fd ["_law_host", "_law_near", "_law_word", "_law_fresh"] (spVR K C) := by
  obtain ⟨_, _, MM_phase, MB_phase, MF_phase⟩ := M_phase.ex
  obtain ⟨_, _, MM_copied, MB_copied, MF_copied⟩ := M_copied.ex
  obtain ⟨_, _, MM_leave, MB_leave, MF_leave⟩ := M_leave.ex
  obtain ⟨_, _, MM_write, MB_write, MF_write⟩ := M_write.ex
  obtain ⟨_, _, MM_add_link, MB_add_link, MF_add_link⟩ := M_add_link.ex
  refine F.ok sc_law_valid_right (fun vs H Q E h => ?_) (fun cdv A outer s H vs Q E hr h => ?_)
  · obtain ⟨h, la, st, ad, ns, word, fr, rfl, _⟩ := h
    rfl
  · obtain ⟨h, la, st, ad, ns, word, fr, rfl, x, hla, ok, q⟩ := h
    have hu64 := hr.units
    refine ⟨_, (pss_cons (ps_if (PW.pt (pw_and (pt_cmpR op_eq (pe_meth0 (pv 0) T.cl MM_phase MF_phase (hr.mono (by decide)) MB_phase .nil pass0) pe_str (nomark _)) (pw_and (pt_cmpR op_eq (pe_callB call_len_seq (by rfl) Y.len PySem.boot_len (pa_cons (pv 1) pa_nil)) pe_int (nomark _)) (pw_and1 (pt_cmpR (op_neD hu64) (pe_meth0 (E := fun _ _ _ => False) (pe_meth0 (pv 0) T.cl MM_copied MF_copied (hr.mono (by decide)) MB_copied .nil pass0) T.cl MM_leave MF_leave (hr.mono (by decide)) MB_leave .nil passN) (pe_lst (pa_cons (pe_tupZ (pa_cons (pe_ix ix_list (pv 1) pe_int (fun _ _ => rfl)) (pa_cons (pe_tupZ (pa_cons pe_str pa_nil)) pa_nil))) pa_nil)) (nomark _))))))
 (pss_one (ps_ret pe_bl))
 pss_nil)
 (pss_cons (ps_expr (pe_meth (E := fun _ _ _ => False) (pv 0) T.cl MM_write MF_write (hr.mono (by decide)) MB_write .nil passN (pa_cons (pv 2) pa_nil)))
 (pss_one (ps_ret (pe_cmpR op_isN (pe_meth (E := fun _ _ _ => False) (pv 0) T.cl MM_add_link MF_add_link (hr.mono (by decide)) MB_add_link .nil passN (pa_cons (pv 3) pa_nil)) pe_non (nomark _)))))), ?_⟩
    refine ⟨_, rfl, h, ad.dx, _, rfl, x.at_, (by rfl), h, st, ad, rfl, x, ?_⟩
    refine ⟨rfl, _, rfl, ite2 (fun c1 => ?_) (fun c1 => ?_)⟩
    rotate_left
    · refine iteF ?_
      have x' := x.same (Same.refl H)
      refine ⟨_, rfl, h, ad.dx, _, rfl, x'.at_, (by rfl), _, rfl, h, .str word, st, ad, rfl, kd_word ok.wd, x', ok.l20, ok.srt, ok.lgl, ok.jok, ok.nm, (fun z => nomatch (ok.wd.symm.trans z)), fun z ez tz Hw Lw uw frw xw nLw eLw dLw => ?_⟩
      obtain rfl : word = z := by injection ez
      refine ⟨_, rfl, h, ad.dx, _, rfl, xw.at_, (by rfl), _, rfl, h, .str fr, _, ad, rfl, kd_nm ok.nfr, xw, (by have := ok.l20; show st.lk.length < 60; omega), (fun z => nomatch ((nm_txt ok.nfr).symm.trans z)), fun o eo no => ?_⟩
      obtain rfl : fr = o := by injection eo
      refine ⟨fun c => (c.elim ok.ne ok.nl).elim, fun _ H' Lk' ys off fk nk hx pm srt => ?_⟩
      exact ⟨rfl, q H' _ ys (fun y o e n1 n2 => off _ _ (frw _ _ ((Same.refl H) _ _ e) n2) n1) hx pm⟩
    have c1 := of_decide_eq_true c1
    have sg : st.sg = "free" := by injection c1
    have jn := ok.free sg
    refine ⟨_, rfl, la, _, rfl, .inl (SqL.of hla), rfl, _, rfl, ite2 (fun c2 => ?_) (fun c2 => ?_)⟩
    rotate_left
    · refine iteF ?_
      have x' := x.same (Same.refl H)
      refine ⟨_, rfl, h, ad.dx, _, rfl, x'.at_, (by rfl), _, rfl, h, .str word, st, ad, rfl, kd_word ok.wd, x', ok.l20, ok.srt, ok.lgl, ok.jok, ok.nm, (fun z => nomatch (ok.wd.symm.trans z)), fun z ez tz Hw Lw uw frw xw nLw eLw dLw => ?_⟩
      obtain rfl : word = z := by injection ez
      refine ⟨_, rfl, h, ad.dx, _, rfl, xw.at_, (by rfl), _, rfl, h, .str fr, _, ad, rfl, kd_nm ok.nfr, xw, (by have := ok.l20; show st.lk.length < 60; omega), (fun z => nomatch ((nm_txt ok.nfr).symm.trans z)), fun o eo no => ?_⟩
      obtain rfl : fr = o := by injection eo
      refine ⟨fun c => (c.elim ok.ne ok.nl).elim, fun _ H' Lk' ys off fk nk hx pm srt => ?_⟩
      exact ⟨rfl, q H' _ ys (fun y o e n1 n2 => off _ _ (frw _ _ ((Same.refl H) _ _ e) n2) n1) hx pm⟩
    have c2 := of_decide_eq_true c2
    have l1 : ns.length = 1 := by
      injection c2 with c2
      rw [List.length_map] at c2
      omega
    obtain ⟨y, ey⟩ : ∃ y, ns = [y] := one_of l1
    have ek := ok.one y ey
    subst ey
    refine ⟨_, rfl, h, ad.dx, _, rfl, x.at_, (by rfl), h, st, ad, rfl, x, (by have := ok.l20; omega), ok.srt, ok.nd, fun H1 h2 ad2 s1 n2 x2 => ?_⟩
    refine ⟨h2, ad2.dx, _, rfl, x2.at_, (by rfl), h2, st, ad2, rfl, x2, (by have := ok.l20; omega), (fun z => absurd jn z), (fun _ z => absurd (by rw [ek]; rfl) z), fun _ y2 ey2 H3 L t u s3 n3 e3 zt zu => ?_⟩
    obtain rfl : y = y2 := by
      rw [ek] at ey2
      injection ey2
    have sy : PyData.strOk y = true := by
      have := lay_strs [y] (fun z hz => ok.nml z (by rw [ek]; exact hz))
      simpa only [List.map_cons, List.map_nil, PyData.canLayAll0, PyData.canLay0, Bool.and_true] using this
    have s03 := s1.trans s3
    refine ⟨_, rfl, la, _, 0, .str y, rfl, rfl, SqL.of (s03 _ _ hla), (show atI [V.str y] ((0 : Nat) : Int) = some (.str y) from atI_nat rfl), (by show 1 ≤ sizeLine; decide), fun t4 o4 n4 s4 z4 => ?_⟩
    generalize upd H3 t4 o4 = H4 at s4 z4 ⊢
    refine ⟨(by show 2 ≤ sizeLine; decide), fun t5 o5 n5 s5 z5 => ?_⟩
    generalize upd H4 t5 o5 = H5 at s5 z5 ⊢
    refine ⟨(by show 1 ≤ sizeLine; decide), fun l6 n6 => ?_⟩
    generalize hg : upd H5 l6 _ = H6
    obtain ⟨s6, g6⟩ := upd_new hg n6
    clear hg
    have s36 := (s4.trans s5).trans s6
    have s06 := s03.trans s36
    refine ⟨_, _, .lst (SqL.of (s36 _ _ e3)) (.cons (.tup (zt.same s36).sq (.cons (.str _) (.cons (.tup (zu.same s36).sq (.cons (.str _) .nil)) .nil))) .nil), .lst (SqL.of g6) (.cons (.tup (z5.same s6).sq (.cons (.str _) (.cons (.tup ((z4.same s5).same s6).sq (.cons (.str _) .nil)) .nil))) .nil), bye_sh sy, bye_sh sy, _, rfl, ite2 (fun c => absurd c ?_) fun _ => ?_⟩
    · rw [SeqAt.eqv_refl _ (SeqAt.canLay_of_shaped (bye_sh sy))]
      decide
    have x' := x.same s06
    refine ⟨_, rfl, h, ad.dx, _, rfl, x'.at_, (by rfl), _, rfl, h, .str word, st, ad, rfl, kd_word ok.wd, x', ok.l20, ok.srt, ok.lgl, ok.jok, ok.nm, (fun z => nomatch (ok.wd.symm.trans z)), fun z ez tz Hw Lw uw frw xw nLw eLw dLw => ?_⟩
    obtain rfl : word = z := by injection ez
    refine ⟨_, rfl, h, ad.dx, _, rfl, xw.at_, (by rfl), _, rfl, h, .str fr, _, ad, rfl, kd_nm ok.nfr, xw, (by have := ok.l20; show st.lk.length < 60; omega), (fun z => nomatch ((nm_txt ok.nfr).symm.trans z)), fun o eo no => ?_⟩
    obtain rfl : fr = o := by injection eo
    refine ⟨fun c => (c.elim ok.ne ok.nl).elim, fun _ H' Lk' ys off fk nk hx pm srt => ?_⟩
    exact ⟨rfl, q H' _ ys (fun y o e n1 n2 => off _ _ (frw _ _ (s06 _ _ e) n2) n1) hx pm⟩
end
end My

namespace My
open PySem PySem.Spec PyProof.Rows L2 Gy Xl Xs Xt Xo Xp Xq LamX
/-! ### what stands while tables of code objects grow -/
section
variable {K : PySem.W.Frag} {H H' : Hp}
theorem Rng.ext {r : Addr} (h : Rng H r) (s : ExtN H H') : Rng H' r := by
  obtain ⟨x, y, e, h2⟩ := h
  exact ⟨x, y, s _ _ e (fun _ z => nomatch z), h2⟩
mutual
theorem dn_ext (s : ExtN H H') : ∀ {v : V} {d : PyData}, Dn K H v d → Dn K H' v d
  | _, _, .non => .non
  | _, _, .bl b => .bl b
  | _, _, .int i => .int i
  | _, _, .str x => .str x
  | _, _, .lst h a => .lst (s _ _ h fun _ z => nomatch z) (dns_ext s a)
  | _, _, .tup h a => .tup (by obtain ⟨o, e, c⟩ := h; exact ⟨o, s _ _ e (fun _ z => nomatch z), c⟩) (dns_ext s a)
  | _, _, .dic h => .dic (s _ _ h fun _ z => nomatch z)
  | _, _, .dic1 h => .dic1 (s _ _ h fun _ z => nomatch z)
theorem dns_ext (s : ExtN H H') : ∀ {vs : List V} {ds : List PyData}, Dns K H vs ds → Dns K H' vs ds
  | _, _, .nil => .nil
  | _, _, .cons h t => .cons (dn_ext s h) (dns_ext s t)
end
theorem fz_ext (s : ExtN H H') : FzK H H' := fun b o u e => s _ _ e fun _ z => nomatch z
theorem tz_ext {a : Addr} {xs : List V} (h : Tz H a xs) (s : ExtN H H') : Tz H' a xs := by
  obtain ⟨o, e, c⟩ := h
  exact ⟨o, s _ _ e (fun _ z => nomatch z), c⟩
theorem jnd_ext {v : V} {j : Option (List Str × Nat)} (h : Jnd H v j) (s : ExtN H H') : Jnd H' v j := by
  match j, h with
  | none, h => exact h
  | some (xs, c), ⟨t, pa, e, a, b⟩ => exact ⟨t, pa, e, tz_ext a s, tz_ext b s⟩
theorem hst_ext {C h : Addr} {st : HS} {ad : HA} (x : Hst K C H h st ad) (s : ExtN H H') : Hst K C H' h st ad := by
  obtain ⟨v1, a1, b1⟩ := x.lg
  obtain ⟨v2, a2, b2⟩ := x.qu
  obtain ⟨v3, a3, b3⟩ := x.an
  have f := fz_keep (fz_ext s)
  exact ⟨s _ _ x.at_ (fun _ z => nomatch z), s _ _ x.lk (fun _ z => nomatch z), ⟨v1, s _ _ a1 (fun _ z => nomatch z), b1.same f⟩, x.jn.same f, ⟨v2, s _ _ a2 (fun _ z => nomatch z), b2.same f⟩, ⟨v3, s _ _ a3 (fun _ z => nomatch z), b3.same f⟩, x.sep⟩
/-- without the tables and two lists -/
def noT (H : Hp) (Ld Lt : Addr) : Hp := fun a => if a = Ld ∨ a = Lt then none else match H a with
  | some (.tbl _) => none
  | x => x
theorem noT_of {Ld Lt a : Addr} {u : HO} (h : H a = some u) (n1 : a ≠ Ld) (n2 : a ≠ Lt) (n : ∀ ps, u ≠ .tbl ps) : noT H Ld Lt a = some u := by
  unfold noT
  rw [if_neg (fun z => z.elim n1 n2), h]
  split
  · next e => injection e with e; exact absurd e (n _)
  · rfl
theorem noT_inv {Ld Lt a : Addr} {u : HO} (h : noT H Ld Lt a = some u) : H a = some u ∧ ∀ ps, u ≠ .tbl ps := by
  unfold noT at h
  split at h
  · cases h
  · split at h
    · cases h
    · next n => exact ⟨h, fun ps z => n ps (z ▸ h)⟩
theorem noT_ext {Ld Lt : Addr} (n1 : H Ld = none) (n2 : H Lt = none) : ExtN H (noT H Ld Lt) := fun _ _ h n => noT_of h (ne_of_none h n1) (ne_of_none h n2) n
/-- a frame without tables, the two lists of texts that grow, the tables -/
structure Rw (T : List (Addr × Str)) (B H : Hp) (Ld Lt : Addr) (ss tt : List Str) : Prop where
  nt : ∀ b ps, B b ≠ some (.tbl ps)
  sB : Same B H
  bd : B Ld = none
  bt : B Lt = none
  tb : Tabs T H
  hd : H Ld = some (.lst (ss.map V.str))
  ht : H Lt = some (.lst (tt.map V.str))
  ne : Ld ≠ Lt
variable {T : List (Addr × Str)} {B : Hp} {Ld Lt : Addr} {ss tt : List Str}
theorem Rw.extT (x : Rw T B H Ld Lt ss tt) (s : ExtN H H') (t : Tabs T H') : Rw T B H' Ld Lt ss tt :=
  ⟨x.nt, fun b o e => s _ _ (x.sB _ _ e) (fun ps z => x.nt b ps (z ▸ e)), x.bd, x.bt, t, s _ _ x.hd (fun _ z => nomatch z), s _ _ x.ht (fun _ z => nomatch z), x.ne⟩
theorem Rw.same (x : Rw T B H Ld Lt ss tt) (s : Same H H') : Rw T B H' Ld Lt ss tt := x.extT (ExtN.of s) (x.tb.ext s)
theorem tabs_upd {a : Addr} {u o : HO} (t : Tabs T H) (h : H a = some u) (n : ∀ ps, u ≠ .tbl ps) (n2 : ∀ c q, u ≠ CodeO c q) : Tabs T (upd H a o) := fun p hp => by
  obtain ⟨ps, e1, e2, e3⟩ := t p hp
  refine ⟨ps, ?_, e2, fun pos cv hc => ?_⟩
  · rw [upd_ne fun z => ?_]
    · exact e1
    · rw [z, h] at e1
      injection e1 with e1
      exact n ps e1
  · obtain ⟨c, f1, f2⟩ := e3 pos cv hc
    refine ⟨c, f1, ?_⟩
    rw [upd_ne fun z => ?_]
    · exact f2
    · rw [z, h] at f2
      injection f2 with f2
      exact n2 c p.2 (f2.trans (by rw [z]))
theorem tabs_but {r : Addr} (t : Tabs T H) (R : Rng H r) (b : But r H H') : Tabs T H' := fun p hp => by
  obtain ⟨x, y, er, _⟩ := R
  obtain ⟨ps, e1, e2, e3⟩ := t p hp
  refine ⟨ps, b _ _ (fun z => ?_) e1, e2, fun pos cv hc => ?_⟩
  · rw [z, er] at e1
    cases e1
  · obtain ⟨c, f1, f2⟩ := e3 pos cv hc
    refine ⟨c, f1, b _ _ (fun z => ?_) f2⟩
    rw [z, er] at f2
    injection f2 with f2
    cases f2
theorem Rw.due (x : Rw T B H Ld Lt ss tt) (us : List Str) : Rw T B (upd H Ld (.lst (us.map V.str))) Ld Lt us tt :=
  ⟨x.nt, fun b o e => (upd_ne (fun z => by rw [z, x.bd] at e; cases e)).trans (x.sB _ _ e), x.bd, x.bt, tabs_upd x.tb x.hd (fun _ z => nomatch z) (fun _ _ z => nomatch z), upd_same, (upd_ne x.ne.symm).trans x.ht, x.ne⟩
theorem Rw.told (x : Rw T B H Ld Lt ss tt) (us : List Str) : Rw T B (upd H Lt (.lst (us.map V.str))) Ld Lt ss us :=
  ⟨x.nt, fun b o e => (upd_ne (fun z => by rw [z, x.bt] at e; cases e)).trans (x.sB _ _ e), x.bd, x.bt, tabs_upd x.tb x.ht (fun _ z => nomatch z) (fun _ _ z => nomatch z), (upd_ne x.ne).trans x.hd, upd_same, x.ne⟩
/-- the frame, taken anew -/
theorem Rw.reset (x : Rw T B H Ld Lt ss tt) : Rw T (noT H Ld Lt) H Ld Lt ss tt ∧ Same B (noT H Ld Lt) :=
  ⟨⟨fun b ps e => (noT_inv e).2 ps rfl, fun b o e => (noT_inv e).1, if_pos (.inl rfl), if_pos (.inr rfl), x.tb, x.hd, x.ht, x.ne⟩, fun b o e => noT_of (x.sB _ _ e) (ne_of_none e x.bd) (ne_of_none e x.bt) fun ps z => x.nt b ps (z ▸ e)⟩
theorem Rw.tz (x : Rw T B H Ld Lt ss tt) {a : Addr} {xs : List V} (h : Tz H a xs) : Tz (noT H Ld Lt) a xs := by
  obtain ⟨o, e, c⟩ := h
  exact ⟨o, noT_of e (ne_of e x.hd (fun z => nomatch z)) (ne_of e x.ht (fun z => nomatch z)) (fun _ z => nomatch z), c⟩
theorem Rw.lst (x : Rw T B H Ld Lt ss tt) {a : Addr} {xs : List V} (h : H a = some (.lst xs)) (n1 : a ≠ Ld) (n2 : a ≠ Lt) : noT H Ld Lt a = some (.lst xs) := noT_of h n1 n2 fun _ z => nomatch z
/-- the lists are made -/
theorem Rw.start (t : Tabs T H) (n1 : H Ld = none) (n2 : (upd H Ld (.lst [])) Lt = none) : Rw T (noT H Ld Lt) (upd (upd H Ld (.lst [])) Lt (.lst [])) Ld Lt [] [] ∧ ExtN H (noT H Ld Lt) := by
  have s1 : Same H (upd H Ld (.lst [])) := same_upd n1
  have s2 : Same (upd H Ld (.lst [])) (upd (upd H Ld (.lst [])) Lt (.lst [])) := same_upd n2
  have g1 : (upd H Ld (.lst [])) Ld = some (.lst []) := upd_same
  exact ⟨⟨fun b ps e => (noT_inv e).2 ps rfl, fun b o e => s2 _ _ (s1 _ _ (noT_inv e).1), if_pos (.inl rfl), if_pos (.inr rfl), t.ext (s1.trans s2), s2 _ _ g1, upd_same, ne_of_none g1 n2⟩, noT_ext n1 (same_no s1 n2)⟩
/-- what is raised, told -/
theorem ro_told {W N I R Tk Bz L : Addr} {Q : VK} {Ech : XK} {m : Nat} {C : Addr} {v : V} {d : PyData} {fld : Str} (he : ∀ cls dx H', HTold K W N I R Tk Bz L Q cls dx H' → Ech cls dx H') (hm : [W, N, I, R, Tk, Bz, L][m]? = some C) (ef : fldE m = fld) (dn : Dn K H v d) (ft : Fits (.tuple [.str (kn m), d]))
    (q : ∀ H'', Same H H'' → Q (.str (PyData.shown (.tuple [.str (kn m), d]))) H'') : Ro Ech C fld v H := by
  subst ef
  exact fun H' ex s e => he _ _ _ ⟨m, C, v, d, ex, hm, rfl, rfl, e, dn.same s, ft, fun H'' s2 => q H'' (s.trans s2)⟩
end
end My

namespace My
open PySem PySem.Spec PyProof.Rows L2 Gy Xl Xs Xt
/-! ### what is shown of few and short parts: short, and of signs only -/
theorem so_iff {x : Str} : PyData.strOk x = true ↔ ∀ c ∈ x.cps.toList, c < 0x110000 := by
  unfold PyData.strOk
  rw [← Array.all_toList, List.all_eq_true]
  exact ⟨fun h c hc => of_decide_eq_true (h c hc), fun h c hc => decide_eq_true (h c hc)⟩
theorem so_app {x y : Str} (h1 : PyData.strOk x = true) (h2 : PyData.strOk y = true) : PyData.strOk (x ++ y) = true := by
  rw [so_iff] at *
  intro c hc
  have e : (x ++ y).cps.toList = x.cps.toList ++ y.cps.toList := by
    show (x.cps ++ y.cps).toList = _
    rw [Array.toList_append]
  rw [e, List.mem_append] at hc
  rcases hc with hc | hc
  · exact h1 c hc
  · exact h2 c hc
theorem chr_lt (c : Char) : c.toNat < 0x110000 := by
  have h := c.valid
  rcases h with h | h
  · show c.val.toNat < _
    have : c.val.toNat < 0xd800 := h
    omega
  · exact h.2
theorem so_lit (s : String) : PyData.strOk (Str.ofString s) = true := by
  rw [so_iff, Str.ofString_eq_toList]
  intro c hc
  have hc' : c ∈ s.toList.map Char.toNat := hc
  obtain ⟨d, _, rfl⟩ := List.mem_map.mp hc'
  exact chr_lt d
theorem so_join {sep : Str} (hs : PyData.strOk sep = true) : ∀ {ts : List Str}, (∀ t ∈ ts, PyData.strOk t = true) → PyData.strOk (Str.join sep ts) = true
  | [], _ => by
    rw [so_iff]
    intro c hc
    exact nomatch hc
  | [x], h => h x List.mem_cons_self
  | x :: y :: ts, h => by
    show PyData.strOk (x ++ sep ++ Str.join sep (y :: ts)) = true
    exact so_app (so_app (h x List.mem_cons_self) hs) (so_join hs fun t ht => h t (List.mem_cons_of_mem _ ht))
theorem so_char {q c : Nat} (hq : q < 0x110000) (hc : c < 0x110000) : ∀ d ∈ PySem.Builtin.Str.reprChar q c, d < 0x110000 := by
  have hx : ∀ w : Nat, ∀ d ∈ List.replicate (w - ((Nat.toDigits 16 c).map Char.toNat).length) 48 ++ (Nat.toDigits 16 c).map Char.toNat, d < 0x110000 := by
    intro w d hd
    rcases List.mem_append.mp hd with hd | hd
    · rw [(List.mem_replicate.mp hd).2]
      decide
    · obtain ⟨e, _, rfl⟩ := List.mem_map.mp hd
      exact chr_lt e
  intro d hd
  unfold PySem.Builtin.Str.reprChar at hd
  dsimp only at hd
  split at hd
  · simp only [List.mem_cons, List.not_mem_nil, or_false] at hd
    rcases hd with rfl | rfl
    · decide
    · exact hc
  split at hd
  · simp only [List.mem_cons, List.not_mem_nil, or_false] at hd
    rcases hd with rfl | rfl <;> decide
  split at hd
  · simp only [List.mem_cons, List.not_mem_nil, or_false] at hd
    rcases hd with rfl | rfl <;> decide
  split at hd
  · simp only [List.mem_cons, List.not_mem_nil, or_false] at hd
    rcases hd with rfl | rfl <;> decide
  split at hd
  · rw [List.mem_singleton.mp hd]
    exact hc
  split at hd
  · rcases List.mem_append.mp hd with hd | hd
    · simp only [List.mem_cons, List.not_mem_nil, or_false] at hd
      rcases hd with rfl | rfl <;> decide
    · exact hx 2 d hd
  split at hd
  · rcases List.mem_append.mp hd with hd | hd
    · simp only [List.mem_cons, List.not_mem_nil, or_false] at hd
      rcases hd with rfl | rfl <;> decide
    · exact hx 4 d hd
  · rcases List.mem_append.mp hd with hd | hd
    · simp only [List.mem_cons, List.not_mem_nil, or_false] at hd
      rcases hd with rfl | rfl <;> decide
    · exact hx 8 d hd
theorem so_fold {q : Nat} (hq : q < 0x110000) : ∀ (l : List Nat) (a : Array Nat), (∀ c ∈ l, c < 0x110000) → (∀ c ∈ a.toList, c < 0x110000) → ∀ c ∈ (l.foldl (fun out c => out ++ (PySem.Builtin.Str.reprChar q c).toArray) a).toList, c < 0x110000
  | [], a, _, ha => ha
  | x :: l, a, hl, ha => by
    rw [List.foldl_cons]
    refine so_fold hq l _ (fun c hc => hl c (List.mem_cons_of_mem _ hc)) fun c hc => ?_
    rw [Array.toList_append, List.mem_append] at hc
    rcases hc with hc | hc
    · exact ha c hc
    · exact so_char hq (hl x List.mem_cons_self) c hc
theorem so_repr {x : Str} (h : PyData.strOk x = true) : PyData.strOk (reprText x) = true := by
  have hq : reprQuote x < 0x110000 := by
    unfold reprQuote
    split <;> decide
  rw [so_iff] at *
  intro c hc
  unfold reprText at hc
  rw [Array.toList_push, List.mem_append] at hc
  rcases hc with hc | hc
  · rw [← Array.foldl_toList] at hc
    exact so_fold hq _ _ h (fun d hd => by rw [List.mem_singleton.mp hd]; exact hq) c hc
  · rw [List.mem_singleton.mp hc]
    exact hq
def dk0 : List (PyData × PyData) → Bool
  | [] => true
  | [(.str x, .int i)] => decide (x = "a") && decide (i = 1)
  | _ => false
theorem dk0_of {kvs : List (PyData × PyData)} (h : dk0 kvs = true) : kvs = [] ∨ kvs = [(.str "a", .int 1)] := by
  unfold dk0 at h
  split at h
  · exact .inl rfl
  · rw [Bool.and_eq_true, decide_eq_true_eq, decide_eq_true_eq] at h
    rw [h.1, h.2]
    exact .inr rfl
  · cases h
mutual
/-- texts of signs only, few dicts -/
def oks : PyData → Bool
  | .str x => PyData.strOk x
  | .int _ => true
  | .list ds => okss ds
  | .tuple ds => okss ds
  | .dict kvs => dk0 kvs
  | .none => true
  | .bool _ => true
def okss : List PyData → Bool
  | [] => true
  | d :: ds => oks d && okss ds
end
mutual
theorem oks.so : ∀ {d : PyData}, oks d = true → PyData.strOk d.shown = true
  | .str x, h => by
    simp only [PyData.shown]
    exact so_repr h
  | .int i, h => by
    simp only [PyData.shown]
    exact so_lit _
  | .list ds, h => by
    simp only [PyData.shown]
    rw [listText_eq_join]
    exact so_app (so_app (so_lit _) (so_join (so_lit _) (okss.so h))) (so_lit _)
  | .tuple ds, h => by
    simp only [PyData.shown]
    unfold tupleText
    exact so_app (so_app (so_lit _) (so_join (so_lit _) (okss.so h))) (so_lit _)
  | .dict kvs, h => by
    rcases dk0_of h with rfl | rfl <;> decide +kernel
  | .none, _ => by decide +kernel
  | .bool b, _ => by cases b <;> decide +kernel
theorem okss.so : ∀ {ds : List PyData}, okss ds = true → ∀ t ∈ PyData.shownAll ds, PyData.strOk t = true
  | [], _ => fun t ht => by simp only [PyData.shownAll] at ht; cases ht
  | d :: ds, h => by
    have h2 : oks d = true ∧ okss ds = true := by simpa only [okss, Bool.and_eq_true] using h
    intro t ht
    simp only [PyData.shownAll] at ht
    rcases List.mem_cons.mp ht with rfl | ht
    · exact oks.so h2.1
    · exact okss.so h2.2 t ht
end
theorem okss_of : ∀ {ds : List PyData}, (∀ d ∈ ds, oks d = true) → okss ds = true
  | [], _ => rfl
  | d :: ds, h => by
    show (oks d && okss ds) = true
    rw [h d List.mem_cons_self, okss_of fun e he => h e (List.mem_cons_of_mem _ he)]
    rfl
end My

namespace My
open PySem PySem.Spec PyProof.Rows L2 Gy Xl Xs Xt Xo Xp Xq LamX
/-! ### texts of what is shown -/
theorem odd_oks : ∀ d ∈ oddD, oks d = true := all_of (p := oks) (by decide +kernel)
theorem item_oks : ∀ d ∈ itemD, oks d = true := all_of (p := oks) (by decide +kernel)
theorem kn_oks (m : Nat) : oks (.str (kn m)) = true := by
  unfold kn
  split <;> decide +kernel
theorem nm_oks {x : Str} (h : Nm x) : oks (.str x) = true := so_iff.mpr fun c hc => by
  have z : ∀ d ∈ LET.cps.toList, d < 0x110000 := by decide +kernel
  exact z c (h.2.2 c hc)
theorem told_so {m : Nat} {d : PyData} (h : oks d = true) : PyData.strOk (PyData.shown (.tuple [.str (kn m), d])) = true := oks.so (by
  show (oks (.str (kn m)) && (oks d && true)) = true
  rw [kn_oks, h]
  rfl)
theorem lay_strsD : ∀ {xs : List Str}, (∀ x ∈ xs, PyData.strOk x = true) → PyData.canLayAll0 (xs.map PyData.str) = true
  | [], _ => rfl
  | x :: xs, h => by
    show (PyData.strOk x && PyData.canLayAll0 (xs.map PyData.str)) = true
    rw [h x List.mem_cons_self, lay_strsD fun y hy => h y (List.mem_cons_of_mem _ hy)]
    rfl
theorem dep_strs : ∀ {xs : List Str}, PyData.depthAll (xs.map PyData.str) = 0
  | [] => rfl
  | x :: xs => by
    show max 0 (PyData.depthAll (xs.map PyData.str)) = 0
    rw [dep_strs]
    rfl
theorem shp_strs {xs : List Str} (h : ∀ x ∈ xs, PyData.strOk x = true) : SeqAt.shaped (.list (xs.map PyData.str)) = true := by
  unfold SeqAt.shaped
  rw [show (PyData.list (xs.map PyData.str)).canLay0 = true from lay_strsD h]
  show (true && decide (PyData.depthAll (xs.map PyData.str) + 1 ≤ 64)) = true
  rw [dep_strs]
  rfl
/-! ### a longer log and more links show longer -/
theorem jl : ∀ (xs : List Str), xs ≠ [] → (Str.join ", " xs).length + 2 = (xs.map fun x => x.length + 2).sum
  | [], h => absurd rfl h
  | [x], _ => rfl
  | x :: y :: ts, _ => by
    have h := jl (y :: ts) (fun z => nomatch z)
    show (x ++ (", " : Str) ++ Str.join ", " (y :: ts)).length + 2 = (x.length + 2) + ((y :: ts).map fun x => x.length + 2).sum
    have e : (x ++ (", " : Str) ++ Str.join ", " (y :: ts)).length = x.length + 2 + (Str.join ", " (y :: ts)).length := by
      show (x.cps ++ (", " : Str).cps ++ (Str.join ", " (y :: ts)).cps).size = x.cps.size + 2 + (Str.join ", " (y :: ts)).cps.size
      rw [Array.size_append, Array.size_append]
      rfl
    rw [e, ← h]
    omega
/-- how long the text of a list is that is not empty -/
theorem shl_len {ds : List PyData} (h : ds ≠ []) : (PyData.shown (.list ds)).length = (ds.map fun d => d.shown.length + 2).sum := by
  have sa : ∀ ds : List PyData, PyData.shownAll ds = ds.map PyData.shown := fun ds => by
    induction ds with
    | nil => rfl
    | cons d ds ih => simp only [PyData.shownAll, ih, List.map_cons]
  simp only [PyData.shown]
  rw [listText_eq_join, sa]
  have e : ∀ x : Str, (("[" : Str) ++ x ++ ("]" : Str)).length = x.length + 2 := fun x => by
    show (("[" : Str).cps ++ x.cps ++ ("]" : Str).cps).size = x.cps.size + 2
    rw [Array.size_append, Array.size_append]
    show 1 + x.cps.size + 1 = _
    omega
  rw [e, jl _ (fun z => h (List.map_eq_nil_iff.mp z)), List.map_map]
  rfl
theorem sum_perm {α : Type} {f : α → Nat} {xs ys : List α} (p : xs.Perm ys) : (xs.map f).sum = (ys.map f).sum := (p.map f).sum_nat
/-- the host after the valid calls is shown otherwise -/
theorem shown_ne {st : HS} {d : PyData} {fr : Str} {ys : List Str} (pm : ys.Perm (st.lk ++ [fr])) (lg : st.lg ≠ []) (lk : st.lk ≠ []) : (shownD st).shown ≠ (shownD { st with lg := st.lg ++ [d], lk := ys }).shown := fun z => by
  have z := congrArg Str.length z
  unfold shownD at z
  have nn : ∀ (a : PyData) (r : List PyData), (PyData.list (a :: r)).shown.length = ((a :: r).map fun d => d.shown.length + 2).sum := fun a r => shl_len (List.cons_ne_nil a r)
  rw [nn, nn] at z
  have ny : ys ≠ [] := fun e => by
    have := pm.length_eq
    rw [e, List.length_append] at this
    exact absurd this (by show ¬ 0 = _ + 1; omega)
  have l1 := shl_len (ds := st.lg) lg
  have l2 := shl_len (ds := st.lg ++ [d]) (by simp)
  have l3 := shl_len (ds := st.lk.map PyData.str) (fun z => lk (List.map_eq_nil_iff.mp z))
  have l4 := shl_len (ds := ys.map PyData.str) (fun z => ny (List.map_eq_nil_iff.mp z))
  rw [sum_perm (pm.map PyData.str), List.map_append, List.map_append, List.sum_append] at l4
  rw [List.map_append, List.sum_append] at l2
  simp only [List.map_cons, List.map_nil, List.sum_cons, List.sum_nil] at z l2 l4
  rw [l1, l2, l3, l4] at z
  omega
/-- what the host shows fits -/
theorem shown_fits {st : HS} (h1 : ∀ d ∈ [PyData.str st.nm, .list st.lg, .list (st.lk.map PyData.str), .list st.an, jnD st.jn, .str st.sg, .list st.qu], Bd 10 20000 d) : Fits (shownD st) := (Bd.lst (n := 10) (W := 20000) (L := 7) h1 (by show 7 ≤ 7; decide) (by decide)).fits (by decide) (by decide)
end My

namespace My
open PySem PySem.Spec PyProof.Rows L2 Gy Xl Xs Xt Xo Xp Xq LamX
section
variable {K : PySem.W.Frag} {C : Addr} {H H' : Hp} {T : List (Addr × Str)}
theorem seq_by {A rest : TS} {D : Ends} {σ : L2.St} {H : Hp} (S : Hp → Prop) (h2 : ∀ H', S H' → rest D σ H') (h1 : ∀ R : Ends, (∀ H', S H' → R.nx σ H') → A R σ H) : tSeq A rest D σ H := h1 _ h2
/-- all but the pot and the tables -/
def Fr (r : Addr) (H H' : Hp) : Prop := ∀ b o, H b = some o → b ≠ r → (∀ ps, o ≠ .tbl ps) → H' b = some o
theorem hst_wo {r h : Addr} {st : HS} {ad : HA} (x : Hst K C H h st ad) (R : Rng H r) (n0 : h ≠ r) (n1 : ad.Lk ≠ r) (n2 : ad.Ll ≠ r) (n3 : ad.Lq ≠ r) (n4 : ad.La ≠ r) : Hst K C (wo r H) h st ad := by
  obtain ⟨v1, a1, b1⟩ := x.lg
  obtain ⟨v2, a2, b2⟩ := x.qu
  obtain ⟨v3, a3, b3⟩ := x.an
  have f := fz_keep (show FzK H (wo r H) from fun b o u e => (wo_at (fun z => by
    obtain ⟨_, _, er, _⟩ := R
    rw [z, er] at e
    cases e)).trans e)
  exact ⟨(wo_at n0).trans x.at_, (wo_at n1).trans x.lk, ⟨v1, (wo_at n2).trans a1, b1.same f⟩, x.jn.same f, ⟨v2, (wo_at n3).trans a2, b2.same f⟩, ⟨v3, (wo_at n4).trans a3, b3.same f⟩, x.sep⟩
/-- not there at first -/
def Nw (H0 : Hp) (a : Addr) : Prop := ∀ o, H0 a = some o → (∀ ps, o ≠ .tbl ps) → False
theorem Nw.of {r a : Addr} {H0 H : Hp} (fr : Fr r H0 H) (n : a ≠ r) (e : H a = none) : Nw H0 a := fun o h m => by
  rw [fr _ _ h n m] at e
  cases e
structure NeR (p r : Addr) (ad : HA) : Prop where
  n0 : p ≠ r
  n1 : ad.Lk ≠ r
  n2 : ad.Ll ≠ r
  n3 : ad.Lq ≠ r
  n4 : ad.La ≠ r
theorem tabs_off {p dx : Addr} {fs : List (Str × V)} (t : Tabs T H) (hp : H p = some (.ins C dx fs)) (o : Off p H H') : Tabs T H' := fun q hq => by
  obtain ⟨ps, e1, e2, e3⟩ := t q hq
  refine ⟨ps, o _ _ e1 (fun z => ?_), e2, fun pos cv hc => ?_⟩
  · rw [z, hp] at e1
    cases e1
  · obtain ⟨c, f1, f2⟩ := e3 pos cv hc
    refine ⟨c, f1, o _ _ f2 (fun z => ?_)⟩
    rw [z, hp] at f2
    injection f2 with f2
    cases f2
/-- what stands while values are drawn -/
structure Dw (T : List (Addr × Str)) (K : PySem.W.Frag) (C : Addr) (H0 H : Hp) (r lu ln p : Addr) (us ns : List Str) (st : HS) (ad : HA) : Prop where
  R : Rng H r
  tb : Tabs T H
  fr : Fr r H0 H
  hu : wo r H lu = some (.lst (us.map V.str))
  hl : wo r H ln = some (.lst (ns.map V.str))
  hx : Hst K C (wo r H) p st ad
  pn : Nw H0 p
  gn : Nw H0 ad.Ll
  ne : NeR p r ad
variable {H0 : Hp} {r lu ln p : Addr} {us ns : List Str} {st st' : HS} {ad ad' : HA}
theorem Dw.but (x : Dw T K C H0 H r lu ln p us ns st ad) (b : But r H H') (R' : Rng H' r) : Dw T K C H0 H' r lu ln p us ns st ad :=
  ⟨R', tabs_but x.tb x.R b, fun y o e n1 n2 => b _ _ n1 (x.fr _ _ e n1 n2), wo_but b _ _ x.hu, wo_but b _ _ x.hl, x.hx.same (wo_but b), x.pn, x.gn, x.ne⟩
theorem Dw.same (x : Dw T K C H0 H r lu ln p us ns st ad) (s : Same H H') : Dw T K C H0 H' r lu ln p us ns st ad := x.but (But.of s) (x.R.same s)
theorem Dw.hst (x : Dw T K C H0 H r lu ln p us ns st ad) : Hst K C H p st ad := x.hx.same (wo_same r H)
theorem Dw.ulu (x : Dw T K C H0 H r lu ln p us ns st ad) : H lu = some (.lst (us.map V.str)) := wo_same r H _ _ x.hu
theorem Dw.uln (x : Dw T K C H0 H r lu ln p us ns st ad) : H ln = some (.lst (ns.map V.str)) := wo_same r H _ _ x.hl
theorem wo_ne {r a : Addr} {H : Hp} {u : HO} (h : wo r H a = some u) : a ≠ r := fun z => by
  subst z
  unfold wo at h
  rw [if_pos rfl] at h
  cases h
theorem Dw.off (x : Dw T K C H0 H r lu ln p us ns st ad) (o : Off p H H') (hx : Hst K C H' p st' ad') (gn : Nw H0 ad'.Ll) (ne : NeR p r ad') : Dw T K C H0 H' r lu ln p us ns st' ad' := by
  have R' : Rng H' r := by
    obtain ⟨a, b, e, h2⟩ := x.R
    exact ⟨a, b, o _ _ e (ne_of e x.hst.at_ (fun z => nomatch z)), h2⟩
  exact ⟨R', tabs_off x.tb x.hst.at_ o, fun y u e n1 n2 => o _ _ (x.fr _ _ e n1 n2) (fun z => x.pn u (z ▸ e) n2), (wo_at (wo_ne x.hu)).trans (o _ _ x.ulu (ne_of x.ulu x.hst.at_ (fun z => nomatch z))), (wo_at (wo_ne x.hl)).trans (o _ _ x.uln (ne_of x.uln x.hst.at_ (fun z => nomatch z))), hst_wo hx R' ne.n0 ne.n1 ne.n2 ne.n3 ne.n4, x.pn, gn, ne⟩
/-- what the host shows fits -/
theorem st_fits {st : HS} (a : Nm st.nm) (b : ∀ x ∈ st.lk, Nm x) (b2 : st.lk.length ≤ 14) (c : ∀ d ∈ st.lg, Bd 5 1000 d) (c2 : st.lg.length ≤ 14) (e : st.qu = []) (f : st.an = []) (g : st.sg = "free" ∨ st.sg = "reserved") (h : ∀ xs c, st.jn = some (xs, c) → (∀ x ∈ xs, Nm x) ∧ xs.length ≤ 14 ∧ c ≤ 100) : Fits (shownD st) := by
  have nmb : ∀ x, Nm x → Bd 10 20000 (.str x) := fun x hx => (a0_nm hx).mono (by decide) (by decide)
  have em : Bd 10 20000 (.list []) := (Bd.lst (ds := []) (n := 0) (W := 0) (L := 0) (fun _ z => nomatch z) (Nat.le_refl _) (by decide)).mono (by decide) (by decide)
  have nms : ∀ xs : List Str, (∀ x ∈ xs, Nm x) → ∀ d ∈ xs.map PyData.str, Bd 1 120 d := fun xs hx d hd => by
    obtain ⟨x, m, rfl⟩ := List.mem_map.mp hd
    exact a0_nm (hx x m)
  refine shown_fits fun d hd => ?_
  simp only [List.mem_cons, List.not_mem_nil, or_false] at hd
  rcases hd with rfl | rfl | rfl | rfl | rfl | rfl | rfl
  · exact nmb _ a
  · exact (Bd.lst (L := 14) c c2 (by decide)).mono (by decide) (by decide)
  · exact (Bd.lst (L := 14) (nms _ b) (by rw [List.length_map]; exact b2) (by decide)).mono (by decide) (by decide)
  · rw [f]
    exact em
  · cases j : st.jn with
    | none => exact a0_non.mono (by decide) (by decide)
    | some z =>
      obtain ⟨xs, k⟩ := z
      obtain ⟨h1, h2, h3⟩ := h xs k j
      exact (Bd.tup (n := 2) (W := 2000) (L := 2) (fun e he => by
          simp only [List.mem_cons, List.not_mem_nil, or_false] at he
          rcases he with rfl | rfl
          · exact (Bd.tup (n := 1) (W := 120) (L := 14) (nms _ h1) (by rw [List.length_map]; exact h2) (by decide)).mono (by decide) (by decide)
          · exact (a0_nat h3).mono (by decide) (by decide)) (by show 2 ≤ 2; decide) (by decide)).mono (by decide) (by decide)
  · rcases g with g | g <;> rw [g] <;> exact (a0_txt).mono (by decide) (by decide)
  · rw [e]
    exact em
/-! ### the other values drawn -/
theorem txt_w {v : V} {d : PyData} (h : Dn K H v d) : textOf v WSG 12 = isWord d := by cases h <;> rfl
theorem txt_h {v : V} {d : PyData} (h : Dn K H v d) : textOf v LET 8 = isHost d := by cases h <;> rfl
theorem word_of {u : V} (h : u ∈ [V.str "x", .str "9", .str "abcdefghijkl", .str "a1b2"]) : ∃ x, u = .str x ∧ isWord (.str x) = true ∧ A0 (.str x) := by
  simp only [List.mem_cons, List.not_mem_nil, or_false] at h
  rcases h with rfl | rfl | rfl | rfl <;> exact ⟨_, rfl, by decide +kernel, a0_txt⟩
theorem lword_of {u : V} (h : u ∈ [V.str "abcdefghijklm", .str "X", .str "a.b"]) : ∃ x, u = .str x ∧ isWord (.str x) = false ∧ A0 (.str x) ∧ oks (.str x) = true := by
  simp only [List.mem_cons, List.not_mem_nil, or_false] at h
  rcases h with rfl | rfl | rfl <;> exact ⟨_, rfl, by decide +kernel, a0_txt, by decide +kernel⟩
theorem lname_of {u : V} (h : u ∈ [V.str "ninechars", .str "a1"]) : ∃ x, u = .str x ∧ isHost (.str x) = false ∧ A0 (.str x) ∧ oks (.str x) = true := by
  simp only [List.mem_cons, List.not_mem_nil, or_false] at h
  rcases h with rfl | rfl <;> exact ⟨_, rfl, by decide +kernel, a0_txt, by decide +kernel⟩
def cutD : List PyData := [.int (-1), .int 2, .bool true, .bool false, .none, .str "0", .list [], .tuple [], .dict [], .int (10 ^ 20)]
theorem cut_no : ∀ d ∈ cutD, isIdx 2 d = false := fun d m => by
  have := all_of (p := fun d => !isIdx 2 d) (ds := cutD) (by decide +kernel) d m
  simpa using this
theorem cut_bd : ∀ d ∈ cutD, Bd 2 200 d := fun d m => okB.bd (all_of (p := okB 2 200) (ds := cutD) (by decide +kernel) d m)
theorem cut_oks : ∀ d ∈ cutD, oks d = true := all_of (p := oks) (by decide +kernel)
/-- what stands in the frame -/
structure Fb (K : PySem.W.Frag) (C : Addr) (H0 B : Hp) (r lu ln p : Addr) (us ns : List Str) (st : HS) (ad : HA) (v1 v2 v3 v4 : V) (d1 d2 d3 d4 : PyData) : Prop where
  R : Rng B r
  fr : Fr r H0 B
  hu : B lu = some (.lst (us.map V.str))
  hl : B ln = some (.lst (ns.map V.str))
  hx : Hst K C B p st ad
  q1 : Dn K B v1 d1
  q2 : Dn K B v2 d2
  q3 : Dn K B v3 d3
  q4 : Dn K B v4 d4
variable {B B' : Hp} {v1 v2 v3 v4 : V} {d1 d2 d3 d4 : PyData}
theorem Fb.same (x : Fb K C H0 B r lu ln p us ns st ad v1 v2 v3 v4 d1 d2 d3 d4) (s : Same B B') : Fb K C H0 B' r lu ln p us ns st ad v1 v2 v3 v4 d1 d2 d3 d4 :=
  ⟨x.R.same s, fun y o e n1 n2 => s _ _ (x.fr _ _ e n1 n2), s _ _ x.hu, s _ _ x.hl, x.hx.same s, x.q1.same s, x.q2.same s, x.q3.same s, x.q4.same s⟩
theorem Fb.of (x : Dw T K C H0 H r lu ln p us ns st ad) (s : ExtN H B) (q1 : Db K r H v1 d1) (q2 : Db K r H v2 d2) (q3 : Db K r H v3 d3) (q4 : Db K r H v4 d4) : Fb K C H0 B r lu ln p us ns st ad v1 v2 v3 v4 d1 d2 d3 d4 :=
  ⟨x.R.ext s, fun y o e n1 n2 => s _ _ (x.fr _ _ e n1 n2) n2, s _ _ x.ulu (fun _ z => nomatch z), s _ _ x.uln (fun _ z => nomatch z), hst_ext x.hst s, dn_ext s q1.dn, dn_ext s q2.dn, dn_ext s q3.dn, dn_ext s q4.dn⟩
theorem two_at {P : V → Prop} {a b y : V} {i : Nat} (e : [a, b][i]? = some y) (pa : P a) (pb : P b) : P y := by
  match i, e with
  | 0, e => injection e with e; subst e; exact pa
  | 1, e => injection e with e; subst e; exact pb
  | i + 2, e => simp at e
theorem four_at {P : V → Prop} {a b c d y : V} {i : Nat} (e : [a, b, c, d][i]? = some y) (pa : P a) (pb : P b) (pc : P c) (pd : P d) : P y := by
  match i, e with
  | 0, e => injection e with e; subst e; exact pa
  | 1, e => injection e with e; subst e; exact pb
  | 2, e => injection e with e; subst e; exact pc
  | 3, e => injection e with e; subst e; exact pd
  | i + 4, e => simp at e
/-- a pair that is no relink that this host may ask for -/
def NoAsk (da db : PyData) (n : Str) : Prop := isRel (.tuple [da, db]) = false ∨ ∃ xs c, PyData.tuple [da, db] = reld xs c ∧ xs.head? ≠ some n
def PairOk (K : PySem.W.Frag) (B : Hp) (n : Str) (y : V) : Prop := ∃ (t : Addr) (va vb : V) (da db : PyData), y = .ref t ∧ Tz B t [va, vb] ∧ Dn K B va da ∧ Dn K B vb db ∧ Bd 4 3000 (.tuple [da, db]) ∧ oks (.tuple [da, db]) = true ∧ NoAsk da db n
theorem pair_bd {da db : PyData} (a : Bd 3 1400 da) (b : Bd 3 1400 db) : Bd 4 3000 (.tuple [da, db]) := (Bd.tup (n := 3) (W := 1400) (L := 2) (fun e he => by
  simp only [List.mem_cons, List.not_mem_nil, or_false] at he
  rcases he with rfl | rfl
  · exact a
  · exact b) (by show 2 ≤ 2; decide) (by decide)).mono (by decide) (by decide)
theorem pair_oks {da db : PyData} (a : oks da = true) (b : oks db = true) : oks (.tuple [da, db]) = true := by
  show (oks da && (oks db && true)) = true
  rw [a, b]
  rfl
theorem path_bd {a b c : Str} (h1 : Nm a) (h2 : Nm b) (h3 : Nm c) : Bd 3 1400 (.tuple [.str a, .str b, .str c]) := (Bd.tup (n := 1) (W := 120) (L := 3) (fun e he => by
  simp only [List.mem_cons, List.not_mem_nil, or_false] at he
  rcases he with rfl | rfl | rfl
  · exact a0_nm h1
  · exact a0_nm h2
  · exact a0_nm h3) (by show 3 ≤ 3; decide) (by decide)).mono (by decide) (by decide)
theorem path_oks {a b c : Str} (h1 : Nm a) (h2 : Nm b) (h3 : Nm c) : oks (.tuple [.str a, .str b, .str c]) = true := by
  show (oks (.str a) && (oks (.str b) && (oks (.str c) && true))) = true
  rw [nm_oks h1, nm_oks h2, nm_oks h3]
  rfl
theorem cut_noask {a b c n : Str} {d : PyData} (h : isIdx 2 d = false) : NoAsk (.tuple [.str a, .str b, .str c]) d n := .inl (by
  rw [isRel_2]
  show (_ && isIdx ((3 : Nat) - 1 : Int) d) = false
  rw [show (((3 : Nat) : Int) - 1) = 2 from rfl, h, Bool.and_false])
theorem rev_noask {a b c n : Str} (h : c ≠ n) : NoAsk (.tuple [.str c, .str b, .str a]) (.int ((0 : Nat) : Int)) n := .inr ⟨[c, b, a], 0, rfl, fun z => h (by injection z)⟩
variable {Ld Lt : Addr} {ss tt : List Str}
theorem em_snoc (ss : List Str) (x : Str) : ss.map V.str ++ [.str x] = (ss ++ [x]).map V.str := by rw [List.map_append]; rfl
theorem small_ext {ss : List Str} {t : V} (h : ss.length ≤ 100) : (ss.map V.str).length + ((List.replicate (Int.toNat 2) [t]).flatten).length ≤ sizeLine := by
  have a : (ss.map V.str).length = ss.length := List.length_map ..
  have b : ((List.replicate (Int.toNat 2) [t]).flatten).length = 2 := rfl
  rw [a, b]
  exact Nat.le_trans (Nat.add_le_add_right h 2) (by decide)
theorem atI_end (ns : List Str) (h : ns ≠ []) : ∃ x, x ∈ ns ∧ atI (ns.map V.str) (-1) = some (.str x) := by
  refine ⟨ns.getLast h, List.getLast_mem h, ?_⟩
  have e := List.dropLast_concat_getLast h
  have f : ns.map V.str = ns.dropLast.map V.str ++ [V.str (ns.getLast h)] := by
    rw [show ns.map V.str = (ns.dropLast ++ [ns.getLast h]).map V.str from by rw [e], List.map_append]
    rfl
  rw [f]
  exact atI_last _ _
theorem so_snoc {ss : List Str} {x : Str} (h : ∀ y ∈ ss, PyData.strOk y = true) (hx : PyData.strOk x = true) : ∀ y ∈ ss ++ [x], PyData.strOk y = true := fun y hy => by
  rcases List.mem_append.mp hy with hy | hy
  · exact h y hy
  · rw [List.mem_singleton.mp hy]
    exact hx
theorem len_snoc {ss : List Str} {x : Str} {n : Nat} (h : ss.length ≤ n) : (ss ++ [x]).length ≤ n + 1 := by
  rw [List.length_append]
  show _ + 1 ≤ _
  omega
/-- lists of texts as data -/
theorem dp_due {H : Hp} {L : Addr} : ∀ {xs : List Str}, H L = some (.lst (xs.map V.str)) → Dp K H (.ref L) (.list (xs.map PyData.str)) := fun {xs} e => by
  refine .lst (SqL.of e) ?_
  clear e
  induction xs with
  | nil => exact .nil
  | cons x xs ih => exact .cons (.str x) ih
theorem tabs_two {a b : Addr} {u v : HO} (t : Tabs T H) (ha : H a = some u) (hb : H b = some v) (na : ∀ ps, u ≠ .tbl ps) (na2 : ∀ c q, u ≠ CodeO c q) (nb : ∀ ps, v ≠ .tbl ps) (nb2 : ∀ c q, v ≠ CodeO c q) (o : ∀ y w, H y = some w → y ≠ a → y ≠ b → H' y = some w) : Tabs T H' := fun q hq => by
  obtain ⟨ps, e1, e2, e3⟩ := t q hq
  refine ⟨ps, o _ _ e1 (fun z => ?_) (fun z => ?_), e2, fun pos cv hc => ?_⟩
  · rw [z, ha] at e1
    injection e1 with e1
    exact na _ e1
  · rw [z, hb] at e1
    injection e1 with e1
    exact nb _ e1
  · obtain ⟨c, f1, f2⟩ := e3 pos cv hc
    refine ⟨c, f1, o _ _ f2 (fun z => ?_) (fun z => ?_)⟩
    · rw [z, ha] at f2
      injection f2 with f2
      exact na2 c q.2 (f2.trans (by rw [z]))
    · rw [z, hb] at f2
      injection f2 with f2
      exact nb2 c q.2 (f2.trans (by rw [z]))
end
end My

namespace My
open PySem PySem.Spec PyProof.Rows L2 Gy Xl Xs Xt Xo Xp Xq LamX
section
variable {P : Program} {w : World} {K : PySem.W.Frag} {mg : Str → Option Value} {base : Heap} {H : Hp} {C CD W N I R Tk Bz L o1 o2 o3 o4 o5 o6 E0' : Addr}
structure TldF (K : PySem.W.Frag) (mg : Str → Option Value) : Prop where
  ex : ∃ (g : Addr) (fd : FuncData), mg "_law_told" = some (.ref g) ∧ PySem.W.keepIn K (.ref g) = true ∧ Binds K fd ["_law_call"] [] ∧ Fun K "_law_told" "_law_told" s_law_told g fd
theorem cx_code {CX : CXT} {N : List Str} {qual : Str} {sc : Scope} {f : Addr} {cdv : Value} {A : Around} {outer : List Env} {s : Shared} {E : XK} : (cxOf CX P w K mg base N qual sc f cdv A outer s H E).nox.env.code = cdv := rfl
theorem seven_of {xs : List Str} (h : xs.length = 7) : ∃ (a b c d e f g : Str), xs = [a, b, c, d, e, f, g] := by
  match xs, h with
  | [a, b, c, d, e, f, g], _ => exact ⟨a, b, c, d, e, f, g, rfl⟩
/-- the links drawn -/
theorem near_of (n0 n1 n2 n3 n4 n5 n6 : Str) {k : Nat} (h : k < 4) : ∃ ns tl : List Str, cutV ([n0, n1, n2, n3, n4, n5, n6].map V.str) (some 1) (some (2 + (k : Int))) = ns.map V.str ∧ ns = n1 :: tl ∧ ns.length = k + 1 ∧ ns.Sublist [n1, n2, n3, n4] ∧ (k < 3 → ns.Sublist [n1, n2, n3]) := by
  match k, h with
  | 0, _ => exact ⟨[n1], [], rfl, rfl, rfl, by simp, fun _ => by simp⟩
  | 1, _ => exact ⟨[n1, n2], [n2], rfl, rfl, rfl, by simp, fun _ => by simp⟩
  | 2, _ => exact ⟨[n1, n2, n3], [n2, n3], rfl, rfl, rfl, by simp, fun _ => by simp⟩
  | 3, _ => exact ⟨[n1, n2, n3, n4], [n2, n3, n4], rfl, rfl, rfl, by simp, fun z => absurd z (by decide)⟩
/-- one cell of the law -/
def spRight (T : List (Addr × Str)) (K : PySem.W.Frag) : Sp := fun vs H Q _ => ∃ (r : Addr), vs = [.ref r] ∧ Rng H r ∧ Tabs T H ∧ ∀ H', (∀ b o, H b = some o → b ≠ r → (∀ ps, o ≠ .tbl ps) → H' b = some o) → Tabs T H' → Q (.bl true) H'
theorem ok_right {f c Pt : Addr} {fd : FuncData} {T : List (Addr × Str)} (F : FunT K "_law_right" "_law_right" s_law_right f fd (.ref c)) (Y : Bn mg) (G : Cg K) (T_ : Ch K C) (MI : MkH P w K mg base C) (RF : TldF K mg) (XX : X47 K mg W N I R Tk Bz L o1 o2 o3 o4 o5 o6 E0') (XT : X47t K W N I R Tk Bz L)
    (KF : Fp P w K mg base 1 "_law_kind" ["_law_e"] (spKd K W N I R Tk Bz L)) (TB : TabB base mg c Pt) (mT : (Pt, (("_law_right" : Str) ++ ".<locals>.") ++ "<lambda>") ∈ T) (uT : ∀ p ∈ T, p.1 = Pt → p.2 = (("_law_right" : Str) ++ ".<locals>.") ++ "<lambda>")
    (M_write : Fm P w K mg base (L2.CX P w) 10 C "write" ["self", "word"] (spWrite K C W)) (M_receive : Fm P w K mg base (L2.CX P w) 7 C "receive" ["self", "source", "item"] (spRecv K C N I)) (M_add_link : Fm P w K mg base (L2.CX P w) 3 C "add_link" ["self", "other"] (spAddL K C N Tk))
    (M_ask : Fm P w K mg base (L2.CX P w) 6 C "ask" ["self", "path", "cut"] (spAsk K C R Bz CD)) (M_leave : Fm P w K mg base (L2.CX P w) 4 C "leave" ["self"] (spLeave K C Bz L))
    (G_law_draw : Fk P w K mg base CX0 1 "_law_draw" ["_law_pot_here", "_law_count"] spDraw) (G_law_choose : Fk P w K mg base CX0 2 "_law_choose" ["_law_pot_here", "_law_values"] spCh) (G_law_name : Fk P w K mg base CX0 2 "_law_name" ["_law_pot_here", "_law_used"] spName)
    (G_law_odd : Fk P w K mg base CX0 3 "_law_odd" ["_law_pot_here"] (spOdd K)) (G_law_odd_item : Fk P w K mg base CX0 4 "_law_odd_item" ["_law_pot_here"] (spOddI K)) (G_law_shown : Fg P w K mg base CX0 2 "_law_shown" ["_law_host"] (spShown K C))
    (G_law_valid_right : Fk P w K mg base CX0 11 "_law_valid_right" ["_law_host", "_law_near", "_law_word", "_law_fresh"] (spVR K C)) : FnG P w K mg base CX0 13 f fd ["_law_pot_here"] (spRight T K) := by
  obtain ⟨_, _, MM_write, MB_write, MF_write⟩ := M_write.ex
  obtain ⟨_, _, MM_receive, MB_receive, MF_receive⟩ := M_receive.ex
  obtain ⟨_, _, MM_add_link, MB_add_link, MF_add_link⟩ := M_add_link.ex
  obtain ⟨_, _, MM_ask, MB_ask, MF_ask⟩ := M_ask.ex
  obtain ⟨_, _, MM_leave, MB_leave, MF_leave⟩ := M_leave.ex
  obtain ⟨fI, fdI, gI, MMk, KBI, FI⟩ := MI.ex
  have gH := MI.gm
  obtain ⟨gT', fdT, gm, gk, bR, FR⟩ := RF.ex
  obtain ⟨ocR, odR, kVR, docR, pmR, anR, cdvR, ctR, oslR, rfl, lkR, hcR⟩ := FR.ex
  refine fun_gT F sc_law_right (fun {vs H Q E} h => ?_) (fun A outer s H vs Q E gd hr h => ?_)
  · obtain ⟨r, rfl, _⟩ := h
    rfl
  · obtain ⟨r, rfl, R0, tb, q⟩ := h
    have hu70 := Room.units70 hr
    have hu64 := hr.units
    refine ⟨_, (pss_cons (ps_set (i := 1) sc_law_right.nd rfl (.inl rfl) (pe_lst pa_nil))
 (pss_cons (ps_for PassesOwn.never rfl (pi_range1 (by rfl) Y.range (pa_cons pe_int pa_nil)) (pg_name (i := 2) sc_law_right.nd rfl (Or.inl rfl))
 (pss_one (ps_expr (pe_bm PySem.F.plainAttrs_list PySem.F.slot_list_append PySem.F.type_list_append mt_append (pv 1) (pa_cons (pe_callF G_law_name (hr.mono (by decide)) (by rfl) pass0 (pa_cons (pv 0) (pa_cons (pv 1) pa_nil))) pa_nil)))))
 (pss_cons (ps_set (i := 3) sc_law_right.nd rfl (.inl rfl) (pe_slice sl_list (pv 1) (po_some pe_int) (po_some (pe_op op_add pe_int (pe_callF G_law_draw (hr.mono (by decide)) (by rfl) pass0 (pa_cons (pv 0) (pa_cons pe_int pa_nil)))))))
 (pss_cons (ps_asg (pe_tupZ (pa_cons (pe_makeK (n := 1) MMk FI (hr.mono (by decide)) (by rfl) gH KBI pass0 (pa_cons (pe_ix ix_list (pv 1) pe_int (fun _ _ => rfl)) pa_nil) (pk_cons (pv 3) (pk_cons (pe_lst (pa_cons (pe_tupZ (pa_cons pe_str (pa_cons pe_str pa_nil))) pa_nil)) pk_nil))) (pa_cons (pe_cmpR op_eq (pe_callF G_law_draw (hr.mono (by decide)) (by rfl) pass0 (pa_cons (pv 0) (pa_cons pe_int pa_nil))) pe_int (nomark _)) pa_nil))) (pg_tup (by rfl) (pgs_cons (pg_name (i := 4) sc_law_right.nd rfl (Or.inr rfl)) (pgs_cons (pg_name (i := 5) sc_law_right.nd rfl (Or.inl rfl)) pgs_nil))))
 (pss_cons (ps_if (pt_val (pv 5))
 (pss_one (ps_expr (pe_meth (E := fun _ _ _ => False) (pv 4) T_.cl MM_ask MF_ask (hr.mono (by decide)) MB_ask .nil passN (pa_cons (pe_tupZ (pa_cons (pe_ix ix_list (pv 1) pe_int (fun _ _ => rfl)) (pa_cons (pe_ix ix_list (pv 3) pe_int (fun _ _ => rfl)) (pa_cons (pe_ix ix_list (pv 1) pe_int (fun _ _ => rfl)) (pa_cons (pe_ix ix_list (pv 1) pe_int (fun _ _ => rfl)) pa_nil))))) (pa_cons pe_int pa_nil)))))
 pss_nil)
 (pss_cons (ps_par3 (i := 6) (j := 7) (l := 8) (by rfl) sc_law_right.nd rfl rfl rfl (by decide) (by decide) (by decide) rfl rfl rfl (pa_cons (pe_callFg (E := E0) G_law_shown gd (hr.mono (by decide)) (by rfl) pass0 (pa_cons (pv 4) pa_nil)) (pa_cons (pe_callF G_law_odd (hr.mono (by decide)) (by rfl) pass0 (pa_cons (pv 0) pa_nil)) (pa_cons (pe_callF G_law_odd (hr.mono (by decide)) (by rfl) pass0 (pa_cons (pv 0) pa_nil)) pa_nil))) (by rfl))
 (pss_cons (ps_asg (pe_tupZ (pa_cons (pe_callF G_law_odd_item (hr.mono (by decide)) (by rfl) pass0 (pa_cons (pv 0) pa_nil)) (pa_cons (pe_callF G_law_choose (hr.mono (by decide)) (by rfl) pass0 (pa_cons (pv 0) (pa_cons (pe_lst (pa_cons pe_str (pa_cons pe_str (pa_cons pe_str (pa_cons pe_str pa_nil))))) pa_nil))) pa_nil))) (pg_tup (by rfl) (pgs_cons (pg_name (i := 9) sc_law_right.nd rfl (Or.inr rfl)) (pgs_cons (pg_name (i := 10) sc_law_right.nd rfl (Or.inl rfl)) pgs_nil))))
 (pss_cons (ps_par (i := 11) (j := 12) (by rfl) sc_law_right.nd rfl rfl (by decide) rfl rfl (pa_cons (pe_callF G_law_choose (hr.mono (by decide)) (by rfl) pass0 (pa_cons (pv 0) (pa_cons (pe_lst (pa_cons pe_str (pa_cons pe_str (pa_cons pe_str pa_nil)))) pa_nil))) (pa_cons (pe_callF G_law_choose (hr.mono (by decide)) (by rfl) pass0 (pa_cons (pv 0) (pa_cons (pe_lst (pa_cons pe_str (pa_cons pe_str pa_nil))) pa_nil))) pa_nil)) (by rfl))
 (pss_cons (ps_set (i := 13) sc_law_right.nd rfl (.inl rfl) (pe_callF G_law_choose (hr.mono (by decide)) (by rfl) pass0 (pa_cons (pv 0) (pa_cons (pe_lst (pa_cons (pe_un un_neg pe_int) (pa_cons pe_int (pa_cons pe_bl (pa_cons pe_bl (pa_cons pe_non (pa_cons pe_str (pa_cons (pe_lst pa_nil) (pa_cons (pe_tupZ pa_nil) (pa_cons pe_dnewK (pa_cons (pe_op op_pow pe_int pe_int) pa_nil))))))))))) pa_nil))))
 (pss_cons (ps_par (i := 14) (j := 15) (by rfl) sc_law_right.nd rfl rfl (by decide) rfl rfl (pa_cons (pe_lst pa_nil) (pa_cons (pe_lst pa_nil) pa_nil)) (by rfl))
 (pss_cons (ps_for PassesOwn.never rfl (pi_list (pe_lst (pa_cons (pv 7) (pa_cons (pv 11) pa_nil)))) (pg_name (i := 16) sc_law_right.nd rfl (Or.inr rfl))
 (pss_cons (ps_expr (pe_bm PySem.F.plainAttrs_list PySem.F.slot_list_append PySem.F.type_list_append mt_append (pv 15) (pa_cons (pe_lamcallS (k := 10) (T := T) (TT := TTold K W N I R Tk Bz L) (x := "_law_told") (a := "_law_call") (g := gT') (by rfl) gm gk lkR hcR bR sc_law_told (by rfl) (.inl rfl) (told_gives Y G gd (hr.mono (by decide)) XX XT KF) TB cx_code mT uT (hr.mono (by decide)) (lamS_by (sc := defScope s_law_right) (by decide +kernel)) (by rfl) (fun _ _ _ _ _ => by rfl) (fun A' outer' s' H' E' f' c2 r2 => pe_meth (E := E') (pv 4) T_.cl MM_write MF_write r2 MB_write .nil (passes_call (E := E') (takes_of rfl rfl rfl rfl) (fun _ _ _ _ h => h)) (pa_cons (pv 16) pa_nil))) pa_nil)))
 (pss_one (ps_expr (pe_bm PySem.F.plainAttrs_list PySem.F.slot_list_append PySem.F.type_list_append mt_append (pv 14) (pa_cons (pe_callB (show CallR _ (.builtin "repr") (rReprN K) from repr_dn gd hu70) (by rfl) Y.repr (by decide +kernel) (pa_cons (pe_tupZ (pa_cons pe_str (pa_cons (pv 16) pa_nil))) pa_nil)) pa_nil))))))
 (pss_cons (ps_for PassesOwn.never rfl (pi_list (pe_lst (pa_cons (pv 7) (pa_cons (pv 12) pa_nil)))) (pg_name (i := 16) sc_law_right.nd rfl (Or.inr rfl))
 (pss_cons (ps_expr (pe_bm PySem.F.plainAttrs_list PySem.F.slot_list_append PySem.F.type_list_append mt_append (pv 15) (pa_cons (pe_lamcallS (k := 7) (T := T) (TT := TTold K W N I R Tk Bz L) (x := "_law_told") (a := "_law_call") (g := gT') (by rfl) gm gk lkR hcR bR sc_law_told (by rfl) (.inl rfl) (told_gives Y G gd (hr.mono (by decide)) XX XT KF) TB cx_code mT uT (hr.mono (by decide)) (lamS_by (sc := defScope s_law_right) (by decide +kernel)) (by rfl) (fun _ _ _ _ _ => by rfl) (fun A' outer' s' H' E' f' c2 r2 => pe_meth (E := E') (pv 4) T_.cl MM_receive MF_receive r2 MB_receive .nil (passes_call (E := E') (takes_of rfl rfl rfl rfl) (fun _ _ _ _ h => h)) (pa_cons (pv 16) (pa_cons (pv 9) pa_nil)))) pa_nil)))
 (pss_cons (ps_expr (pe_bm PySem.F.plainAttrs_list PySem.F.slot_list_append PySem.F.type_list_append mt_append (pv 15) (pa_cons (pe_lamcallS (k := 3) (T := T) (TT := TTold K W N I R Tk Bz L) (x := "_law_told") (a := "_law_call") (g := gT') (by rfl) gm gk lkR hcR bR sc_law_told (by rfl) (.inl rfl) (told_gives Y G gd (hr.mono (by decide)) XX XT KF) TB cx_code mT uT (hr.mono (by decide)) (lamS_by (sc := defScope s_law_right) (by decide +kernel)) (by rfl) (fun _ _ _ _ _ => by rfl) (fun A' outer' s' H' E' f' c2 r2 => pe_meth (E := E') (pv 4) T_.cl MM_add_link MF_add_link r2 MB_add_link .nil (passes_call (E := E') (takes_of rfl rfl rfl rfl) (fun _ _ _ _ h => h)) (pa_cons (pv 16) pa_nil))) pa_nil)))
 (pss_one (ps_expr (pe_bm PySem.F.plainAttrs_list PySem.F.slot_list_extend PySem.F.type_list_extend mt_extend (pv 14) (pa_cons (pe_op op_rep (pe_lst (pa_cons (pe_callB (show CallR _ (.builtin "repr") (rReprN K) from repr_dn gd hu70) (by rfl) Y.repr (by decide +kernel) (pa_cons (pe_tupZ (pa_cons pe_str (pa_cons (pv 16) pa_nil))) pa_nil)) pa_nil)) pe_int) pa_nil)))))))
 (pss_cons (ps_for PassesOwn.never rfl (pi_list (pe_lst (pa_cons (pe_ix ix_list (pv 3) pe_int (fun _ _ => rfl)) (pa_cons (pe_ix ix_list (pv 1) pe_int (fun _ _ => rfl)) pa_nil)))) (pg_name (i := 16) sc_law_right.nd rfl (Or.inr rfl))
 (pss_cons (ps_expr (pe_bm PySem.F.plainAttrs_list PySem.F.slot_list_append PySem.F.type_list_append mt_append (pv 15) (pa_cons (pe_lamcallS (k := 7) (T := T) (TT := TTold K W N I R Tk Bz L) (x := "_law_told") (a := "_law_call") (g := gT') (by rfl) gm gk lkR hcR bR sc_law_told (by rfl) (.inl rfl) (told_gives Y G gd (hr.mono (by decide)) XX XT KF) TB cx_code mT uT (hr.mono (by decide)) (lamS_by (sc := defScope s_law_right) (by decide +kernel)) (by rfl) (fun _ _ _ _ _ => by rfl) (fun A' outer' s' H' E' f' c2 r2 => pe_meth (E := E') (pv 4) T_.cl MM_receive MF_receive r2 MB_receive .nil (passes_call (E := E') (takes_of rfl rfl rfl rfl) (fun _ _ _ _ h => h)) (pa_cons (pv 16) (pa_cons (pv 9) pa_nil)))) pa_nil)))
 (pss_one (ps_expr (pe_bm PySem.F.plainAttrs_list PySem.F.slot_list_append PySem.F.type_list_append mt_append (pv 14) (pa_cons (pe_callB (show CallR _ (.builtin "repr") (rReprN K) from repr_dn gd hu70) (by rfl) Y.repr (by decide +kernel) (pa_cons (pe_tupZ (pa_cons pe_str (pa_cons (pv 9) pa_nil))) pa_nil)) pa_nil))))))
 (pss_cons (ps_for PassesOwn.never rfl (pi_list (pe_lst (pa_cons (pe_ix ix_list (pv 1) pe_int (fun _ _ => rfl)) (pa_cons (pe_ix ix_list (pv 3) (pe_un un_neg pe_int) (fun _ _ => rfl)) pa_nil)))) (pg_name (i := 16) sc_law_right.nd rfl (Or.inr rfl))
 (pss_cons (ps_expr (pe_bm PySem.F.plainAttrs_list PySem.F.slot_list_append PySem.F.type_list_append mt_append (pv 15) (pa_cons (pe_lamcallS (k := 3) (T := T) (TT := TTold K W N I R Tk Bz L) (x := "_law_told") (a := "_law_call") (g := gT') (by rfl) gm gk lkR hcR bR sc_law_told (by rfl) (.inl rfl) (told_gives Y G gd (hr.mono (by decide)) XX XT KF) TB cx_code mT uT (hr.mono (by decide)) (lamS_by (sc := defScope s_law_right) (by decide +kernel)) (by rfl) (fun _ _ _ _ _ => by rfl) (fun A' outer' s' H' E' f' c2 r2 => pe_meth (E := E') (pv 4) T_.cl MM_add_link MF_add_link r2 MB_add_link .nil (passes_call (E := E') (takes_of rfl rfl rfl rfl) (fun _ _ _ _ h => h)) (pa_cons (pv 16) pa_nil))) pa_nil)))
 (pss_one (ps_expr (pe_bm PySem.F.plainAttrs_list PySem.F.slot_list_append PySem.F.type_list_append mt_append (pv 14) (pa_cons (pe_callB (show CallR _ (.builtin "repr") (rReprN K) from repr_dn gd hu70) (by rfl) Y.repr (by decide +kernel) (pa_cons (pe_tupZ (pa_cons pe_str (pa_cons (pv 16) pa_nil))) pa_nil)) pa_nil))))))
 (pss_cons (ps_set (i := 17) sc_law_right.nd rfl (.inl rfl) (pe_tupZ (pa_cons (pe_ix ix_list (pv 1) pe_int (fun _ _ => rfl)) (pa_cons (pe_ix ix_list (pv 3) pe_int (fun _ _ => rfl)) (pa_cons (pe_ix ix_list (pv 1) pe_int (fun _ _ => rfl)) pa_nil)))))
 (pss_cons (ps_for PassesOwn.never rfl (pi_list (pe_lst (pa_cons (pe_tupZ (pa_cons (pv 7) (pa_cons pe_int pa_nil))) (pa_cons (pe_tupZ (pa_cons (pv 7) (pa_cons (pv 8) pa_nil))) (pa_cons (pe_tupZ (pa_cons (pv 17) (pa_cons (pv 13) pa_nil))) (pa_cons (pe_tupZ (pa_cons (pe_revT (pv 17)) (pa_cons pe_int pa_nil))) pa_nil)))))) (pg_name (i := 18) sc_law_right.nd rfl (Or.inr rfl))
 (pss_cons (ps_expr (pe_bm PySem.F.plainAttrs_list PySem.F.slot_list_append PySem.F.type_list_append mt_append (pv 15) (pa_cons (pe_lamcallS (k := 6) (T := T) (TT := TTold K W N I R Tk Bz L) (x := "_law_told") (a := "_law_call") (g := gT') (by rfl) gm gk lkR hcR bR sc_law_told (by rfl) (.inl rfl) (told_gives Y G gd (hr.mono (by decide)) XX XT KF) TB cx_code mT uT (hr.mono (by decide)) (lamS_by (sc := defScope s_law_right) (by decide +kernel)) (by rfl) (fun _ _ _ _ _ => by rfl) (fun A' outer' s' H' E' f' c2 r2 => pe_meth (E := E') (pv 4) T_.cl MM_ask MF_ask r2 MB_ask .nil (passes_call (E := E') (takes_of rfl rfl rfl rfl) (fun _ _ _ _ h => h)) (pa_cons (pe_ix (show IxR _ (rIxT K) from ix_tup) (pv 18) pe_int (fun _ _ => rfl)) (pa_cons (pe_ix (show IxR _ (rIxT K) from ix_tup) (pv 18) pe_int (fun _ _ => rfl)) pa_nil)))) pa_nil)))
 (pss_one (ps_expr (pe_bm PySem.F.plainAttrs_list PySem.F.slot_list_append PySem.F.type_list_append mt_append (pv 14) (pa_cons (pe_callB (show CallR _ (.builtin "repr") (rReprN K) from repr_dn gd hu70) (by rfl) Y.repr (by decide +kernel) (pa_cons (pe_tupZ (pa_cons pe_str (pa_cons (pv 18) pa_nil))) pa_nil)) pa_nil))))))
 (pss_cons (ps_if (PW.pt (pw_or (pt_val (pv 5)) (pw_or1 (pt_cmpR op_ne (pe_callB call_len_seq (by rfl) Y.len PySem.boot_len (pa_cons (pv 3) pa_nil)) pe_int (nomark _)))))
 (pss_cons (ps_expr (pe_bm PySem.F.plainAttrs_list PySem.F.slot_list_append PySem.F.type_list_append mt_append (pv 15) (pa_cons (pe_lamcallS (k := 4) (T := T) (TT := TTold K W N I R Tk Bz L) (x := "_law_told") (a := "_law_call") (g := gT') (by rfl) gm gk lkR hcR bR sc_law_told (by rfl) (.inl rfl) (told_gives Y G gd (hr.mono (by decide)) XX XT KF) TB cx_code mT uT (hr.mono (by decide)) (lamS_by (sc := defScope s_law_right) (by decide +kernel)) (by rfl) (fun _ _ _ _ _ => by rfl) (fun A' outer' s' H' E' f' c2 r2 => pe_meth0 (E := E') (pv 4) T_.cl MM_leave MF_leave r2 MB_leave .nil (passes_call (E := E') (takes_of rfl rfl rfl rfl) (fun _ _ _ _ h => h)))) pa_nil)))
 (pss_one (ps_expr (pe_bm PySem.F.plainAttrs_list PySem.F.slot_list_append PySem.F.type_list_append mt_append (pv 14) (pa_cons (pe_callB (show CallR _ (.builtin "repr") (rReprN K) from repr_dn gd hu70) (by rfl) Y.repr (by decide +kernel) (pa_cons (pe_tupZ (pa_cons (pe_ifExp (pt_val (pv 5)) pe_str pe_str) (pa_cons (pe_ix ix_list (pv 1) pe_int (fun _ _ => rfl)) pa_nil))) pa_nil)) pa_nil)))))
 pss_nil)
 (pss_cons (ps_if (PW.pt (pw_or (pt_cmpR (op_neD hu64) (pv 15) (pv 14) (nomark _)) (pw_or1 (pt_cmpR op_ne (pe_callFg (E := E0) G_law_shown gd (hr.mono (by decide)) (by rfl) pass0 (pa_cons (pv 4) pa_nil)) (pv 6) (nomark _)))))
 (pss_one (ps_ret pe_bl))
 pss_nil)
 (pss_one (ps_ret (pe_and (pe_callF G_law_valid_right (hr.mono (by decide)) (by rfl) pass0 (pa_cons (pv 4) (pa_cons (pv 3) (pa_cons (pv 10) (pa_cons (pe_ix ix_list (pv 1) (pe_op op_add pe_int (pe_op op_fdiv (pe_callB call_len_seq (by rfl) Y.len PySem.boot_len (pa_cons (pv 3) pa_nil)) pe_int)) (fun _ _ => rfl)) pa_nil))))) (pe_one (pe_cmpR op_ne (pe_callFg (E := E0) G_law_shown gd (hr.mono (by decide)) (by rfl) pass0 (pa_cons (pv 4) pa_nil)) (pv 6) (nomark _)))))))))))))))))))))))), ?_⟩
    refine ⟨Nat.zero_le _, fun lu nlu => ?_⟩
    have nlr := R0.ne nlu
    generalize hg : upd H lu _ = H1
    obtain ⟨s1, g1⟩ := upd_new hg nlu
    clear hg
    have R1 := R0.same s1
    have tb1 := tb.ext s1
    refine ⟨7, rfl, by decide, by decide, ?_⟩
    refine for_it (walk_range (lo := 0) (n := 7)) (fun i σ H' => ∃ (a2 : Option V) (us : List Str), σ = [some (.ref r), some (.ref lu), a2, none, none, none, none, none, none, none, none, none, none, none, none, none, none, none, none] ∧ Fr r H H' ∧ Rng H' r ∧ Tabs T H' ∧ H' lu = some (.lst (us.map V.str)) ∧ us.length = i ∧ us.Nodup ∧ ∀ x ∈ us, Nm x)
      ⟨none, [], rfl, fun b o e _ _ => s1 b o e, R1, tb1, g1, rfl, List.nodup_nil, fun _ z => nomatch z⟩ (fun _ _ _ _ _ => trivial) ?_ ?_
    · rintro i y σ H2 HB hi ⟨a2, us, rfl, fr, R2, t2, h2, l2, nd, nm⟩ ⟨rfl, rfl⟩
      refine ⟨_, rfl, .inl ⟨rfl, _, SqL.of h2⟩, _, rfl, _, rfl, r, lu, us, rfl, R2, nlr, h2, by omega, nm, fun H3 x b3 R3 nx nin => ?_⟩
      have h3 := b3 _ _ nlr h2
      refine ⟨lu, _, _, rfl, rfl, h3, (by rw [List.length_map]; exact small200 (by omega)), ?_⟩
      have em : us.map V.str ++ [.str x] = (us ++ [x]).map V.str := by rw [List.map_append]; rfl
      rw [em]
      refine ⟨_, us ++ [x], rfl, fun b o e n1 n2 => ?_, R3.upd2 nlr, tabs_upd (tabs_but t2 R2 b3) h3 (fun _ z => nomatch z) (fun _ _ z => nomatch z), upd_same, (by rw [List.length_append, l2]; rfl), ?_, fun z hz => ?_⟩
      · rw [upd_ne (ne_of_none e nlu)]
        exact b3 _ _ n1 (fr _ _ e n1 n2)
      · exact nodup_snoc nd nin
      · rcases List.mem_append.mp hz with hz | hz
        · exact nm z hz
        · rw [List.mem_singleton.mp hz]
          exact nx
    rintro σ H2 ⟨a2, us, rfl, fr, R2, t2, hu, l7, nd, nm⟩
    obtain ⟨n0, n1, n2, n3, n4, n5, n6, eu⟩ := seven_of l7
    subst eu
    have hu0 : H lu = none := nlu
    refine ⟨_, rfl, 1, rfl, _, rfl, r, 4, rfl, R2, by decide, by decide, fun H3 e b3 R3 e0 e1 => ?_⟩
    obtain ⟨k, rfl⟩ := Int.eq_ofNat_of_zero_le e0
    have k4 : k < 4 := by omega
    obtain ⟨ns, tl, ecut, ens, nsl, sub4, sub3⟩ := near_of n0 n1 n2 n3 n4 n5 n6 k4
    have hu3 := b3 _ _ nlr hu
    refine ⟨_, _, rfl, rfl, _, rfl, lu, _, rfl, SqL.of hu3, fun ln nln => ?_⟩
    rw [ecut]
    have nln_r := R3.ne nln
    generalize hg : upd H3 ln _ = H4
    obtain ⟨s4, g4⟩ := upd_new hg nln
    clear hg ecut
    have R4 := R3.same s4
    have t4 := (tabs_but t2 R2 b3).ext s4
    have fr4 : Fr r H H4 := fun b o eb m1 m2 => s4 _ _ (b3 _ _ m1 (fr _ _ eb m1 m2))
    have hu4 := s4 _ _ hu3
    clear s4 b3 R3 R2 t2 fr hu hu3 R1 tb1 e0 e1
    refine ⟨_, rfl, lu, _, 0, .str n0, rfl, rfl, SqL.of hu4, (show atI ([n0, n1, n2, n3, n4, n5, n6].map V.str) ((0 : Nat) : Int) = some (V.str n0) from atI_nat rfl), ?_⟩
    refine ⟨_, rfl, (by show 2 ≤ sizeLine; decide), fun t5 o5 nt5 s5 z5 => ?_⟩
    generalize upd H4 t5 o5 = H5 at s5 z5 ⊢
    refine ⟨(by show 1 ≤ sizeLine; decide), fun lg nlg => ?_⟩
    generalize hg : upd H5 lg _ = H6
    obtain ⟨s6, g6⟩ := upd_new hg nlg
    clear hg
    have s46 := s5.trans s6
    have z6 := z5.same s6
    refine ⟨rfl, rfl, fun p dx np ndx nex => ?_⟩
    have s7 : Same H6 (upd (upd H6 dx (.own p)) p (.ins C dx [])) := same_upd2 (same_upd ndx) np
    have g7 : (upd (upd H6 dx (.own p)) p (.ins C dx [])) p = some (.ins C dx []) := upd_same
    generalize upd (upd H6 dx (.own p)) p (.ins C dx []) = H7 at s7 g7 ⊢
    have nml : ∀ x ∈ ns, x ∈ [n0, n1, n2, n3, n4, n5, n6] := fun x hx => List.mem_cons_of_mem _ (by
      have := sub4.subset hx
      simp only [List.mem_cons, List.not_mem_nil, or_false] at this ⊢
      rcases this with h | h | h | h <;> simp only [h, true_or, or_true])
    refine ⟨p, ln, lg, dx, n0, ns, _, [logD "a" "x"], rfl, g7, .inl (SqL.of ((s46.trans s7) _ _ g4)), by omega, SqL.of (s7 _ _ g6), .cons (.tup (Tz.fz (z6.same s7)) (.cons (.str _) (.cons (.str _) .nil))) .nil, fun H8 ad ys off fk hx srt nd8 mem nk nl nq na => ⟨rfl, ?_⟩⟩
    -- the frame behind the host
    have R7 : Rng H7 r := R4.same (s46.trans s7)
    have R8 : Rng H8 r := by
      obtain ⟨x, y, e, h2⟩ := R7
      exact ⟨x, y, off _ _ e (ne_of e g7 (fun z => nomatch z)), h2⟩
    have e78 : ∀ b o, H4 b = some o → H8 b = some o := fun b o e => off _ _ ((s46.trans s7) _ _ e) (ne_of_none (s46 _ _ e) np)
    have s48 : Same H4 H8 := e78
    have t8 := t4.ext s48
    have fr6 : Fr r H H6 := fun b o eb m1 m2 => s46 _ _ (fr4 _ _ eb m1 m2)
    have fr7 : Fr r H H7 := fun b o eb m1 m2 => s7 _ _ (fr6 _ _ eb m1 m2)
    have fr8 : Fr r H H8 := fun b o eb m1 m2 => s48 _ _ (fr4 _ _ eb m1 m2)
    have hu8 := s48 _ _ hu4
    have hl8 := s48 _ _ g4
    have pln : p ≠ ln := fun z => by rw [z, s46 _ _ g4] at np; cases np
    have plu : p ≠ lu := fun z => by rw [z, s46 _ _ hu4] at np; cases np
    have pr : p ≠ r := (R4.same s46).ne np
    clear fr4 t4 hu4 g4 s46 z6 z5 s5 s6 s7 off fk
    refine ⟨_, rfl, r, 2, rfl, R8, by decide, by decide, fun H9 e9 b9 R9 e0 e1 => ?_⟩
    refine ⟨rfl, (by show 2 ≤ sizeLine; decide), fun t10 o10 n10 s10 z10 => ?_⟩
    have lkr : ad.Lk ≠ r := R7.ne nk
    have llr : ad.Ll ≠ r := R7.ne nl
    have lqr : ad.Lq ≠ r := R7.ne nq
    have lar : ad.La ≠ r := R7.ne na
    have D8 : Dw T K C H H8 r lu ln p [n0, n1, n2, n3, n4, n5, n6] ns _ ad := ⟨R8, t8, fr8, (wo_at nlr).trans hu8, (wo_at nln_r).trans hl8, hst_wo hx R8 pr lkr llr lqr lar, Nw.of fr6 pr np, Nw.of fr7 llr nl, ⟨pr, lkr, llr, lqr, lar⟩⟩
    have D10 := (D8.but b9 R9).same s10
    generalize upd H9 t10 o10 = H10 at s10 z10 D10 ⊢
    clear D8 R8 t8 fr8 hu8 hl8 hx b9 R9 s48 e78
    have nds : ns.Nodup := sub4.nodup (by
      refine List.Nodup.sublist ?_ nd
      exact .cons _ (.cons_cons _ (.cons_cons _ (.cons_cons _ (.cons_cons _ (.cons _ (.cons _ .slnil)))))))
    have pys : ys.Perm ns := (List.perm_ext_iff_of_nodup nd8 nds).mpr mem
    have yl : ys.length = k + 1 := pys.length_eq.trans nsl
    refine ⟨t10, _, rfl, z10.sq, rfl, _, _, rfl, _, _, rfl, rfl, ?_⟩
    generalize hbz : decide (V.int e9 = V.int 1) = bz
    dsimp only
    have rl : isRel (reld [n0, n1, n5, n6] 1) = true := rel_of (fun x hx => nm x (by
      simp only [List.mem_cons, List.not_mem_nil, or_false] at hx ⊢
      rcases hx with h | h | h | h <;> simp only [h, true_or, or_true])) (by
      refine List.Nodup.sublist ?_ nd
      exact .cons_cons _ (.cons_cons _ (.cons _ (.cons _ (.cons _ (.cons_cons _ (.cons_cons _ .slnil))))))) (by show 3 ≤ 4; decide) (by show 1 + 2 ≤ 4; decide)
    have at7 : ∀ {i : Nat} {x : Str}, [n0, n1, n2, n3, n4, n5, n6][i]? = some x → atI ([n0, n1, n2, n3, n4, n5, n6].map V.str) (i : Int) = some (V.str x) := fun e => atI_nat (by rw [List.getElem?_map, e]; rfl)
    have near0 : atI (ns.map V.str) ((0 : Nat) : Int) = some (V.str n1) := by rw [ens]; exact atI_nat rfl
    refine seq_by (fun H' => ∃ st ad', Dw T K C H H' r lu ln p [n0, n1, n2, n3, n4, n5, n6] ns st ad' ∧ st.nm = n0 ∧ st.lk = ys ∧ st.lg = [logD "a" "x"] ∧ st.qu = [] ∧ st.an = [] ∧ (bz = false → st.sg = "free" ∧ st.jn = none) ∧ (bz = true → st.sg = "reserved" ∧ st.jn = some ([n0, n1, n5, n6], 1))) (fun H11 hS => ?_) (fun Rr hR => ?_)
    rotate_left
    · refine ⟨_, rfl, bz, rfl, ite2 (fun c => ?_) (fun c => hR _ ⟨_, _, D10, rfl, rfl, rfl, rfl, rfl, fun _ => ⟨rfl, rfl⟩, fun z => absurd z c⟩)⟩
      have x10 := D10.hst
      refine ⟨_, rfl, p, ad.dx, _, rfl, x10.at_, (by rfl), ?_⟩
      refine ⟨_, rfl, lu, _, 0, .str n0, rfl, rfl, SqL.of D10.ulu, at7 (i := 0) rfl, _, rfl, ln, _, 0, .str n1, rfl, rfl, SqL.of D10.uln, near0, _, rfl, lu, _, 5, .str n5, rfl, rfl, SqL.of D10.ulu, at7 (i := 5) rfl, _, rfl, lu, _, 6, .str n6, rfl, rfl, SqL.of D10.ulu, at7 (i := 6) rfl, ?_⟩
      refine ⟨(by show 4 ≤ sizeLine; decide), fun t11 o11 n11 s11 z11 => ?_⟩
      have D11 := D10.same s11
      have hn11 : H10 p ≠ none := fun z => by rw [x10.at_] at z; cases z
      generalize upd H10 t11 o11 = H11 at s11 z11 D11 ⊢
      refine ⟨p, .ref t11, .int ((1 : Nat) : Int), .tuple [.str n0, .str n1, .str n5, .str n6], .int ((1 : Nat) : Int), _, ad, rfl, .tup z11 (.cons (.str _) (.cons (.str _) (.cons (.str _) (.cons (.str _) .nil)))), .int _, ?_, D11.hst, ?_, ?_, ?_⟩
      · exact (Bd.tup (n := 2) (W := 1000) (L := 2) (fun e he => by
          simp only [List.mem_cons, List.not_mem_nil, or_false] at he
          rcases he with rfl | rfl
          · exact (Bd.tup (n := 1) (W := 120) (L := 4) (fun e he => by
              simp only [List.mem_cons, List.not_mem_nil, or_false] at he
              rcases he with rfl | rfl | rfl | rfl <;> exact a0_nm (nm _ (by simp only [List.mem_cons, List.not_mem_nil, or_false, true_or, or_true]))) (by show 4 ≤ 4; decide) (by decide)).mono (by decide) (by decide)
          · exact (a0_nat (n := 1) (by decide)).mono (by decide) (by decide)) (by show 2 ≤ 2; decide) (by decide)).sm
      · show ys.length ≤ 60
        omega
      · refine fun h => h.elim (fun z => absurd (z.symm.trans rl) (by decide)) fun ⟨xs, cc, e, hd⟩ => ?_
        obtain ⟨rfl, rfl⟩ := reld_inj (xs := [n0, n1, n5, n6]) (c := 1) e
        exact absurd rfl hd
      · intro xs cc e _ _
        obtain ⟨rfl, rfl⟩ := reld_inj (xs := [n0, n1, n5, n6]) (c := 1) e
        refine ⟨fun z => absurd rfl z, fun _ x1 ex1 => ?_⟩
        obtain rfl : n1 = x1 := by injection ex1
        have m1 : n1 ∈ ys := (mem n1).mpr (by rw [ens]; exact List.mem_cons_self)
        exact ⟨fun z => absurd m1 z, fun _ H12 jv LL tt uu off fk hx12 _ _ _ _ => hR _ ⟨_, _, D11.off off hx12 D11.gn ⟨D11.ne.n0, D11.ne.n1, D11.ne.n2, D11.ne.n3, D11.ne.n4⟩, rfl, rfl, rfl, rfl, rfl, fun z => absurd (c.symm.trans z) (by decide), fun _ => ⟨rfl, rfl⟩⟩⟩
    obtain ⟨st, ad1, D11, enm, elk, elg, equ, ean, fb, tbz⟩ := hS
    clear D10
    have nmi : ∀ {x : Str}, x ∈ [n0, n1, n2, n3, n4, n5, n6] → Nm x := fun h => nm _ h
    have m0 : Nm n0 := nm _ (by simp only [List.mem_cons, true_or, or_true])
    have m1 : Nm n1 := nm _ (by simp only [List.mem_cons, true_or, or_true])
    have m4 : Nm n4 := nm _ (by simp only [List.mem_cons, true_or, or_true])
    have m3 : Nm n3 := nm _ (by simp only [List.mem_cons, true_or, or_true])
    have m5 : Nm n5 := nm _ (by simp only [List.mem_cons, true_or, or_true])
    have m6 : Nm n6 := nm _ (by simp only [List.mem_cons, true_or, or_true])
    have nmy : ∀ x ∈ ys, Nm x := fun x hx => nm _ (nml x ((mem x).mp hx))
    have jnf : ∀ xs c, st.jn = some (xs, c) → xs = [n0, n1, n5, n6] ∧ c = 1 := fun xs c e => by
      cases bz with
      | false => rw [(fb rfl).2] at e; cases e
      | true =>
        rw [(tbz rfl).2] at e
        injection e with e
        injection e with e1 e2
        exact ⟨e1.symm, e2.symm⟩
    have sg2 : st.sg = "free" ∨ st.sg = "reserved" := by
      cases bz with
      | false => exact .inl (fb rfl).1
      | true => exact .inr (tbz rfl).1
    have lgb : Bd 5 1000 (logD "a" "x") := okB.bd (by decide +kernel)
    have jnw : ∀ xs c, st.jn = some (xs, c) → (∀ x ∈ xs, Nm x) ∧ xs.length ≤ 14 ∧ c ≤ 100 := fun xs c e => by
      obtain ⟨rfl, rfl⟩ := jnf xs c e
      refine ⟨fun x hx => ?_, (by show 4 ≤ 14; decide), by decide⟩
      simp only [List.mem_cons, List.not_mem_nil, or_false] at hx
      rcases hx with rfl | rfl | rfl | rfl
      · exact m0
      · exact m1
      · exact m5
      · exact m6
    have jok : JnOk st := fun xs c e => by
      obtain ⟨rfl, rfl⟩ := jnf xs c e
      refine ⟨rl, sml_reld (jnw _ _ e).1 (by show 4 ≤ 14; decide) (by show 1 + 2 ≤ 4; decide), _, if_pos ?_⟩
      rw [enm]
      exact List.mem_cons_self
    have sft : Fits (shownD st) := st_fits (by rw [enm]; exact m0) (by rw [elk]; exact nmy) (by rw [elk]; omega) (by rw [elg]; intro d hd; rw [List.mem_singleton.mp hd]; exact lgb) (by rw [elg]; show 1 ≤ 14; decide) equ ean sg2 jnw
    refine ⟨_, rfl, p, st, ad1, rfl, D11.hst, sft, fun H12 s12 => ?_⟩
    have D12 := D11.same s12
    refine ⟨_, rfl, r, rfl, D12.R, fun H13 v1 d1 b13 R13 q1 o1 => ?_⟩
    have D13 := D12.but b13 R13
    refine ⟨_, rfl, r, rfl, R13, fun H14 v2 d2 b14 R14 q2 o2 => ?_⟩
    have D14 := D13.but b14 R14
    replace q1 := q1.but b14
    refine ⟨_, _, _, rfl, ?_⟩
    dsimp only
    refine ⟨_, rfl, r, rfl, R14, fun H15 v3 d3 b15 R15 q3 o3 => ?_⟩
    have D15 := D14.but b15 R15
    replace q1 := q1.but b15
    replace q2 := q2.but b15
    clear D11 D12 D13 D14 R13 R14 b13 b14 b15 s12
    refine ⟨_, rfl, (by show 4 ≤ sizeLine; decide), fun l16 n16 => ?_⟩
    have ne16 := R15.ne n16
    generalize hg : upd _ l16 _ = H16
    obtain ⟨s16, g16⟩ := upd_new hg n16
    clear hg
    refine ⟨r, l16, _, rfl, R15.same s16, ne16, g16, (by show 0 < 4; decide), (by show 4 ≤ 1000; decide), fun H17 u17 b17 R17 mu17 => ?_⟩
    obtain ⟨ww, rfl, ww1, ww2⟩ := word_of mu17
    have D17 := (D15.same s16).but b17 R17
    replace q1 := (q1.same s16).but b17
    replace q2 := (q2.same s16).but b17
    replace q3 := (q3.same s16).but b17
    clear D15 R15 b17 s16 g16 n16 ne16 mu17
    refine ⟨(by show 2 ≤ sizeLine; decide), fun t18 o18 n18 s18 z18 => ?_⟩
    replace q1 := q1.same s18
    replace q2 := q2.same s18
    replace q3 := q3.same s18
    have D18 := D17.same s18
    generalize upd H17 t18 o18 = H18 at s18 z18 D18 q1 q2 q3 ⊢
    refine ⟨t18, _, rfl, z18.sq, rfl, _, _, rfl, _, _, rfl, rfl, ?_⟩
    clear D17 s18 z18
    dsimp only
    refine ⟨_, rfl, (by show 3 ≤ sizeLine; decide), fun l19 n19 => ?_⟩
    have ne19 := D18.R.ne n19
    generalize hg : upd _ l19 _ = H19
    obtain ⟨s19, g19⟩ := upd_new hg n19
    clear hg
    refine ⟨r, l19, _, rfl, D18.R.same s19, ne19, g19, (by show 0 < 3; decide), (by show 3 ≤ 1000; decide), fun H20 u20 b20 R20 mu20 => ?_⟩
    obtain ⟨lw, rfl, lw1, lw2, lw3⟩ := lword_of mu20
    have D20 := (D18.same s19).but b20 R20
    replace q1 := (q1.same s19).but b20
    replace q2 := (q2.same s19).but b20
    replace q3 := (q3.same s19).but b20
    clear D18 b20 s19 g19 n19 ne19 mu20
    refine ⟨_, rfl, (by show 2 ≤ sizeLine; decide), fun l21 n21 => ?_⟩
    have ne21 := D20.R.ne n21
    generalize hg : upd _ l21 _ = H21
    obtain ⟨s21, g21⟩ := upd_new hg n21
    clear hg
    refine ⟨r, l21, _, rfl, D20.R.same s21, ne21, g21, (by show 0 < 2; decide), (by show 2 ≤ 1000; decide), fun H22 u22 b22 R22 mu22 => ?_⟩
    obtain ⟨nn, rfl, nn1, nn2, nn3⟩ := lname_of mu22
    have D22 := (D20.same s21).but b22 R22
    replace q1 := (q1.same s21).but b22
    replace q2 := (q2.same s21).but b22
    replace q3 := (q3.same s21).but b22
    clear D20 b22 s21 g21 n21 ne21 mu22
    refine ⟨_, _, rfl, ?_⟩
    dsimp only
    have R := D22.R
    have b0 : But r H22 H22 := But.of (Same.refl _)
    have D : Dbs K r H22 [] [] := .nil
    refine ⟨_, rfl, _, rfl, ?_⟩
    have D := D.app (.cons (.int (-1)) .nil)
    have D := D.app (.cons (.int 2) .nil)
    have D := D.app (.cons (.bl true) .nil)
    have D := D.app (.cons (.bl false) .nil)
    have D := D.app (.cons (.non) .nil)
    have D := D.app (.cons (.str "0") .nil)
    refine ⟨(by show 0 ≤ sizeLine; decide), fun l1 k1 => ?_⟩
    have ne1 := R.ne k1
    generalize hg : upd _ l1 _ = G1
    obtain ⟨s1, g1⟩ := upd_new hg k1
    clear hg
    have D := D.same s1
    have R := R.same s1
    have b0 := b0.trans (But.of s1)
    have D := D.app (.cons (.lst ne1 g1 (.nil)) .nil)
    refine ⟨(by show 0 ≤ sizeLine; decide), fun t2 o2' k2 s2 z2 => ?_⟩
    have D := D.same s2
    have R := R.same s2
    have b0 := b0.trans (But.of s2)
    generalize upd _ t2 o2' = G2 at D R b0 z2 s2 ⊢
    have D := D.app (.cons (.tup R z2 (.nil)) .nil)
    refine fun l3 k3 => ?_
    have ne3 := R.ne k3
    generalize hg : upd _ l3 _ = G3
    obtain ⟨s3, g3⟩ := upd_new hg k3
    clear hg
    have D := D.same s3
    have R := R.same s3
    have b0 := b0.trans (But.of s3)
    have D := D.app (.cons (.dic ne3 g3) .nil)
    refine ⟨10, 20, rfl, rfl, ⟨by decide, by decide, by decide⟩, ?_⟩
    have D := D.app (.cons (.int (10 ^ 20)) .nil)
    refine ⟨(by show 10 ≤ sizeLine; decide), fun l7 k7 => ?_⟩
    have ne7 := R.ne k7
    generalize hg : upd _ l7 _ = G7
    obtain ⟨s7, g7⟩ := upd_new hg k7
    clear hg
    have D := D.same s7
    have R := R.same s7
    have b0 := b0.trans (But.of s7)
    simp only [List.cons_append, List.nil_append] at D
    refine ⟨r, l7, _, rfl, R, ne7, g7, (by show 0 < 10; decide), (by show 10 ≤ 1000; decide), fun H23 v4 b23 R23 mu23 => ?_⟩
    obtain ⟨d4, o4, q4⟩ : ∃ d, d ∈ cutD ∧ Db K r H23 v4 d := (D.but b23).mem mu23
    have b0 := b0.trans b23
    have D23 := D22.but b0 R23
    replace q1 := q1.but b0
    replace q2 := q2.but b0
    replace q3 := q3.but b0
    clear D D22 R b0 b23 s7 g7 ne7 k7 s3 g3 ne3 k3 s2 z2 k2 s1 g1 ne1 k1 mu23
    have pn : Nw H p := D23.pn
    have gn : Nw H ad1.Ll := D23.gn
    have n60 : n6 ≠ n0 := fun z => by
      rw [List.nodup_cons] at nd
      exact nd.1 (by rw [← z]; simp only [List.mem_cons, true_or, or_true])
    have i3n : isItem d3 = false := o3.elim (item_no d3) (odd_item d3)
    have i3b : Bd 3 900 d3 := o3.elim (item_bd d3) (fun h => (odd_bd d3 h).mono (by decide) (by decide))
    have i3o : oks d3 = true := o3.elim (item_oks d3) (odd_oks d3)
    generalize hsh : (shownD st).shown = sh0
    dsimp only [gName]
    refine ⟨(by show 0 ≤ sizeLine; decide), fun Ld nLd => ⟨(by show 0 ≤ sizeLine; decide), fun Lt nLt => ⟨_, _, rfl, ?_⟩⟩⟩
    obtain ⟨rw0, ext0⟩ := Rw.start D23.tb nLd nLt
    have fb0 := Fb.of D23 ext0 q1 q2 q3 q4
    generalize upd (upd H23 Ld (.lst [])) Lt (.lst []) = H24 at rw0 ⊢
    generalize noT H23 Ld Lt = B0 at rw0 fb0
    clear D23 q1 q2 q3 q4 ext0 nLd nLt
    dsimp only
    -- the words
    refine ⟨_, rfl, _, rfl, (by show 2 ≤ sizeLine; decide), fun L25 n25 => ?_⟩
    have nLd25 : L25 ≠ Ld := fun z => by rw [z, rw0.hd] at n25; cases n25
    have nLt25 : L25 ≠ Lt := fun z => by rw [z, rw0.ht] at n25; cases n25
    generalize hg : upd H24 L25 _ = H25
    obtain ⟨s25, g25⟩ := upd_new hg n25
    clear hg
    have rw1 := (rw0.same s25)
    obtain ⟨rw1, sB1⟩ := rw1.reset
    have hL1 := rw1.sB
    have hL1 := (rw0.same s25).lst g25 nLd25 nLt25
    have fb1 := fb0.same sB1
    generalize noT H25 Ld Lt = B1 at rw1 hL1 fb1
    clear s25 g25 n25 nLd25 nLt25 sB1 fb0 rw0
    refine ⟨L25, rfl, ⟨_, SqL.of (rw1.sB _ _ hL1)⟩, ?_⟩
    refine for_it (walk_list (K := K) (a := L25) (xs := [v1, .str lw])) (fun i σ H' => ∃ (a16 : Option V) (ss : List Str), σ = [some (.ref r), some (.ref lu), a2, some (.ref ln), some (.ref p), some (.bl bz), some (.str sh0), some v1, some v2, some v3, some (.str ww), some (.str lw), some (.str nn), some v4, some (.ref Ld), some (.ref Lt), a16, none, none] ∧ Rw T B1 H' Ld Lt ss ss ∧ ss.length ≤ i ∧ ∀ x ∈ ss, PyData.strOk x = true)
      ⟨none, [], rfl, rw1, Nat.le_refl _, fun _ z => nomatch z⟩ (fun i σ H' _ hP => ?_) ?_ ?_
    · obtain ⟨_, _, _, x, _⟩ := hP
      exact SqL.of (x.sB _ _ hL1)
    · rintro i y σ H1 H2 hi ⟨a16, ss, rfl, x1, ls, so⟩ ⟨rfl, ey⟩
      have i2 : i < 2 := hi
      obtain ⟨dv, dy, nw, ok, bd⟩ : ∃ dv, Dn K B1 y dv ∧ isWord dv = false ∧ oks dv = true ∧ Bd 2 200 dv := two_at (P := fun y => ∃ dv, Dn K B1 y dv ∧ isWord dv = false ∧ oks dv = true ∧ Bd 2 200 dv) ey ⟨d1, fb1.q1, odd_word _ o1, odd_oks _ o1, odd_bd _ o1⟩ ⟨.str lw, .str _, lw1, lw3, lw2.mono (by decide) (by decide)⟩
      have ft : Fits (.tuple [.str (kn 0), dv]) := told_fits bd (by decide) (by decide)
      have sx : PyData.strOk (PyData.shown (.tuple [.str (kn 0), dv])) = true := told_so ok
      refine ⟨_, rfl, .inl ⟨rfl, _, SqL.of x1.ht⟩, x1.tb, fun H3 e3 t3 => fun H4 Ech Q' s4 he => ?_⟩
      have x4 := (x1.extT e3 t3).same s4
      have f4 := fb1.same x4.sB
      refine ⟨_, rfl, p, ad1.dx, _, rfl, f4.hx.at_, (by rfl), _, rfl, p, y, st, ad1, rfl, kd_dn (dy.same x4.sB) bd.sm, f4.hx, (by rw [elk]; omega), (by rw [elk]; exact srt), (by rw [elg]; show 1 ≤ 1000; decide), jok, (by rw [enm]; exact m0), (fun _ => ?_), fun _ _ tx => absurd tx ?_⟩
      rotate_left
      · rw [txt_w (dy.same x4.sB), nw]
        decide
      refine ro_told he (m := 0) rfl rfl (dy.same x4.sB) ft fun H5 s5 => ?_
      have x5 := x4.same s5
      refine ⟨Lt, _, _, rfl, rfl, x5.ht, (by rw [List.length_map]; exact small200 (by omega)), ?_⟩
      have x6 := x5.told (ss ++ [PyData.shown (.tuple [.str (kn 0), dv])])
      rw [em_snoc]
      generalize upd H5 Lt _ = H6 at x6 ⊢
      refine ⟨_, rfl, .inl ⟨rfl, _, SqL.of x6.hd⟩, _, rfl, ?_⟩
      refine ⟨(by show 2 ≤ sizeLine; decide), fun t7 o7 n7 s7 z7 => ?_⟩
      have x7 := x6.same s7
      generalize upd H6 t7 o7 = H7' at x7 z7 ⊢
      refine ⟨_, _, rfl, .tup z7 (.cons (.str _) (.cons (dy.same x7.sB) .nil)), ft.1, ft.2.1, ft.2.2, ?_⟩
      refine ⟨Ld, _, _, rfl, rfl, x7.hd, (by rw [List.length_map]; exact small200 (by omega)), ?_⟩
      rw [em_snoc]
      exact ⟨_, _, rfl, x7.due _, len_snoc ls, so_snoc so sx⟩
    rintro σ H26 ⟨a16, ss1, rfl, x26, ls1, so1⟩
    clear hL1
    dsimp only
    refine ⟨_, rfl, _, rfl, (by show 2 ≤ sizeLine; decide), fun L27 n27 => ?_⟩
    have nLd27 : L27 ≠ Ld := fun z => by rw [z, x26.hd] at n27; cases n27
    have nLt27 : L27 ≠ Lt := fun z => by rw [z, x26.ht] at n27; cases n27
    generalize hg : upd H26 L27 _ = H27
    obtain ⟨s27, g27⟩ := upd_new hg n27
    clear hg
    have rwn := x26.same s27
    obtain ⟨rwn, sBn⟩ := rwn.reset
    have hLn := (x26.same s27).lst g27 nLd27 nLt27
    have fb2 := fb1.same sBn
    generalize noT H27 Ld Lt = B2 at rwn hLn fb2
    clear s27 g27 n27 nLd27 nLt27 sBn fb1 x26
    refine ⟨L27, rfl, ⟨_, SqL.of (rwn.sB _ _ hLn)⟩, ?_⟩
    refine for_it (walk_list (K := K) (a := L27) (xs := [v1, .str nn])) (fun i σ H' => ∃ (a16 : Option V) (ss : List Str), σ = [some (.ref r), some (.ref lu), a2, some (.ref ln), some (.ref p), some (.bl bz), some (.str sh0), some v1, some v2, some v3, some (.str ww), some (.str lw), some (.str nn), some v4, some (.ref Ld), some (.ref Lt), a16, none, none] ∧ Rw T B2 H' Ld Lt ss ss ∧ ss.length ≤ 2 + 2 * i ∧ ∀ x ∈ ss, PyData.strOk x = true)
      ⟨a16, ss1, rfl, rwn, (by omega), so1⟩ (fun i σ H' _ hP => ?_) ?_ ?_
    · obtain ⟨_, _, _, x, _⟩ := hP
      exact SqL.of (x.sB _ _ hLn)
    · rintro i y σ H1 H2 hi ⟨a16, ss, rfl, x1, ls, so⟩ ⟨rfl, ey⟩
      have i2 : i < 2 := hi
      obtain ⟨dv, dy, nw, ok, bd⟩ : ∃ dv, Dn K B2 y dv ∧ isHost dv = false ∧ oks dv = true ∧ Bd 2 200 dv := two_at (P := fun y => ∃ dv, Dn K B2 y dv ∧ isHost dv = false ∧ oks dv = true ∧ Bd 2 200 dv) ey ⟨d1, fb2.q1, odd_host _ o1, odd_oks _ o1, odd_bd _ o1⟩ ⟨.str nn, .str _, nn1, nn3, nn2.mono (by decide) (by decide)⟩
      have ft : Fits (.tuple [.str (kn 1), dv]) := told_fits bd (by decide) (by decide)
      have sx : PyData.strOk (PyData.shown (.tuple [.str (kn 1), dv])) = true := told_so ok
      refine ⟨_, rfl, .inl ⟨rfl, _, SqL.of x1.ht⟩, x1.tb, fun H3 e3 t3 => fun H4 Ech Q' s4 he => ?_⟩
      have x4 := (x1.extT e3 t3).same s4
      have f4 := fb2.same x4.sB
      refine ⟨_, rfl, p, ad1.dx, _, rfl, f4.hx.at_, (by rfl), _, rfl, _, rfl, p, y, v3, d3, st, ad1, rfl, kd_dn (dy.same x4.sB) bd.sm, f4.q3, i3b.sm, f4.hx, .inl ⟨(txt_h (dy.same x4.sB)).trans nw, ?_⟩⟩
      refine ro_told he (m := 1) rfl rfl (dy.same x4.sB) ft fun H5 s5 => ?_
      have x5 := x4.same s5
      refine ⟨Lt, _, _, rfl, rfl, x5.ht, (by rw [List.length_map]; exact small200 (by omega)), ?_⟩
      have x6 := x5.told (ss ++ [PyData.shown (.tuple [.str (kn 1), dv])])
      rw [em_snoc]
      generalize upd H5 Lt _ = H6 at x6 ⊢
      clear x4 x5 f4 he s4 s5 e3 t3 x1
      refine ⟨_, rfl, .inl ⟨rfl, _, SqL.of x6.ht⟩, x6.tb, fun H3 e3 t3 => fun H4 Ech Q' s4 he => ?_⟩
      have x4 := (x6.extT e3 t3).same s4
      have f4 := fb2.same x4.sB
      refine ⟨_, rfl, p, ad1.dx, _, rfl, f4.hx.at_, (by rfl), _, rfl, p, y, st, ad1, rfl, kd_dn (dy.same x4.sB) bd.sm, f4.hx, (by rw [elk]; omega), (fun _ => ?_), fun o eo no => absurd (nm_txt no) ?_⟩
      rotate_left
      · rw [← eo, txt_h (dy.same x4.sB), nw]
        decide
      refine ro_told he (m := 1) rfl rfl (dy.same x4.sB) ft fun H5 s5 => ?_
      have x5 := x4.same s5
      refine ⟨Lt, _, _, rfl, rfl, x5.ht, (by rw [List.length_map]; exact small200 (by rw [List.length_append]; show ss.length + 1 ≤ _; omega)), ?_⟩
      have x7 := x5.told (ss ++ [PyData.shown (.tuple [.str (kn 1), dv])] ++ [PyData.shown (.tuple [.str (kn 1), dv])])
      rw [em_snoc]
      generalize upd H5 Lt _ = H7' at x7 ⊢
      clear x4 x5 f4 he s4 s5 e3 t3 x6
      refine ⟨_, rfl, .inl ⟨rfl, _, SqL.of x7.hd⟩, _, rfl, (by show 2 ≤ sizeLine; decide), fun t8 o8 n8 s8 z8 => ?_⟩
      have x8 := x7.same s8
      generalize upd H7' t8 o8 = H8' at x8 z8 ⊢
      refine ⟨_, _, rfl, .tup z8 (.cons (.str _) (.cons (dy.same x8.sB) .nil)), ft.1, ft.2.1, ft.2.2, ?_⟩
      refine ⟨(by show 1 ≤ sizeLine; decide), fun l9 n9 => ?_⟩
      generalize hg : upd H8' l9 _ = H9'
      obtain ⟨s9, g9⟩ := upd_new hg n9
      clear hg
      have x9 := x8.same s9
      refine ⟨l9, 2, _, rfl, rfl, g9, by decide, by decide, (by show 1 * 2 ≤ sizeLine; decide), fun l10 n10 => ?_⟩
      generalize hg : upd H9' l10 _ = H10'
      obtain ⟨s10, g10⟩ := upd_new hg n10
      clear hg
      have x10 := x9.same s10
      refine ⟨Ld, l10, _, _, rfl, rfl, x10.hd, g10, small_ext (by omega), ?_⟩
      rw [show ss.map V.str ++ (List.replicate (Int.toNat 2) [V.str (PyData.shown (.tuple [.str "name", dv]))]).flatten = (ss ++ [PyData.shown (.tuple [.str (kn 1), dv])] ++ [PyData.shown (.tuple [.str (kn 1), dv])]).map V.str from by
        rw [List.map_append, List.map_append, List.append_assoc]
        rfl]
      exact ⟨_, _, rfl, x10.due _, (by rw [List.length_append, List.length_append]; show ss.length + 1 + 1 ≤ _; omega), so_snoc (so_snoc so sx) sx⟩
    rintro σ H28 ⟨a16, ss2, rfl, x28, ls2, so2⟩
    clear hLn
    dsimp only
    refine ⟨_, rfl, ln, _, 0, .str n1, rfl, rfl, SqL.of (x28.sB _ _ fb2.hl), near0, _, rfl, lu, _, 6, .str n6, rfl, rfl, SqL.of (x28.sB _ _ fb2.hu), at7 (i := 6) rfl, (by show 2 ≤ sizeLine; decide), fun L29 n29 => ?_⟩
    have nLd29 : L29 ≠ Ld := fun z => by rw [z, x28.hd] at n29; cases n29
    have nLt29 : L29 ≠ Lt := fun z => by rw [z, x28.ht] at n29; cases n29
    generalize hg : upd H28 L29 _ = H29
    obtain ⟨s29, g29⟩ := upd_new hg n29
    clear hg
    have rwn := x28.same s29
    obtain ⟨rwn, sBn⟩ := rwn.reset
    have hLn := (x28.same s29).lst g29 nLd29 nLt29
    have fb3 := fb2.same sBn
    generalize noT H29 Ld Lt = B3 at rwn hLn fb3
    clear s29 g29 n29 nLd29 nLt29 sBn fb2 x28
    refine ⟨L29, rfl, ⟨_, SqL.of (rwn.sB _ _ hLn)⟩, ?_⟩
    refine for_it (walk_list (K := K) (a := L29) (xs := [.str n1, .str n6])) (fun i σ H' => ∃ (a16 : Option V) (ss : List Str), σ = [some (.ref r), some (.ref lu), a2, some (.ref ln), some (.ref p), some (.bl bz), some (.str sh0), some v1, some v2, some v3, some (.str ww), some (.str lw), some (.str nn), some v4, some (.ref Ld), some (.ref Lt), a16, none, none] ∧ Rw T B3 H' Ld Lt ss ss ∧ ss.length ≤ 6 + i ∧ ∀ x ∈ ss, PyData.strOk x = true)
      ⟨a16, ss2, rfl, rwn, (by omega), so2⟩ (fun i σ H' _ hP => ?_) ?_ ?_
    · obtain ⟨_, _, _, x, _⟩ := hP
      exact SqL.of (x.sB _ _ hLn)
    · rintro i y σ H1 H2 hi ⟨a16, ss, rfl, x1, ls, so⟩ ⟨rfl, ey⟩
      have i2 : i < 2 := hi
      obtain ⟨o, rfl, mo⟩ : ∃ o, y = .str o ∧ Nm o := two_at (P := fun y => ∃ o, y = .str o ∧ Nm o) ey ⟨n1, rfl, m1⟩ ⟨n6, rfl, m6⟩
      have ft : Fits (.tuple [.str (kn 2), d3]) := told_fits i3b (by decide) (by decide)
      have sx : PyData.strOk (PyData.shown (.tuple [.str (kn 2), d3])) = true := told_so i3o
      refine ⟨_, rfl, .inl ⟨rfl, _, SqL.of x1.ht⟩, x1.tb, fun H3 e3 t3 => fun H4 Ech Q' s4 he => ?_⟩
      have x4 := (x1.extT e3 t3).same s4
      have f4 := fb3.same x4.sB
      refine ⟨_, rfl, p, ad1.dx, _, rfl, f4.hx.at_, (by rfl), _, rfl, _, rfl, p, .str o, v3, d3, st, ad1, rfl, kd_nm mo, f4.q3, i3b.sm, f4.hx, .inr ⟨nm_txt mo, i3n, ?_⟩⟩
      refine ro_told he (m := 2) rfl rfl f4.q3 ft fun H5 s5 => ?_
      have x5 := x4.same s5
      refine ⟨Lt, _, _, rfl, rfl, x5.ht, (by rw [List.length_map]; exact small200 (by omega)), ?_⟩
      have x6 := x5.told (ss ++ [PyData.shown (.tuple [.str (kn 2), d3])])
      rw [em_snoc]
      generalize upd H5 Lt _ = H6 at x6 ⊢
      refine ⟨_, rfl, .inl ⟨rfl, _, SqL.of x6.hd⟩, _, rfl, ?_⟩
      refine ⟨(by show 2 ≤ sizeLine; decide), fun t7 o7 n7 s7 z7 => ?_⟩
      have x7 := x6.same s7
      generalize upd H6 t7 o7 = H7' at x7 z7 ⊢
      refine ⟨_, _, rfl, .tup z7 (.cons (.str _) (.cons (fb3.same x7.sB).q3 .nil)), ft.1, ft.2.1, ft.2.2, ?_⟩
      refine ⟨Ld, _, _, rfl, rfl, x7.hd, (by rw [List.length_map]; exact small200 (by omega)), ?_⟩
      rw [em_snoc]
      exact ⟨_, _, rfl, x7.due _, len_snoc ls, so_snoc so sx⟩
    rintro σ H30 ⟨a16, ss3, rfl, x30, ls3, so3⟩
    clear hLn
    obtain ⟨nl', mnl, enl⟩ := atI_end ns (by rw [ens]; exact fun z => nomatch z)
    dsimp only
    refine ⟨_, rfl, lu, _, 0, .str n0, rfl, rfl, SqL.of (x30.sB _ _ fb3.hu), at7 (i := 0) rfl, _, rfl, _, rfl, ln, _, -1, .str nl', rfl, rfl, SqL.of (x30.sB _ _ fb3.hl), enl, (by show 2 ≤ sizeLine; decide), fun L31 n31 => ?_⟩
    have nLd31 : L31 ≠ Ld := fun z => by rw [z, x30.hd] at n31; cases n31
    have nLt31 : L31 ≠ Lt := fun z => by rw [z, x30.ht] at n31; cases n31
    generalize hg : upd H30 L31 _ = H31
    obtain ⟨s31, g31⟩ := upd_new hg n31
    clear hg
    have rwn := x30.same s31
    obtain ⟨rwn, sBn⟩ := rwn.reset
    have hLn := (x30.same s31).lst g31 nLd31 nLt31
    have fb4 := fb3.same sBn
    generalize noT H31 Ld Lt = B4 at rwn hLn fb4
    clear s31 g31 n31 nLd31 nLt31 sBn fb3 x30
    refine ⟨L31, rfl, ⟨_, SqL.of (rwn.sB _ _ hLn)⟩, ?_⟩
    refine for_it (walk_list (K := K) (a := L31) (xs := [.str n0, .str nl'])) (fun i σ H' => ∃ (a16 : Option V) (ss : List Str), σ = [some (.ref r), some (.ref lu), a2, some (.ref ln), some (.ref p), some (.bl bz), some (.str sh0), some v1, some v2, some v3, some (.str ww), some (.str lw), some (.str nn), some v4, some (.ref Ld), some (.ref Lt), a16, none, none] ∧ Rw T B4 H' Ld Lt ss ss ∧ ss.length ≤ 8 + i ∧ ∀ x ∈ ss, PyData.strOk x = true)
      ⟨a16, ss3, rfl, rwn, (by omega), so3⟩ (fun i σ H' _ hP => ?_) ?_ ?_
    · obtain ⟨_, _, _, x, _⟩ := hP
      exact SqL.of (x.sB _ _ hLn)
    · rintro i y σ H1 H2 hi ⟨a16, ss, rfl, x1, ls, so⟩ ⟨rfl, ey⟩
      have i2 : i < 2 := hi
      obtain ⟨o, rfl, mo, tk⟩ : ∃ o, y = .str o ∧ Nm o ∧ (o = st.nm ∨ o ∈ st.lk) := two_at (P := fun y => ∃ o, y = .str o ∧ Nm o ∧ (o = st.nm ∨ o ∈ st.lk)) ey ⟨n0, rfl, m0, .inl enm.symm⟩ ⟨nl', rfl, nm _ (nml _ mnl), .inr (by rw [elk]; exact (mem nl').mpr mnl)⟩
      have ft : Fits (.tuple [.str (kn 4), .str o]) := told_fits (a0_nm mo) (by decide) (by decide)
      have sx : PyData.strOk (PyData.shown (.tuple [.str (kn 4), .str o])) = true := told_so (nm_oks mo)
      refine ⟨_, rfl, .inl ⟨rfl, _, SqL.of x1.ht⟩, x1.tb, fun H3 e3 t3 => fun H4 Ech Q' s4 he => ?_⟩
      have x4 := (x1.extT e3 t3).same s4
      have f4 := fb4.same x4.sB
      refine ⟨_, rfl, p, ad1.dx, _, rfl, f4.hx.at_, (by rfl), _, rfl, p, .str o, st, ad1, rfl, kd_nm mo, f4.hx, (by rw [elk]; omega), (fun z => absurd ((nm_txt mo).symm.trans z) (by decide)), fun o' eo _ => ?_⟩
      obtain rfl : o = o' := by injection eo
      refine ⟨fun _ => ?_, fun z => absurd tk z⟩
      refine ro_told he (m := 4) rfl rfl (.str o) ft fun H5 s5 => ?_
      have x5 := x4.same s5
      refine ⟨Lt, _, _, rfl, rfl, x5.ht, (by rw [List.length_map]; exact small200 (by omega)), ?_⟩
      have x6 := x5.told (ss ++ [PyData.shown (.tuple [.str (kn 4), .str o])])
      rw [em_snoc]
      generalize upd H5 Lt _ = H6 at x6 ⊢
      refine ⟨_, rfl, .inl ⟨rfl, _, SqL.of x6.hd⟩, _, rfl, ?_⟩
      refine ⟨(by show 2 ≤ sizeLine; decide), fun t7 o7 n7 s7 z7 => ?_⟩
      have x7 := x6.same s7
      generalize upd H6 t7 o7 = H7' at x7 z7 ⊢
      refine ⟨_, _, rfl, .tup z7 (.cons (.str _) (.cons (.str o) .nil)), ft.1, ft.2.1, ft.2.2, ?_⟩
      refine ⟨Ld, _, _, rfl, rfl, x7.hd, (by rw [List.length_map]; exact small200 (by omega)), ?_⟩
      rw [em_snoc]
      exact ⟨_, _, rfl, x7.due _, len_snoc ls, so_snoc so sx⟩
    rintro σ H32 ⟨a16, ss4, rfl, x32, ls4, so4⟩
    clear hLn
    dsimp only
    refine ⟨_, rfl, lu, _, 0, .str n0, rfl, rfl, SqL.of (x32.sB _ _ fb4.hu), at7 (i := 0) rfl, _, rfl, ln, _, 0, .str n1, rfl, rfl, SqL.of (x32.sB _ _ fb4.hl), near0, _, rfl, lu, _, 6, .str n6, rfl, rfl, SqL.of (x32.sB _ _ fb4.hu), at7 (i := 6) rfl, (by show 3 ≤ sizeLine; decide), fun t33 o33 n33 s33 z33 => ?_⟩
    have x33 := x32.same s33
    generalize upd H32 t33 o33 = H33 at x33 z33 ⊢
    dsimp only [gName]
    refine ⟨_, rfl, (by show 2 ≤ sizeLine; decide), fun p1 i1 np1 sp1 zp1 => ?_⟩
    have x34 := x33.same sp1
    have z33 := z33.same sp1
    have z1 := zp1
    clear zp1
    generalize upd H33 p1 i1 = H34 at x34 z33 z1 ⊢
    clear sp1 x33
    refine ⟨_, rfl, _, rfl, (by show 2 ≤ sizeLine; decide), fun p2 ip2 npp2 spp2 zpp2 => ?_⟩
    have x35 := x34.same spp2
    have z33 := z33.same spp2
    replace z1 := z1.same spp2
    have z2 := zpp2
    clear zpp2
    generalize upd H34 p2 ip2 = H35 at x35 z33 z1 z2 ⊢
    clear spp2 x34
    refine ⟨_, rfl, _, rfl, (by show 2 ≤ sizeLine; decide), fun p3 ip3 npp3 spp3 zpp3 => ?_⟩
    have x36 := x35.same spp3
    have z33 := z33.same spp3
    replace z1 := z1.same spp3
    replace z2 := z2.same spp3
    have z3 := zpp3
    clear zpp3
    generalize upd H35 p3 ip3 = H36 at x36 z33 z1 z2 z3 ⊢
    clear spp3 x35
    refine ⟨_, rfl, t33, _, rfl, z33.sq, fun rv irv nprv sprv zprv => ?_⟩
    have x37 := x36.same sprv
    have z33 := z33.same sprv
    replace z1 := z1.same sprv
    replace z2 := z2.same sprv
    replace z3 := z3.same sprv
    have zr := zprv
    clear zprv
    generalize upd H36 rv irv = H37 at x37 z33 z1 z2 z3 zr ⊢
    clear sprv x36
    refine ⟨(by show 2 ≤ sizeLine; decide), fun p4 ip4 npp4 spp4 zpp4 => ?_⟩
    have x38 := x37.same spp4
    have z33 := z33.same spp4
    replace z1 := z1.same spp4
    replace z2 := z2.same spp4
    replace z3 := z3.same spp4
    replace zr := zr.same spp4
    have z4 := zpp4
    clear zpp4
    generalize upd H37 p4 ip4 = H38 at x38 z33 z1 z2 z3 zr z4 ⊢
    clear spp4 x37
    refine ⟨(by show 4 ≤ sizeLine; decide), fun L39 n39 => ?_⟩
    have nLd39 : L39 ≠ Ld := fun z => by rw [z, x38.hd] at n39; cases n39
    have nLt39 : L39 ≠ Lt := fun z => by rw [z, x38.ht] at n39; cases n39
    generalize hg : upd H38 L39 _ = H39
    obtain ⟨s39, g39⟩ := upd_new hg n39
    clear hg
    have rwn := x38.same s39
    obtain ⟨rwn, sBn⟩ := rwn.reset
    have hLn := (x38.same s39).lst g39 nLd39 nLt39
    have fb5 := fb4.same sBn
    have z33 := (x38.same s39).tz (z33.same s39)
    have z1 := (x38.same s39).tz (z1.same s39)
    have z2 := (x38.same s39).tz (z2.same s39)
    have z3 := (x38.same s39).tz (z3.same s39)
    have zr := (x38.same s39).tz (zr.same s39)
    have z4 := (x38.same s39).tz (z4.same s39)
    generalize noT H39 Ld Lt = B5 at rwn hLn fb5 z33 z1 z2 z3 zr z4
    clear s39 g39 n39 nLd39 nLt39 sBn fb4 x38
    refine ⟨L39, rfl, ⟨_, SqL.of (rwn.sB _ _ hLn)⟩, ?_⟩
    refine for_it (walk_list (K := K) (a := L39) (xs := [.ref p1, .ref p2, .ref p3, .ref p4])) (fun i σ H' => ∃ (a16 a18 : Option V) (ss : List Str), σ = [some (.ref r), some (.ref lu), a2, some (.ref ln), some (.ref p), some (.bl bz), some (.str sh0), some v1, some v2, some v3, some (.str ww), some (.str lw), some (.str nn), some v4, some (.ref Ld), some (.ref Lt), a16, some (.ref t33), a18] ∧ Rw T B5 H' Ld Lt ss ss ∧ ss.length ≤ 10 + i ∧ ∀ x ∈ ss, PyData.strOk x = true)
      ⟨_, _, ss4, rfl, rwn, (by omega), so4⟩ (fun i σ H' _ hP => ?_) ?_ ?_
    · obtain ⟨_, _, _, _, x, _⟩ := hP
      exact SqL.of (x.sB _ _ hLn)
    · rintro i y σ H1 H2 hi ⟨a16, a18, ss, rfl, x1, ls, so⟩ ⟨rfl, ey⟩
      have i4 : i < 4 := hi
      have dpa : Dn K B5 (.ref t33) (.tuple [.str n0, .str n1, .str n6]) := .tup z33 (.cons (.str _) (.cons (.str _) (.cons (.str _) .nil)))
      have drv : Dn K B5 (.ref rv) (.tuple [.str n6, .str n1, .str n0]) := .tup zr (.cons (.str _) (.cons (.str _) (.cons (.str _) .nil)))
      have b1 : Bd 3 1400 d1 := (odd_bd _ o1).mono (by decide) (by decide)
      obtain ⟨t, va, vb, da, db, rfl, zt, qa, qb, bd, ok, na⟩ : PairOk K B5 n0 y := four_at (P := PairOk K B5 n0) ey
        ⟨p1, _, _, _, _, rfl, z1, fb5.q1, .int _, pair_bd b1 ((a0_nat (n := 0) (by decide)).mono (by decide) (by decide)), pair_oks (odd_oks _ o1) rfl, .inl (rel_no1 (odd_path _ o1))⟩
        ⟨p2, _, _, _, _, rfl, z2, fb5.q1, fb5.q2, pair_bd b1 ((odd_bd _ o2).mono (by decide) (by decide)), pair_oks (odd_oks _ o1) (odd_oks _ o2), .inl (rel_no1 (odd_path _ o1))⟩
        ⟨p3, _, _, _, _, rfl, z3, dpa, fb5.q4, pair_bd (path_bd m0 m1 m6) ((cut_bd _ o4).mono (by decide) (by decide)), pair_oks (path_oks m0 m1 m6) (cut_oks _ o4), cut_noask (cut_no _ o4)⟩
        ⟨p4, _, _, _, _, rfl, z4, drv, .int _, pair_bd (path_bd m6 m1 m0) ((a0_nat (n := 0) (by decide)).mono (by decide) (by decide)), pair_oks (path_oks m6 m1 m0) rfl, rev_noask n60⟩
      have ft : Fits (.tuple [.str (kn 3), .tuple [da, db]]) := told_fits bd (by decide) (by decide)
      have sx : PyData.strOk (PyData.shown (.tuple [.str (kn 3), .tuple [da, db]])) = true := told_so ok
      refine ⟨_, rfl, .inl ⟨rfl, _, SqL.of x1.ht⟩, x1.tb, fun H3 e3 t3 => fun H4 Ech Q' s4 he => ?_⟩
      have x4 := (x1.extT e3 t3).same s4
      have f4 := fb5.same x4.sB
      have z4' := zt.same x4.sB
      refine ⟨_, rfl, p, ad1.dx, _, rfl, f4.hx.at_, (by rfl), _, rfl, t, _, 0, va, rfl, rfl, z4'.sq, (show atI [va, vb] ((0 : Nat) : Int) = some va from atI_nat rfl), _, rfl, t, _, 1, vb, rfl, rfl, z4'.sq, (show atI [va, vb] ((1 : Nat) : Int) = some vb from atI_nat rfl), p, va, vb, da, db, st, ad1, rfl, qa.same x4.sB, qb.same x4.sB, bd.sm, f4.hx, (by rw [elk]; omega), (fun _ H5 dx5 tt s5 ztt e5 => ?_), fun xs cc e ir hd => ?_⟩
      rotate_left
      · rcases na with na | ⟨xs', c', e', ne'⟩
        · rw [e] at na
          exact absurd (ir.symm.trans na) (by decide)
        · obtain ⟨rfl, rfl⟩ := reld_inj (e'.symm.trans e)
          exact absurd (by rw [← enm]; exact hd) ne'
      have dd : Dn K H5 (.ref tt) (.tuple [da, db]) := .tup ztt (.cons ((qa.same x4.sB).same s5) (.cons ((qb.same x4.sB).same s5) .nil))
      refine he _ _ _ ⟨3, _, .ref tt, .tuple [da, db], dx5, rfl, rfl, rfl, e5, dd, ft, fun H6 s6 => ?_⟩
      have x5 := (x4.same s5).same s6
      refine ⟨Lt, _, _, rfl, rfl, x5.ht, (by rw [List.length_map]; exact small200 (by omega)), ?_⟩
      have x6 := x5.told (ss ++ [PyData.shown (.tuple [.str (kn 3), .tuple [da, db]])])
      rw [em_snoc]
      generalize upd H6 Lt _ = H7 at x6 ⊢
      refine ⟨_, rfl, .inl ⟨rfl, _, SqL.of x6.hd⟩, _, rfl, ?_⟩
      refine ⟨(by show 2 ≤ sizeLine; decide), fun t7 o7 n7 s7 z7 => ?_⟩
      have x7 := x6.same s7
      generalize upd H7 t7 o7 = H8' at x7 z7 ⊢
      refine ⟨_, _, rfl, .tup z7 (.cons (.str _) (.cons (.tup (zt.same x7.sB) (.cons (qa.same x7.sB) (.cons (qb.same x7.sB) .nil))) .nil)), ft.1, ft.2.1, ft.2.2, ?_⟩
      refine ⟨Ld, _, _, rfl, rfl, x7.hd, (by rw [List.length_map]; exact small200 (by omega)), ?_⟩
      rw [em_snoc]
      exact ⟨_, _, _, rfl, x7.due _, len_snoc ls, so_snoc so sx⟩
    rintro σ H40 ⟨a16, a18, ss5, rfl, x40, ls5, so5⟩
    clear hLn z33 z1 z2 z3 zr z4
    have l14 : ss5.length ≤ 14 := ls5
    dsimp only
    refine seq_by (fun H' => ∃ ss, Rw T B5 H' Ld Lt ss ss ∧ ss.length ≤ 15 ∧ ∀ x ∈ ss, PyData.strOk x = true) (fun H41 hS => ?_) (fun Rr hR => ?_)
    rotate_left
    · refine ⟨_, rfl, bz, rfl, ?_⟩
      refine ite2 (fun c => iteT ?_) (fun c => ?_)
      · subst c
        have ft : Fits (.tuple [.str (kn 5), .str n0]) := told_fits (a0_nm m0) (by decide) (by decide)
        have sx : PyData.strOk (PyData.shown (.tuple [.str (kn 5), .str n0])) = true := told_so (nm_oks m0)
        refine ⟨_, rfl, .inl ⟨rfl, _, SqL.of x40.ht⟩, x40.tb, fun H3 e3 t3 => fun H4 Ech Q' s4 he => ?_⟩
        have x4 := (x40.extT e3 t3).same s4
        have f4 := fb5.same x4.sB
        refine ⟨_, rfl, p, ad1.dx, _, rfl, f4.hx.at_, (by rfl), p, st, ad1, rfl, f4.hx, (by rw [elk]; omega), fun _ => ?_, fun z => absurd z (by rw [(tbz rfl).2]; exact fun z => nomatch z), fun z => absurd z (by rw [(tbz rfl).2]; exact fun z => nomatch z)⟩
        refine ro_told he (m := 5) (d := .str n0) rfl rfl (by rw [enm]; exact .str n0) ft fun H5 s5 => ?_
        have x5 := x4.same s5
        refine ⟨Lt, _, _, rfl, rfl, x5.ht, (by rw [List.length_map]; exact small200 (by omega)), ?_⟩
        have x6 := x5.told (ss5 ++ [PyData.shown (.tuple [.str (kn 5), .str n0])])
        rw [em_snoc]
        generalize upd H5 Lt _ = H6 at x6 ⊢
        refine ⟨_, rfl, .inl ⟨rfl, _, SqL.of x6.hd⟩, _, rfl, true, rfl, ?_⟩
        refine iteT ⟨_, rfl, lu, _, 0, .str n0, rfl, rfl, SqL.of (x6.sB _ _ fb5.hu), at7 (i := 0) rfl, (by show 2 ≤ sizeLine; decide), fun t7 o7 n7 s7 z7 => ?_⟩
        have x7 := x6.same s7
        generalize upd H6 t7 o7 = H7 at x7 z7 ⊢
        refine ⟨_, _, rfl, .tup z7 (.cons (.str _) (.cons (.str n0) .nil)), ft.1, ft.2.1, ft.2.2, ?_⟩
        refine ⟨Ld, _, _, rfl, rfl, x7.hd, (by rw [List.length_map]; exact small200 (by omega)), ?_⟩
        rw [em_snoc]
        exact hR _ ⟨_, x7.due _, (by rw [List.length_append]; show ss5.length + 1 ≤ _; omega), so_snoc so5 sx⟩
      · have c : bz = false := by cases bz with
          | false => rfl
          | true => exact absurd rfl c
        subst c
        refine ⟨_, rfl, ln, _, rfl, .inl (SqL.of (x40.sB _ _ fb5.hl)), rfl, _, rfl, ite2 (fun c1 => ?_) (fun _ => hR _ ⟨_, x40, by omega, so5⟩)⟩
        have l1 : ns.length ≠ 1 := fun z => by
          rw [List.length_map, z] at c1
          exact absurd c1 (by decide)
        have ft : Fits (.tuple [.str (kn 6), .str n0]) := told_fits (a0_nm m0) (by decide) (by decide)
        have sx : PyData.strOk (PyData.shown (.tuple [.str (kn 6), .str n0])) = true := told_so (nm_oks m0)
        refine ⟨_, rfl, .inl ⟨rfl, _, SqL.of x40.ht⟩, x40.tb, fun H3 e3 t3 => fun H4 Ech Q' s4 he => ?_⟩
        have x4 := (x40.extT e3 t3).same s4
        have f4 := fb5.same x4.sB
        refine ⟨_, rfl, p, ad1.dx, _, rfl, f4.hx.at_, (by rfl), p, st, ad1, rfl, f4.hx, (by rw [elk]; omega), fun z => absurd (fb rfl).2 z, fun _ _ => ?_, fun _ y ey => absurd (by rw [← nsl, ← pys.length_eq.trans nsl] at *; rw [← elk, ey]; rfl) l1⟩
        refine ro_told he (m := 6) (d := .str n0) rfl rfl (by rw [enm]; exact .str n0) ft fun H5 s5 => ?_
        have x5 := x4.same s5
        refine ⟨Lt, _, _, rfl, rfl, x5.ht, (by rw [List.length_map]; exact small200 (by omega)), ?_⟩
        have x6 := x5.told (ss5 ++ [PyData.shown (.tuple [.str (kn 6), .str n0])])
        rw [em_snoc]
        generalize upd H5 Lt _ = H6 at x6 ⊢
        refine ⟨_, rfl, .inl ⟨rfl, _, SqL.of x6.hd⟩, _, rfl, false, rfl, ?_⟩
        refine iteF ⟨_, rfl, lu, _, 0, .str n0, rfl, rfl, SqL.of (x6.sB _ _ fb5.hu), at7 (i := 0) rfl, (by show 2 ≤ sizeLine; decide), fun t7 o7 n7 s7 z7 => ?_⟩
        have x7 := x6.same s7
        generalize upd H6 t7 o7 = H7 at x7 z7 ⊢
        refine ⟨_, _, rfl, .tup z7 (.cons (.str _) (.cons (.str n0) .nil)), ft.1, ft.2.1, ft.2.2, ?_⟩
        refine ⟨Ld, _, _, rfl, rfl, x7.hd, (by rw [List.length_map]; exact small200 (by omega)), ?_⟩
        rw [em_snoc]
        exact hR _ ⟨_, x7.due _, (by rw [List.length_append]; show ss5.length + 1 ≤ _; omega), so_snoc so5 sx⟩
    obtain ⟨ss, x41, ls, so⟩ := hS
    have f41 := fb5.same x41.sB
    refine ⟨_, rfl, _, rfl, _, _, dp_due x41.ht, dp_due x41.hd, shp_strs so, shp_strs so, _, rfl, ite2 (fun cc => absurd cc ?_) (fun _ => ?_)⟩
    · rw [SeqAt.eqv_refl _ (SeqAt.canLay_of_shaped (shp_strs so))]
      decide
    refine ⟨_, rfl, p, st, ad1, rfl, f41.hx, sft, fun H42 s42 => ?_⟩
    have x42 := x41.same s42
    have f42 := f41.same s42
    refine ⟨_, rfl, rfl, _, rfl, ite2 (fun cc => absurd cc ?_) (fun _ => ?_)⟩
    · rw [hsh]
      simp
    obtain ⟨fr, efr, mfr, nf0, nfy⟩ : ∃ fr, atI ([n0, n1, n2, n3, n4, n5, n6].map V.str) (4 + (((ns.map V.str).length : Nat) : Int) / 4) = some (.str fr) ∧ Nm fr ∧ fr ≠ n0 ∧ fr ∉ ys := by
      rw [List.length_map, nsl]
      by_cases k3 : k < 3
      · refine ⟨n4, ?_, m4, fun z => ?_, fun z => ?_⟩
        · rw [show (4 + ((k + 1 : Nat) : Int) / 4) = ((4 : Nat) : Int) from by omega]
          exact at7 (i := 4) rfl
        · simp [z] at nd
        · have := (sub3 k3).subset ((mem n4).mp z)
          simp only [List.mem_cons, List.not_mem_nil, or_false] at this
          rcases this with h | h | h <;> simp [h] at nd
      · refine ⟨n5, ?_, m5, fun z => ?_, fun z => ?_⟩
        · rw [show (4 + ((k + 1 : Nat) : Int) / 4) = ((5 : Nat) : Int) from by omega]
          exact at7 (i := 5) rfl
        · simp [z] at nd
        · have := sub4.subset ((mem n5).mp z)
          simp only [List.mem_cons, List.not_mem_nil, or_false] at this
          rcases this with h | h | h | h <;> simp [h] at nd
    have vok : ValOk st ns ww fr := ⟨by omega, (by
        cases bz with
        | false => exact fun _ => (fb rfl).2
        | true => exact fun z => by rw [(tbz rfl).1] at z; exact absurd z (by decide)), (fun y ey => by rw [elk]; exact List.perm_singleton.mp (ey ▸ pys)), (by rw [elk]; omega), (by rw [elk]; exact srt), (by rw [elk]; exact nd8), (by rw [elg]; show 1 ≤ 1000; decide), jok, (by rw [enm]; exact m0), (txt_w (K := K) (H := H42) (.str ww)).trans ww1, mfr, (by rw [enm]; exact nf0), (by rw [elk]; exact nfy), (by rw [elk]; exact nmy)⟩
    dsimp only [tNext]
    refine ⟨_, rfl, _, rfl, _, rfl, _, rfl, _, rfl, ln, _, rfl, .inl (SqL.of f42.hl), _, 4, rfl, rfl, ⟨by decide, by decide⟩, 4, _, rfl, rfl, lu, _, _, .str fr, rfl, rfl, SqL.of f42.hu, efr, p, ln, st, ad1, ns, ww, fr, rfl, f42.hx, f42.hl, vok, fun H43 ad2 ys2 frm hx2 pm2 => ⟨true, rfl, ?_⟩⟩
    have lgb2 : Bd 5 1000 (logD st.nm ww) := (Bd.tup (n := 1) (W := 120) (L := 2) (fun e he => by
        simp only [List.mem_cons, List.not_mem_nil, or_false] at he
        rcases he with rfl | rfl
        · rw [enm]
          exact a0_nm m0
        · exact ww2) (by show 2 ≤ 2; decide) (by decide)).mono (by decide) (by decide)
    have y2l : ys2.length = k + 2 := by
      rw [pm2.length_eq, List.length_append, elk, yl]
      rfl
    have sft2 : Fits (shownD { st with lg := st.lg ++ [logD st.nm ww], lk := ys2 }) := st_fits (by rw [enm]; exact m0) (fun x hx => by
        rcases List.mem_append.mp (pm2.subset hx) with h | h
        · exact nmy x (by rw [← elk]; exact h)
        · rw [List.mem_singleton.mp h]
          exact mfr) (by show ys2.length ≤ 14; omega) (fun d hd => by
        rcases List.mem_append.mp hd with h | h
        · rw [elg] at h
          rw [List.mem_singleton.mp h]
          exact lgb
        · rw [List.mem_singleton.mp h]
          exact lgb2) (by rw [elg]; show 2 ≤ 14; decide) equ ean sg2 jnw
    refine iteT ⟨_, rfl, p, { st with lg := st.lg ++ [logD st.nm ww], lk := ys2 }, ad2, rfl, hx2, sft2, fun H44 s44 => ⟨_, rfl, rfl, ?_⟩⟩
    rw [decide_eq_false (fun z => shown_ne pm2 (by rw [elg]; exact fun z => nomatch z) (by rw [elk]; exact fun z => by rw [z] at yl; cases yl) (by injection z with z; rw [hsh, z]))]
    obtain ⟨lv, hLl, _⟩ := f42.hx.lg
    refine q H44 (fun y o e n1 n2 => s44 _ _ (frm _ _ (f42.fr _ _ e n1 n2) (fun z => pn o (z ▸ e) n2) (fun z => gn o (z ▸ e) n2))) ((tabs_two x42.tb f42.hx.at_ hLl (fun _ z => nomatch z) (fun _ _ z => nomatch z) (fun _ z => nomatch z) (fun _ _ z => nomatch z) frm).ext s44)
end
end My

namespace My
open PySem PySem.Spec PyProof.Rows L2 Gy Xl Xs Xt Xo Xp Xq LamX
section
variable {P : Program} {w : World} {K : PySem.W.Frag} {mg : Str → Option Value} {base : Heap} {H : Hp} {T : List (Addr × Str)}
theorem sq_ext {K : PySem.W.Frag} {H H' : Hp} {a : Addr} {xs : List V} (h : SqL K H a xs) (s : ExtN H H') : SqL K H' a xs := by
  rcases h with (h | ⟨o, h⟩) | h
  · exact .inl (.inl (s _ _ h fun _ z => nomatch z))
  · exact .inl (.inr ⟨o, s _ _ h fun _ z => nomatch z⟩)
  · exact .inr h
def spLawT (T : List (Addr × Str)) (K : PySem.W.Frag) : Sp := fun vs H Q _ => ∃ (a : Addr) (ns : List Int), vs = [.ref a] ∧ SqL K H a (ns.map V.int) ∧ ns.length ≤ 63 ∧ Tabs T H ∧ ∀ H', Q (.bl true) H'
theorem ok_law {f : Addr} {fd : FuncData} (F : Fun K "law" "law" s_law f fd) (Y : Bn mg) (G_law_pot : Fk P w K mg base CX0 1 "_law_pot" ["_law_script", "_law_k"] (spPot K))
    (G_law_right : Fg P w K mg base CX0 13 "_law_right" ["_law_pot_here"] (spRight T K)) : FnG P w K mg base CX0 14 f fd ["_law_script"] (spLawT T K) := by
  refine fun_g0 F sc_law (fun {vs H Q E} h => ?_) (fun cdv A outer s H vs Q E gd hr h => ?_)
  · obtain ⟨a, ns, rfl, _⟩ := h
    rfl
  · obtain ⟨a, ns, rfl, hS, hn, tb, q⟩ := h
    refine ⟨_, (pss_one (ps_ret (pe_callB (cr_all rfl) (by rfl) Y.all (by decide +kernel) (pa_cons (pe_lc (own := [("_law_k", 1)]) (g := gName 1) (tt := tYes) rfl sc_law.nd (pi_range1 (by rfl) Y.range (pa_cons (pe_callB (call_max2 rfl) (by rfl) Y.max (by decide +kernel) (pa_cons pe_int (pa_cons (pe_callB (call_min2 rfl) (by rfl) Y.min (by decide +kernel) (pa_cons pe_int (pa_cons (pe_callB call_len_seq (by rfl) Y.len PySem.boot_len (pa_cons (pv 0) pa_nil)) pa_nil))) pa_nil))) pa_nil)) (blkOk_by (N := ["_law_script", "_law_k"]) (sc := defScope s_law) (by decide +kernel)) (fun _ _ _ _ _ => (pg_name (i := 1) sc_law.nd rfl (Or.inl rfl))) (fun _ _ _ _ _ => pts_nil) (fun _ _ _ _ _ => (pe_callFg (E := E0) G_law_right gd hr (by rfl) pass0 (pa_cons (pe_callF G_law_pot (hr.mono (by decide)) (by rfl) pass0 (pa_cons (pv 0) (pa_cons (pv 1) pa_nil))) pa_nil)))) pa_nil)))), ?_⟩
    refine ⟨_, rfl, a, _, rfl, .inl hS, 5, _, rfl, 1, _, rfl, _, rfl, ?_, ?_, fun D1 nD1 => ?_⟩
    · rw [List.length_map]
      split <;> split <;> omega
    · rw [List.length_map]
      split <;> split <;> omega
    generalize hm : (Int.toNat _) = m
    have m6 : m ≤ 6 := by
      rw [List.length_map] at hm
      rw [← hm]
      split <;> split <;> omega
    refine lc_it (walk_range (lo := 0) (n := m)) (fun i H' => ExtN H H' ∧ Tabs T H' ∧ H' D1 = some (.lst ((List.replicate i true).map V.bl))) ⟨ExtN.of (same_upd nD1), tb.ext (same_upd nD1), upd_same⟩ (fun _ _ _ _ => trivial) ?_ ?_
    · rintro k y H7 H8 hk ⟨s7, t7, hZ⟩ ⟨rfl, rfl⟩
      refine ⟨rfl, ?_⟩
      dsimp only [tYes]
      refine iteT ?_
      refine ⟨_, rfl, _, rfl, a, ns, k, (by show [V.ref a, V.int (0 + (k : Int))] = _; rw [Int.zero_add]), sq_ext hS s7, by omega, fun H9 r s9 nr R9 => ?_⟩
      refine ⟨r, rfl, R9, t7.ext s9, fun H10 fr t10 => ?_⟩
      have s10 : ExtN H8 H10 := fun b o e n => fr b o (s9 b o e) (fun z => by rw [z, nr] at e; cases e) n
      have hZ10 : H10 D1 = _ := s10 _ _ hZ (fun _ z => nomatch z)
      refine ⟨_, hZ10, ?_, (fun b o e n => (upd_ne (ne_of_none e nD1)).trans (s10 _ _ (s7 _ _ e n) n)), tabs_upd t10 hZ10 (fun _ z => nomatch z) (fun _ _ z => nomatch z), ?_⟩
      · rw [List.length_map, List.length_replicate]
        exact small200 (by omega)
      · rw [upd_same, List.replicate_succ', List.map_append]
        rfl
    · rintro H7 ⟨s7, t7, hZ⟩
      refine ⟨D1, _, rfl, SqL.of hZ, ?_⟩
      rw [all_true]
      exact q _
end
end My

namespace My
open PySem PySem.Spec PyProof.Rows L2 Gy Xl Xs Xt Xo Xp Xq LamX
theorem xb_mk {K : PySem.W.Frag} {x qual : Str} {st : Stmt} {f : Addr} {fd : FuncData} {ps ks : List Str} {g : List Value → List Value → List Value} {gV : List V → List V → List V} (F : Fun K x qual st f fd)
    (rel : ∀ {vs : List V} {us : List Value} {zs : List V} {ws : List Value}, Vals vs us → Vals zs ws → Vals (gV vs zs) (g us ws))
    (h : ∀ (kV doc pm : Value) (an : Option Addr) (cdv ct : Value) (b : Value) (us ws : List Value), (b :: g us ws).length = ps.length →
      bindArgs (PySem.W.fnOf x qual (defArgs st) (defBody st) (defScope st) .none kV doc pm an cdv ct) ⟨b :: us, ks.zip ws⟩ = pure (ps.zip (b :: g us ws))) : XB K fd ps ks g gV := by
  obtain ⟨oc, od, kV, doc, pm, an, cdv, ct, osl, rfl, lk, hcd⟩ := F.ex
  exact ⟨fun s b us ws _ hl => .of_eq (h kV doc pm an cdv ct b us ws hl), rel⟩
abbrev sI_InvalidWord : Stmt := inClass (top 3) 0
theorem scI_InvalidWord : FnScope ["self", "value"] ["self", "value"] (defScope sI_InvalidWord) := ⟨rfl, rfl, rfl, by decide +kernel, rfl, by decide +kernel, by decide +kernel⟩
theorem raw_InvalidWord {K : PySem.W.Frag} {c fI : Addr} {od an : Option Addr} {sl : Array (Option Value)} {oc kV dc pm cdv ct : Value}
    (ii : PySem.W.excInitIn K c [.type "ValueError", .type "Exception", .type "BaseException", .type "object"] "ValueError.__new__" = true) (ov : PySem.W.excOver K c [.type "ValueError", .type "Exception", .type "BaseException", .type "object"] = true) (sa : PySem.W.findIn K (.ref c) "__setattr__" = some (some (.builtin "object.__setattr__")))
    (ga : PySem.W.findIn K (.ref c) "__getattribute__" = some (some (.builtin "BaseException.__getattribute__"))) (gg : PySem.W.findIn K (.ref c) "__getattr__" = some none) (ca : PySem.W.findIn K (.ref c) "__class__" = some (some (.builtin "object.__class__")))
    (ex : PySem.W.subIn K (.ref c) (.type "BaseException") = some true) (ob : PySem.W.mroIn K c (.type "object") = some true) (hd : PySem.W.hasDictIn K c = true) (kp : PySem.W.keepIn K (.ref c) = true)
    (ty : PySem.W.typeIn K (.ref c) = some (.type "type")) (ini : PySem.W.findIn K (.ref c) "__init__" = some (some (.ref fI))) (tf : PySem.W.typeIn K (.ref fI) = some (.type "function"))
    (li : K.lookup fI = some ⟨oc, od, .func (PySem.W.fnOf "__init__" "InvalidWord.__init__" (defArgs sI_InvalidWord) (defBody sI_InvalidWord) (defScope sI_InvalidWord) .none kV dc pm an cdv ct), sl⟩) (ci : PySem.W.codeIn K cdv "InvalidWord.__init__" = true) (ki : PySem.W.keepIn K (.ref fI) = true)
    (n0 : PySem.W.findIn K (.ref c) "value" = some none) : XCl K c ∧ ∀ (P : Program) (w : World) (mg : Str → Option Value) (base : Heap), mg "InvalidWord" = some (.ref c) → Rz P w K mg base "InvalidWord" "value" c := by
  have X : XCl K c := ⟨⟨_, _, _, _, PySem.F.excBase_ValueError, PySem.F.store_ValueError, ii, ov⟩, sa, ga, gg, ca, ex, ob, hd, kp⟩
  refine ⟨X, fun P w mg base gm => ?_⟩
  have F := fun_mk (st := sI_InvalidWord) li ci ki
  refine ⟨gm, ty, fI, _, ⟨X, ini, tf⟩, ?_, xb_mk F (fun r _ => r) fun _ _ _ _ _ _ b us ws hl => match us, hl with | [_], _ => rfl⟩
  refine F.ok scI_InvalidWord (fun vs H Q E h => ?_) (fun cdv A outer s H vs Q E hr h => ?_)
  · obtain ⟨a, v, rfl, _⟩ := h
    rfl
  · obtain ⟨a, v, rfl, ha, q⟩ := h
    exact ⟨_, pss_one (ps_xs (pv 0) (pv 1)), v, rfl, .ref a, rfl, a, c, rfl, X, n0, .inl ⟨ha, fun dx n ne => q dx n ne⟩⟩
abbrev sI_InvalidName : Stmt := inClass (top 2) 0
theorem scI_InvalidName : FnScope ["self", "value"] ["self", "value"] (defScope sI_InvalidName) := ⟨rfl, rfl, rfl, by decide +kernel, rfl, by decide +kernel, by decide +kernel⟩
theorem raw_InvalidName {K : PySem.W.Frag} {c fI : Addr} {od an : Option Addr} {sl : Array (Option Value)} {oc kV dc pm cdv ct : Value}
    (ii : PySem.W.excInitIn K c [.type "ValueError", .type "Exception", .type "BaseException", .type "object"] "ValueError.__new__" = true) (ov : PySem.W.excOver K c [.type "ValueError", .type "Exception", .type "BaseException", .type "object"] = true) (sa : PySem.W.findIn K (.ref c) "__setattr__" = some (some (.builtin "object.__setattr__")))
    (ga : PySem.W.findIn K (.ref c) "__getattribute__" = some (some (.builtin "BaseException.__getattribute__"))) (gg : PySem.W.findIn K (.ref c) "__getattr__" = some none) (ca : PySem.W.findIn K (.ref c) "__class__" = some (some (.builtin "object.__class__")))
    (ex : PySem.W.subIn K (.ref c) (.type "BaseException") = some true) (ob : PySem.W.mroIn K c (.type "object") = some true) (hd : PySem.W.hasDictIn K c = true) (kp : PySem.W.keepIn K (.ref c) = true)
    (ty : PySem.W.typeIn K (.ref c) = some (.type "type")) (ini : PySem.W.findIn K (.ref c) "__init__" = some (some (.ref fI))) (tf : PySem.W.typeIn K (.ref fI) = some (.type "function"))
    (li : K.lookup fI = some ⟨oc, od, .func (PySem.W.fnOf "__init__" "InvalidName.__init__" (defArgs sI_InvalidName) (defBody sI_InvalidName) (defScope sI_InvalidName) .none kV dc pm an cdv ct), sl⟩) (ci : PySem.W.codeIn K cdv "InvalidName.__init__" = true) (ki : PySem.W.keepIn K (.ref fI) = true)
    (n0 : PySem.W.findIn K (.ref c) "value" = some none) : XCl K c ∧ ∀ (P : Program) (w : World) (mg : Str → Option Value) (base : Heap), mg "InvalidName" = some (.ref c) → Rz P w K mg base "InvalidName" "value" c := by
  have X : XCl K c := ⟨⟨_, _, _, _, PySem.F.excBase_ValueError, PySem.F.store_ValueError, ii, ov⟩, sa, ga, gg, ca, ex, ob, hd, kp⟩
  refine ⟨X, fun P w mg base gm => ?_⟩
  have F := fun_mk (st := sI_InvalidName) li ci ki
  refine ⟨gm, ty, fI, _, ⟨X, ini, tf⟩, ?_, xb_mk F (fun r _ => r) fun _ _ _ _ _ _ b us ws hl => match us, hl with | [_], _ => rfl⟩
  refine F.ok scI_InvalidName (fun vs H Q E h => ?_) (fun cdv A outer s H vs Q E hr h => ?_)
  · obtain ⟨a, v, rfl, _⟩ := h
    rfl
  · obtain ⟨a, v, rfl, ha, q⟩ := h
    exact ⟨_, pss_one (ps_xs (pv 0) (pv 1)), v, rfl, .ref a, rfl, a, c, rfl, X, n0, .inl ⟨ha, fun dx n ne => q dx n ne⟩⟩
abbrev sI_InvalidItem : Stmt := inClass (top 6) 0
theorem scI_InvalidItem : FnScope ["self", "value"] ["self", "value"] (defScope sI_InvalidItem) := ⟨rfl, rfl, rfl, by decide +kernel, rfl, by decide +kernel, by decide +kernel⟩
theorem raw_InvalidItem {K : PySem.W.Frag} {c fI : Addr} {od an : Option Addr} {sl : Array (Option Value)} {oc kV dc pm cdv ct : Value}
    (ii : PySem.W.excInitIn K c [.type "ValueError", .type "Exception", .type "BaseException", .type "object"] "ValueError.__new__" = true) (ov : PySem.W.excOver K c [.type "ValueError", .type "Exception", .type "BaseException", .type "object"] = true) (sa : PySem.W.findIn K (.ref c) "__setattr__" = some (some (.builtin "object.__setattr__")))
    (ga : PySem.W.findIn K (.ref c) "__getattribute__" = some (some (.builtin "BaseException.__getattribute__"))) (gg : PySem.W.findIn K (.ref c) "__getattr__" = some none) (ca : PySem.W.findIn K (.ref c) "__class__" = some (some (.builtin "object.__class__")))
    (ex : PySem.W.subIn K (.ref c) (.type "BaseException") = some true) (ob : PySem.W.mroIn K c (.type "object") = some true) (hd : PySem.W.hasDictIn K c = true) (kp : PySem.W.keepIn K (.ref c) = true)
    (ty : PySem.W.typeIn K (.ref c) = some (.type "type")) (ini : PySem.W.findIn K (.ref c) "__init__" = some (some (.ref fI))) (tf : PySem.W.typeIn K (.ref fI) = some (.type "function"))
    (li : K.lookup fI = some ⟨oc, od, .func (PySem.W.fnOf "__init__" "InvalidItem.__init__" (defArgs sI_InvalidItem) (defBody sI_InvalidItem) (defScope sI_InvalidItem) .none kV dc pm an cdv ct), sl⟩) (ci : PySem.W.codeIn K cdv "InvalidItem.__init__" = true) (ki : PySem.W.keepIn K (.ref fI) = true)
    (n0 : PySem.W.findIn K (.ref c) "value" = some none) : XCl K c ∧ ∀ (P : Program) (w : World) (mg : Str → Option Value) (base : Heap), mg "InvalidItem" = some (.ref c) → Rz P w K mg base "InvalidItem" "value" c := by
  have X : XCl K c := ⟨⟨_, _, _, _, PySem.F.excBase_ValueError, PySem.F.store_ValueError, ii, ov⟩, sa, ga, gg, ca, ex, ob, hd, kp⟩
  refine ⟨X, fun P w mg base gm => ?_⟩
  have F := fun_mk (st := sI_InvalidItem) li ci ki
  refine ⟨gm, ty, fI, _, ⟨X, ini, tf⟩, ?_, xb_mk F (fun r _ => r) fun _ _ _ _ _ _ b us ws hl => match us, hl with | [_], _ => rfl⟩
  refine F.ok scI_InvalidItem (fun vs H Q E h => ?_) (fun cdv A outer s H vs Q E hr h => ?_)
  · obtain ⟨a, v, rfl, _⟩ := h
    rfl
  · obtain ⟨a, v, rfl, ha, q⟩ := h
    exact ⟨_, pss_one (ps_xs (pv 0) (pv 1)), v, rfl, .ref a, rfl, a, c, rfl, X, n0, .inl ⟨ha, fun dx n ne => q dx n ne⟩⟩
abbrev sI_InvalidRelink : Stmt := inClass (top 5) 0
theorem scI_InvalidRelink : FnScope ["self", "value"] ["self", "value"] (defScope sI_InvalidRelink) := ⟨rfl, rfl, rfl, by decide +kernel, rfl, by decide +kernel, by decide +kernel⟩
theorem raw_InvalidRelink {K : PySem.W.Frag} {c fI : Addr} {od an : Option Addr} {sl : Array (Option Value)} {oc kV dc pm cdv ct : Value}
    (ii : PySem.W.excInitIn K c [.type "ValueError", .type "Exception", .type "BaseException", .type "object"] "ValueError.__new__" = true) (ov : PySem.W.excOver K c [.type "ValueError", .type "Exception", .type "BaseException", .type "object"] = true) (sa : PySem.W.findIn K (.ref c) "__setattr__" = some (some (.builtin "object.__setattr__")))
    (ga : PySem.W.findIn K (.ref c) "__getattribute__" = some (some (.builtin "BaseException.__getattribute__"))) (gg : PySem.W.findIn K (.ref c) "__getattr__" = some none) (ca : PySem.W.findIn K (.ref c) "__class__" = some (some (.builtin "object.__class__")))
    (ex : PySem.W.subIn K (.ref c) (.type "BaseException") = some true) (ob : PySem.W.mroIn K c (.type "object") = some true) (hd : PySem.W.hasDictIn K c = true) (kp : PySem.W.keepIn K (.ref c) = true)
    (ty : PySem.W.typeIn K (.ref c) = some (.type "type")) (ini : PySem.W.findIn K (.ref c) "__init__" = some (some (.ref fI))) (tf : PySem.W.typeIn K (.ref fI) = some (.type "function"))
    (li : K.lookup fI = some ⟨oc, od, .func (PySem.W.fnOf "__init__" "InvalidRelink.__init__" (defArgs sI_InvalidRelink) (defBody sI_InvalidRelink) (defScope sI_InvalidRelink) .none kV dc pm an cdv ct), sl⟩) (ci : PySem.W.codeIn K cdv "InvalidRelink.__init__" = true) (ki : PySem.W.keepIn K (.ref fI) = true)
    (n0 : PySem.W.findIn K (.ref c) "value" = some none) : XCl K c ∧ ∀ (P : Program) (w : World) (mg : Str → Option Value) (base : Heap), mg "InvalidRelink" = some (.ref c) → Rz P w K mg base "InvalidRelink" "value" c := by
  have X : XCl K c := ⟨⟨_, _, _, _, PySem.F.excBase_ValueError, PySem.F.store_ValueError, ii, ov⟩, sa, ga, gg, ca, ex, ob, hd, kp⟩
  refine ⟨X, fun P w mg base gm => ?_⟩
  have F := fun_mk (st := sI_InvalidRelink) li ci ki
  refine ⟨gm, ty, fI, _, ⟨X, ini, tf⟩, ?_, xb_mk F (fun r _ => r) fun _ _ _ _ _ _ b us ws hl => match us, hl with | [_], _ => rfl⟩
  refine F.ok scI_InvalidRelink (fun vs H Q E h => ?_) (fun cdv A outer s H vs Q E hr h => ?_)
  · obtain ⟨a, v, rfl, _⟩ := h
    rfl
  · obtain ⟨a, v, rfl, ha, q⟩ := h
    exact ⟨_, pss_one (ps_xs (pv 0) (pv 1)), v, rfl, .ref a, rfl, a, c, rfl, X, n0, .inl ⟨ha, fun dx n ne => q dx n ne⟩⟩
abbrev sI_NameTaken : Stmt := inClass (top 13) 0
theorem scI_NameTaken : FnScope ["self", "value"] ["self", "value"] (defScope sI_NameTaken) := ⟨rfl, rfl, rfl, by decide +kernel, rfl, by decide +kernel, by decide +kernel⟩
theorem raw_NameTaken {K : PySem.W.Frag} {c fI : Addr} {od an : Option Addr} {sl : Array (Option Value)} {oc kV dc pm cdv ct : Value}
    (ii : PySem.W.excInitIn K c [.type "RuntimeError", .type "Exception", .type "BaseException", .type "object"] "RuntimeError.__new__" = true) (ov : PySem.W.excOver K c [.type "RuntimeError", .type "Exception", .type "BaseException", .type "object"] = true) (sa : PySem.W.findIn K (.ref c) "__setattr__" = some (some (.builtin "object.__setattr__")))
    (ga : PySem.W.findIn K (.ref c) "__getattribute__" = some (some (.builtin "BaseException.__getattribute__"))) (gg : PySem.W.findIn K (.ref c) "__getattr__" = some none) (ca : PySem.W.findIn K (.ref c) "__class__" = some (some (.builtin "object.__class__")))
    (ex : PySem.W.subIn K (.ref c) (.type "BaseException") = some true) (ob : PySem.W.mroIn K c (.type "object") = some true) (hd : PySem.W.hasDictIn K c = true) (kp : PySem.W.keepIn K (.ref c) = true)
    (ty : PySem.W.typeIn K (.ref c) = some (.type "type")) (ini : PySem.W.findIn K (.ref c) "__init__" = some (some (.ref fI))) (tf : PySem.W.typeIn K (.ref fI) = some (.type "function"))
    (li : K.lookup fI = some ⟨oc, od, .func (PySem.W.fnOf "__init__" "NameTaken.__init__" (defArgs sI_NameTaken) (defBody sI_NameTaken) (defScope sI_NameTaken) .none kV dc pm an cdv ct), sl⟩) (ci : PySem.W.codeIn K cdv "NameTaken.__init__" = true) (ki : PySem.W.keepIn K (.ref fI) = true)
    (n0 : PySem.W.findIn K (.ref c) "value" = some none) : XCl K c ∧ ∀ (P : Program) (w : World) (mg : Str → Option Value) (base : Heap), mg "NameTaken" = some (.ref c) → Rz P w K mg base "NameTaken" "value" c := by
  have X : XCl K c := ⟨⟨_, _, _, _, PySem.F.excBase_RuntimeError, PySem.F.store_RuntimeError, ii, ov⟩, sa, ga, gg, ca, ex, ob, hd, kp⟩
  refine ⟨X, fun P w mg base gm => ?_⟩
  have F := fun_mk (st := sI_NameTaken) li ci ki
  refine ⟨gm, ty, fI, _, ⟨X, ini, tf⟩, ?_, xb_mk F (fun r _ => r) fun _ _ _ _ _ _ b us ws hl => match us, hl with | [_], _ => rfl⟩
  refine F.ok scI_NameTaken (fun vs H Q E h => ?_) (fun cdv A outer s H vs Q E hr h => ?_)
  · obtain ⟨a, v, rfl, _⟩ := h
    rfl
  · obtain ⟨a, v, rfl, ha, q⟩ := h
    exact ⟨_, pss_one (ps_xs (pv 0) (pv 1)), v, rfl, .ref a, rfl, a, c, rfl, X, n0, .inl ⟨ha, fun dx n ne => q dx n ne⟩⟩
abbrev sI_Busy : Stmt := inClass (top 10) 0
theorem scI_Busy : FnScope ["self", "host"] ["self", "host"] (defScope sI_Busy) := ⟨rfl, rfl, rfl, by decide +kernel, rfl, by decide +kernel, by decide +kernel⟩
theorem raw_Busy {K : PySem.W.Frag} {c fI : Addr} {od an : Option Addr} {sl : Array (Option Value)} {oc kV dc pm cdv ct : Value}
    (ii : PySem.W.excInitIn K c [.type "RuntimeError", .type "Exception", .type "BaseException", .type "object"] "RuntimeError.__new__" = true) (ov : PySem.W.excOver K c [.type "RuntimeError", .type "Exception", .type "BaseException", .type "object"] = true) (sa : PySem.W.findIn K (.ref c) "__setattr__" = some (some (.builtin "object.__setattr__")))
    (ga : PySem.W.findIn K (.ref c) "__getattribute__" = some (some (.builtin "BaseException.__getattribute__"))) (gg : PySem.W.findIn K (.ref c) "__getattr__" = some none) (ca : PySem.W.findIn K (.ref c) "__class__" = some (some (.builtin "object.__class__")))
    (ex : PySem.W.subIn K (.ref c) (.type "BaseException") = some true) (ob : PySem.W.mroIn K c (.type "object") = some true) (hd : PySem.W.hasDictIn K c = true) (kp : PySem.W.keepIn K (.ref c) = true)
    (ty : PySem.W.typeIn K (.ref c) = some (.type "type")) (ini : PySem.W.findIn K (.ref c) "__init__" = some (some (.ref fI))) (tf : PySem.W.typeIn K (.ref fI) = some (.type "function"))
    (li : K.lookup fI = some ⟨oc, od, .func (PySem.W.fnOf "__init__" "Busy.__init__" (defArgs sI_Busy) (defBody sI_Busy) (defScope sI_Busy) .none kV dc pm an cdv ct), sl⟩) (ci : PySem.W.codeIn K cdv "Busy.__init__" = true) (ki : PySem.W.keepIn K (.ref fI) = true)
    (n0 : PySem.W.findIn K (.ref c) "host" = some none) : XCl K c ∧ ∀ (P : Program) (w : World) (mg : Str → Option Value) (base : Heap), mg "Busy" = some (.ref c) → Rz P w K mg base "Busy" "host" c := by
  have X : XCl K c := ⟨⟨_, _, _, _, PySem.F.excBase_RuntimeError, PySem.F.store_RuntimeError, ii, ov⟩, sa, ga, gg, ca, ex, ob, hd, kp⟩
  refine ⟨X, fun P w mg base gm => ?_⟩
  have F := fun_mk (st := sI_Busy) li ci ki
  refine ⟨gm, ty, fI, _, ⟨X, ini, tf⟩, ?_, xb_mk F (fun r _ => r) fun _ _ _ _ _ _ b us ws hl => match us, hl with | [_], _ => rfl⟩
  refine F.ok scI_Busy (fun vs H Q E h => ?_) (fun cdv A outer s H vs Q E hr h => ?_)
  · obtain ⟨a, v, rfl, _⟩ := h
    rfl
  · obtain ⟨a, v, rfl, ha, q⟩ := h
    exact ⟨_, pss_one (ps_xs (pv 0) (pv 1)), v, rfl, .ref a, rfl, a, c, rfl, X, n0, .inl ⟨ha, fun dx n ne => q dx n ne⟩⟩
abbrev sI_NotALeaf : Stmt := inClass (top 12) 0
theorem scI_NotALeaf : FnScope ["self", "host"] ["self", "host"] (defScope sI_NotALeaf) := ⟨rfl, rfl, rfl, by decide +kernel, rfl, by decide +kernel, by decide +kernel⟩
theorem raw_NotALeaf {K : PySem.W.Frag} {c fI : Addr} {od an : Option Addr} {sl : Array (Option Value)} {oc kV dc pm cdv ct : Value}
    (ii : PySem.W.excInitIn K c [.type "RuntimeError", .type "Exception", .type "BaseException", .type "object"] "RuntimeError.__new__" = true) (ov : PySem.W.excOver K c [.type "RuntimeError", .type "Exception", .type "BaseException", .type "object"] = true) (sa : PySem.W.findIn K (.ref c) "__setattr__" = some (some (.builtin "object.__setattr__")))
    (ga : PySem.W.findIn K (.ref c) "__getattribute__" = some (some (.builtin "BaseException.__getattribute__"))) (gg : PySem.W.findIn K (.ref c) "__getattr__" = some none) (ca : PySem.W.findIn K (.ref c) "__class__" = some (some (.builtin "object.__class__")))
    (ex : PySem.W.subIn K (.ref c) (.type "BaseException") = some true) (ob : PySem.W.mroIn K c (.type "object") = some true) (hd : PySem.W.hasDictIn K c = true) (kp : PySem.W.keepIn K (.ref c) = true)
    (ty : PySem.W.typeIn K (.ref c) = some (.type "type")) (ini : PySem.W.findIn K (.ref c) "__init__" = some (some (.ref fI))) (tf : PySem.W.typeIn K (.ref fI) = some (.type "function"))
    (li : K.lookup fI = some ⟨oc, od, .func (PySem.W.fnOf "__init__" "NotALeaf.__init__" (defArgs sI_NotALeaf) (defBody sI_NotALeaf) (defScope sI_NotALeaf) .none kV dc pm an cdv ct), sl⟩) (ci : PySem.W.codeIn K cdv "NotALeaf.__init__" = true) (ki : PySem.W.keepIn K (.ref fI) = true)
    (n0 : PySem.W.findIn K (.ref c) "host" = some none) : XCl K c ∧ ∀ (P : Program) (w : World) (mg : Str → Option Value) (base : Heap), mg "NotALeaf" = some (.ref c) → Rz P w K mg base "NotALeaf" "host" c := by
  have X : XCl K c := ⟨⟨_, _, _, _, PySem.F.excBase_RuntimeError, PySem.F.store_RuntimeError, ii, ov⟩, sa, ga, gg, ca, ex, ob, hd, kp⟩
  refine ⟨X, fun P w mg base gm => ?_⟩
  have F := fun_mk (st := sI_NotALeaf) li ci ki
  refine ⟨gm, ty, fI, _, ⟨X, ini, tf⟩, ?_, xb_mk F (fun r _ => r) fun _ _ _ _ _ _ b us ws hl => match us, hl with | [_], _ => rfl⟩
  refine F.ok scI_NotALeaf (fun vs H Q E h => ?_) (fun cdv A outer s H vs Q E hr h => ?_)
  · obtain ⟨a, v, rfl, _⟩ := h
    rfl
  · obtain ⟨a, v, rfl, ha, q⟩ := h
    exact ⟨_, pss_one (ps_xs (pv 0) (pv 1)), v, rfl, .ref a, rfl, a, c, rfl, X, n0, .inl ⟨ha, fun dx n ne => q dx n ne⟩⟩
abbrev sI_NotLinked : Stmt := inClass (top 11) 0
theorem scI_NotLinked : FnScope ["self", "host", "other"] ["self", "host", "other"] (defScope sI_NotLinked) := ⟨rfl, rfl, rfl, by decide +kernel, rfl, by decide +kernel, by decide +kernel⟩
theorem raw_NotLinked {K : PySem.W.Frag} {c fI : Addr} {od an : Option Addr} {sl : Array (Option Value)} {oc kV dc pm cdv ct : Value}
    (ii : PySem.W.excInitIn K c [.type "RuntimeError", .type "Exception", .type "BaseException", .type "object"] "RuntimeError.__new__" = true) (ov : PySem.W.excOver K c [.type "RuntimeError", .type "Exception", .type "BaseException", .type "object"] = true) (sa : PySem.W.findIn K (.ref c) "__setattr__" = some (some (.builtin "object.__setattr__")))
    (ga : PySem.W.findIn K (.ref c) "__getattribute__" = some (some (.builtin "BaseException.__getattribute__"))) (gg : PySem.W.findIn K (.ref c) "__getattr__" = some none) (ca : PySem.W.findIn K (.ref c) "__class__" = some (some (.builtin "object.__class__")))
    (ex : PySem.W.subIn K (.ref c) (.type "BaseException") = some true) (ob : PySem.W.mroIn K c (.type "object") = some true) (hd : PySem.W.hasDictIn K c = true) (kp : PySem.W.keepIn K (.ref c) = true)
    (ty : PySem.W.typeIn K (.ref c) = some (.type "type")) (ini : PySem.W.findIn K (.ref c) "__init__" = some (some (.ref fI))) (tf : PySem.W.typeIn K (.ref fI) = some (.type "function"))
    (li : K.lookup fI = some ⟨oc, od, .func (PySem.W.fnOf "__init__" "NotLinked.__init__" (defArgs sI_NotLinked) (defBody sI_NotLinked) (defScope sI_NotLinked) .none kV dc pm an cdv ct), sl⟩) (ci : PySem.W.codeIn K cdv "NotLinked.__init__" = true) (ki : PySem.W.keepIn K (.ref fI) = true)
    (n0 : PySem.W.findIn K (.ref c) "host" = some none) (n1 : PySem.W.findIn K (.ref c) "other" = some none) : XCl K c ∧ ∀ (P : Program) (w : World) (mg : Str → Option Value) (base : Heap), mg "NotLinked" = some (.ref c) → Rz2 P w K mg base "NotLinked" "host" "other" c := by
  have X : XCl K c := ⟨⟨_, _, _, _, PySem.F.excBase_RuntimeError, PySem.F.store_RuntimeError, ii, ov⟩, sa, ga, gg, ca, ex, ob, hd, kp⟩
  refine ⟨X, fun P w mg base gm => ?_⟩
  have F := fun_mk (st := sI_NotLinked) li ci ki
  refine ⟨gm, ty, fI, _, ⟨X, ini, tf⟩, ?_, xb_mk F (fun r _ => r) fun _ _ _ _ _ _ b us ws hl => match us, hl with | [_, _], _ => rfl⟩
  refine F.ok scI_NotLinked (fun vs H Q E h => ?_) (fun cdv A outer s H vs Q E hr h => ?_)
  · obtain ⟨a, v1, v2, rfl, _⟩ := h
    rfl
  · obtain ⟨a, v1, v2, rfl, ha, q⟩ := h
    exact ⟨_, pss_cons (ps_xs (pv 0) (pv 1)) (pss_one (ps_xs (pv 0) (pv 2))), v1, rfl, .ref a, rfl, a, c, rfl, X, n0, .inl ⟨ha, fun dx n ne => ⟨v2, rfl, .ref a, rfl, a, c, rfl, X, n1, .inr ⟨dx, _, upd_same, (upd_ne ne).trans upd_same, (by show 1 ≤ 900; decide), q dx n ne⟩⟩⟩⟩
abbrev sI_UnknownHost : Stmt := inClass (top 8) 0
theorem scI_UnknownHost : FnScope ["self", "host"] ["self", "host"] (defScope sI_UnknownHost) := ⟨rfl, rfl, rfl, by decide +kernel, rfl, by decide +kernel, by decide +kernel⟩
theorem raw_UnknownHost {K : PySem.W.Frag} {c fI : Addr} {od an : Option Addr} {sl : Array (Option Value)} {oc kV dc pm cdv ct : Value}
    (ii : PySem.W.excInitIn K c [.type "LookupError", .type "Exception", .type "BaseException", .type "object"] "LookupError.__new__" = true) (ov : PySem.W.excOver K c [.type "LookupError", .type "Exception", .type "BaseException", .type "object"] = true) (sa : PySem.W.findIn K (.ref c) "__setattr__" = some (some (.builtin "object.__setattr__")))
    (ga : PySem.W.findIn K (.ref c) "__getattribute__" = some (some (.builtin "BaseException.__getattribute__"))) (gg : PySem.W.findIn K (.ref c) "__getattr__" = some none) (ca : PySem.W.findIn K (.ref c) "__class__" = some (some (.builtin "object.__class__")))
    (ex : PySem.W.subIn K (.ref c) (.type "BaseException") = some true) (ob : PySem.W.mroIn K c (.type "object") = some true) (hd : PySem.W.hasDictIn K c = true) (kp : PySem.W.keepIn K (.ref c) = true)
    (ty : PySem.W.typeIn K (.ref c) = some (.type "type")) (ini : PySem.W.findIn K (.ref c) "__init__" = some (some (.ref fI))) (tf : PySem.W.typeIn K (.ref fI) = some (.type "function"))
    (li : K.lookup fI = some ⟨oc, od, .func (PySem.W.fnOf "__init__" "UnknownHost.__init__" (defArgs sI_UnknownHost) (defBody sI_UnknownHost) (defScope sI_UnknownHost) .none kV dc pm an cdv ct), sl⟩) (ci : PySem.W.codeIn K cdv "UnknownHost.__init__" = true) (ki : PySem.W.keepIn K (.ref fI) = true)
    (n0 : PySem.W.findIn K (.ref c) "host" = some none) : XCl K c ∧ ∀ (P : Program) (w : World) (mg : Str → Option Value) (base : Heap), mg "UnknownHost" = some (.ref c) → Rz P w K mg base "UnknownHost" "host" c := by
  have X : XCl K c := ⟨⟨_, _, _, _, PySem.F.excBase_LookupError, PySem.F.store_LookupError, ii, ov⟩, sa, ga, gg, ca, ex, ob, hd, kp⟩
  refine ⟨X, fun P w mg base gm => ?_⟩
  have F := fun_mk (st := sI_UnknownHost) li ci ki
  refine ⟨gm, ty, fI, _, ⟨X, ini, tf⟩, ?_, xb_mk F (fun r _ => r) fun _ _ _ _ _ _ b us ws hl => match us, hl with | [_], _ => rfl⟩
  refine F.ok scI_UnknownHost (fun vs H Q E h => ?_) (fun cdv A outer s H vs Q E hr h => ?_)
  · obtain ⟨a, v, rfl, _⟩ := h
    rfl
  · obtain ⟨a, v, rfl, ha, q⟩ := h
    exact ⟨_, pss_one (ps_xs (pv 0) (pv 1)), v, rfl, .ref a, rfl, a, c, rfl, X, n0, .inl ⟨ha, fun dx n ne => q dx n ne⟩⟩
theorem exm_of {K : PySem.W.Frag} {C D : Addr} {cd : ClassData} {b : Bool} (bP : PySem.W.subIn K (.ref D) (.type "BaseException") = some true) (cl : PySem.W.clsIn K D = some cd) (ty : PySem.W.typeIn K (.ref D) = some (.type "type")) (ss : PySem.W.subIn K (.ref C) (.ref D) = some b) : PySem.W.exmOne K (.ref C) (.ref D) = some b := by
  unfold PySem.W.exmOne
  rw [bP, if_pos (by rfl)]
  show (if ((PySem.W.clsIn K D).isSome && PySem.W.typeIn K (.ref D) == some (.type "type")) = true then PySem.W.subIn K (.ref C) (.ref D) else none) = _
  rw [cl, ty, if_pos (by rfl)]
  exact ss
theorem kit_bt {K : PySem.W.Frag} {C : Addr} {T : String} {b : Bool} (m : PySem.W.kitMeta T = true) (sb : PySem.W.subIn K (.ref C) (.type T) = some b) : PySem.W.kitOne K (.ref C) (.type T) = some b := by
  unfold PySem.W.kitOne
  rw [if_neg (show ¬ ((Value.ref C == Value.type T) = true) from fun z => Value.noConfusion (beq_iff_eq.mp z))]
  show (if PySem.W.kitMeta T = true then PySem.W.subIn K (.ref C) (.type T) else none) = _
  rw [if_pos m]
  exact sb
theorem kit_sub {K : PySem.W.Frag} {C D : Addr} {cd : ClassData} {b : Bool} (ne : C ≠ D) (cl : PySem.W.clsIn K D = some cd) (ty : PySem.W.typeIn K (.ref D) = some (.type "type")) (sb : PySem.W.subIn K (.ref C) (.ref D) = some b) : PySem.W.kitOne K (.ref C) (.ref D) = some b := by
  unfold PySem.W.kitOne
  rw [if_neg (fun z => ne (Value.ref.inj (beq_iff_eq.mp z)))]
  show (if ((PySem.W.clsIn K D).isSome && PySem.W.typeIn K (.ref D) == some (.type "type")) = true then PySem.W.subIn K (.ref C) (.ref D) else none) = _
  rw [cl, ty, if_pos (by rfl)]
  exact sb
theorem kit_self {K : PySem.W.Frag} {C : Addr} : PySem.W.kitOne K (.ref C) (.ref C) = some true := by
  unfold PySem.W.kitOne
  rw [if_pos (beq_self_eq_true _)]
theorem sev {W N I R T B L : Addr} {Q : Nat → Addr → Prop} (h0 : Q 0 W) (h1 : Q 1 N) (h2 : Q 2 I) (h3 : Q 3 R) (h4 : Q 4 T) (h5 : Q 5 B) (h6 : Q 6 L) : ∀ (m : Nat) (C : Addr), [W, N, I, R, T, B, L][m]? = some C → Q m C := fun m C e => by
  match m, e with
  | 0, e => injection e with e; subst e; exact h0
  | 1, e => injection e with e; subst e; exact h1
  | 2, e => injection e with e; subst e; exact h2
  | 3, e => injection e with e; subst e; exact h3
  | 4, e => injection e with e; subst e; exact h4
  | 5, e => injection e with e; subst e; exact h5
  | 6, e => injection e with e; subst e; exact h6
  | n + 7, e => simp at e
theorem kit_six {K : PySem.W.Frag} {C x1 x2 x3 x4 x5 x6 : Value} (h1 : PySem.W.kitOne K C x1 = some false) (h2 : PySem.W.kitOne K C x2 = some false) (h3 : PySem.W.kitOne K C x3 = some false) (h4 : PySem.W.kitOne K C x4 = some false) (h5 : PySem.W.kitOne K C x5 = some false) (h6 : PySem.W.kitOne K C x6 = some false) :
    PySem.W.kitAny K C [x1, x2, x3, x4, x5, x6] = some false := by
  simp only [PySem.W.kitAny, h1, h2, h3, h4, h5, h6]
theorem exm_four {K : PySem.W.Frag} {C x1 x2 x3 x4 : Value} {b1 b2 b3 b4 : Bool} (h1 : PySem.W.exmOne K C x1 = some b1) (h2 : PySem.W.exmOne K C x2 = some b2) (h3 : PySem.W.exmOne K C x3 = some b3) (h4 : PySem.W.exmOne K C x4 = some b4) :
    PySem.W.exmAny K C [x1, x2, x3, x4] = some (b1 || (b2 || (b3 || (b4 || false)))) := by
  simp only [PySem.W.exmAny, h1, h2, h3, h4]
theorem exm_two {K : PySem.W.Frag} {C x1 x2 : Value} {b1 b2 : Bool} (h1 : PySem.W.exmOne K C x1 = some b1) (h2 : PySem.W.exmOne K C x2 = some b2) :
    PySem.W.exmAny K C [x1, x2] = some (b1 || (b2 || false)) := by
  simp only [PySem.W.exmAny, h1, h2]
/-- the table that a code object names -/
def codeTab (o : Obj) : Option Addr := match o.data with
  | .fields vs => (match (vs[11]? : Option Value) with
    | some (.ref P) => some P
    | _ => none)
  | _ => none
/-- the def that makes lambdas: its table -/
def TT (P1 : Addr) : List (Addr × Str) := [(P1, (("_law_right" : Str) ++ ".<locals>.") ++ "<lambda>")]
theorem tt_1 {P1 : Addr} : (P1, (("_law_right" : Str) ++ ".<locals>.") ++ "<lambda>") ∈ TT P1 := List.mem_cons_self
theorem tu_1 {P1 : Addr} : ∀ p ∈ TT P1, p.1 = P1 → p.2 = (("_law_right" : Str) ++ ".<locals>.") ++ "<lambda>" := fun p hp e => by
  unfold TT at hp
  rw [List.mem_singleton.mp hp]
theorem tt_tabs {c1 P1 : Addr} {H : Hp} (h : ∀ p ∈ ([(c1, P1)] : List (Addr × Addr)), H p.2 = some (.tbl #[])) : LamX.Tabs (TT P1) H := fun p hp => by
  unfold TT at hp
  rw [List.mem_singleton.mp hp]
  exact LamX.TabS.nil (h (c1, P1) List.mem_cons_self)
theorem one_of' {α : Type} {p : α → Prop} {a : α} (h1 : p a) : ∀ x ∈ [a], p x := fun x hx => by
  rw [List.mem_singleton.mp hx]
  exact h1
theorem all_mk {l : PySem.W.OpenLaw} {w : World} {K : PySem.W.Frag} {h : Heap} {mg : Str → Option Value} {fa f_is_integer_from f_is_index f_is_text_of f_is_host_name f_is_word f_is_relink_path f_is_cut_of f_is_relink f_check_relink f_position f_end_bit f_forward_bit f_forwards f_are_message_parts f_is_control_kind f_is_item f_check_item f_law_pot f_law_draw f_law_choose f_law_name f_law_kind f_law_told f_law_odd f_law_odd_item f_law_shown f_law_valid_right f_law_right f_law c_InvalidWord c_InvalidName c_InvalidItem c_InvalidRelink c_NameTaken c_Busy c_NotALeaf c_NotLinked c_UnknownHost : Addr} {ck c1 P1 : Addr} {o_ck o_c1 : Obj} {c_Host : Addr} {fTm_init : Addr} {odTm_init anTm_init : Option Addr} {slTm_init : Array (Option Value)} {ocTm_init kVTm_init dcTm_init pmTm_init cdTm_init ctTm_init : Value} {fTm_name : Addr} {odTm_name anTm_name : Option Addr} {slTm_name : Array (Option Value)} {ocTm_name kVTm_name dcTm_name pmTm_name cdTm_name ctTm_name : Value} {fTm_log : Addr} {odTm_log anTm_log : Option Addr} {slTm_log : Array (Option Value)} {ocTm_log kVTm_log dcTm_log pmTm_log cdTm_log ctTm_log : Value} {fTm_links : Addr} {odTm_links anTm_links : Option Addr} {slTm_links : Array (Option Value)} {ocTm_links kVTm_links dcTm_links pmTm_links cdTm_links ctTm_links : Value} {fTm_answers : Addr} {odTm_answers anTm_answers : Option Addr} {slTm_answers : Array (Option Value)} {ocTm_answers kVTm_answers dcTm_answers pmTm_answers cdTm_answers ctTm_answers : Value} {fTm_relink : Addr} {odTm_relink anTm_relink : Option Addr} {slTm_relink : Array (Option Value)} {ocTm_relink kVTm_relink dcTm_relink pmTm_relink cdTm_relink ctTm_relink : Value} {fTm_phase : Addr} {odTm_phase anTm_phase : Option Addr} {slTm_phase : Array (Option Value)} {ocTm_phase kVTm_phase dcTm_phase pmTm_phase cdTm_phase ctTm_phase : Value} {fTm_queue : Addr} {odTm_queue anTm_queue : Option Addr} {slTm_queue : Array (Option Value)} {ocTm_queue kVTm_queue dcTm_queue pmTm_queue cdTm_queue ctTm_queue : Value} {fTm_write : Addr} {odTm_write anTm_write : Option Addr} {slTm_write : Array (Option Value)} {ocTm_write kVTm_write dcTm_write pmTm_write cdTm_write ctTm_write : Value} {fTm_ask : Addr} {odTm_ask anTm_ask : Option Addr} {slTm_ask : Array (Option Value)} {ocTm_ask kVTm_ask dcTm_ask pmTm_ask cdTm_ask ctTm_ask : Value} {fTm_receive : Addr} {odTm_receive anTm_receive : Option Addr} {slTm_receive : Array (Option Value)} {ocTm_receive kVTm_receive dcTm_receive pmTm_receive cdTm_receive ctTm_receive : Value} {fTm_add_link : Addr} {odTm_add_link anTm_add_link : Option Addr} {slTm_add_link : Array (Option Value)} {ocTm_add_link kVTm_add_link dcTm_add_link pmTm_add_link cdTm_add_link ctTm_add_link : Value} {fTm_leave : Addr} {odTm_leave anTm_leave : Option Addr} {slTm_leave : Array (Option Value)} {ocTm_leave kVTm_leave dcTm_leave pmTm_leave cdTm_leave ctTm_leave : Value} {fTm_copied : Addr} {odTm_copied anTm_copied : Option Addr} {slTm_copied : Array (Option Value)} {ocTm_copied kVTm_copied dcTm_copied pmTm_copied cdTm_copied ctTm_copied : Value} {fTm_check_free : Addr} {odTm_check_free anTm_check_free : Option Addr} {slTm_check_free : Array (Option Value)} {ocTm_check_free kVTm_check_free dcTm_check_free pmTm_check_free cdTm_check_free ctTm_check_free : Value} {fTm_join_to : Addr} {odTm_join_to anTm_join_to : Option Addr} {slTm_join_to : Array (Option Value)} {ocTm_join_to kVTm_join_to dcTm_join_to pmTm_join_to cdTm_join_to ctTm_join_to : Value} {fTm_log_and_forward : Addr} {odTm_log_and_forward anTm_log_and_forward : Option Addr} {slTm_log_and_forward : Array (Option Value)} {ocTm_log_and_forward kVTm_log_and_forward dcTm_log_and_forward pmTm_log_and_forward cdTm_log_and_forward ctTm_log_and_forward : Value} {TTm_log_and_forward : Addr} {oTTm_log_and_forward : Obj} {fTm_accept : Addr} {odTm_accept anTm_accept : Option Addr} {slTm_accept : Array (Option Value)} {ocTm_accept kVTm_accept dcTm_accept pmTm_accept cdTm_accept ctTm_accept : Value} {cd_W : ClassData} {cd_N : ClassData} {cd_I : ClassData} {cd_R : ClassData} {cd_T : ClassData} {cd_B : ClassData} {cd_L : ClassData} {c_EmptyChannel : Addr} {cd_a : ClassData} {c_InvalidStep : Addr} {cd_b : ClassData} {c_InvalidTree : Addr} {cd_c : ClassData} {cd_D : ClassData} {c_TooMany : Addr} {cd_d : ClassData} {cd_U : ClassData} {c_RelinkTreeError : Addr} {cd_E : ClassData} (X : K.In h) (G : h.Ns mainGlobals mg) (hfa : mg "law" = some (.ref fa))
    {od_is_integer_from od_is_index od_is_text_of od_is_host_name od_is_word od_is_relink_path od_is_cut_of od_is_relink od_check_relink od_position od_end_bit od_forward_bit od_forwards od_are_message_parts od_is_control_kind od_is_item od_check_item od_law_pot od_law_draw od_law_choose od_law_name od_law_kind od_law_told od_law_odd od_law_odd_item od_law_shown od_law_valid_right od_law_right od_law an_is_integer_from an_is_index an_is_text_of an_is_host_name an_is_word an_is_relink_path an_is_cut_of an_is_relink an_check_relink an_position an_end_bit an_forward_bit an_forwards an_are_message_parts an_is_control_kind an_is_item an_check_item an_law_pot an_law_draw an_law_choose an_law_name an_law_kind an_law_told an_law_odd an_law_odd_item an_law_shown an_law_valid_right an_law_right an_law : Option Addr} {sl_is_integer_from sl_is_index sl_is_text_of sl_is_host_name sl_is_word sl_is_relink_path sl_is_cut_of sl_is_relink sl_check_relink sl_position sl_end_bit sl_forward_bit sl_forwards sl_are_message_parts sl_is_control_kind sl_is_item sl_check_item sl_law_pot sl_law_draw sl_law_choose sl_law_name sl_law_kind sl_law_told sl_law_odd sl_law_odd_item sl_law_shown sl_law_valid_right sl_law_right sl_law : Array (Option Value)} {oc_is_integer_from oc_is_index oc_is_text_of oc_is_host_name oc_is_word oc_is_relink_path oc_is_cut_of oc_is_relink oc_check_relink oc_position oc_end_bit oc_forward_bit oc_forwards oc_are_message_parts oc_is_control_kind oc_is_item oc_check_item oc_law_pot oc_law_draw oc_law_choose oc_law_name oc_law_kind oc_law_told oc_law_odd oc_law_odd_item oc_law_shown oc_law_valid_right oc_law_right oc_law kV_is_integer_from kV_is_index kV_is_text_of kV_is_host_name kV_is_word kV_is_relink_path kV_is_cut_of kV_is_relink kV_check_relink kV_position kV_end_bit kV_forward_bit kV_forwards kV_are_message_parts kV_is_control_kind kV_is_item kV_check_item kV_law_pot kV_law_draw kV_law_choose kV_law_name kV_law_kind kV_law_told kV_law_odd kV_law_odd_item kV_law_shown kV_law_valid_right kV_law_right kV_law dc_is_integer_from dc_is_index dc_is_text_of dc_is_host_name dc_is_word dc_is_relink_path dc_is_cut_of dc_is_relink dc_check_relink dc_position dc_end_bit dc_forward_bit dc_forwards dc_are_message_parts dc_is_control_kind dc_is_item dc_check_item dc_law_pot dc_law_draw dc_law_choose dc_law_name dc_law_kind dc_law_told dc_law_odd dc_law_odd_item dc_law_shown dc_law_valid_right dc_law_right dc_law pm_is_integer_from pm_is_index pm_is_text_of pm_is_host_name pm_is_word pm_is_relink_path pm_is_cut_of pm_is_relink pm_check_relink pm_position pm_end_bit pm_forward_bit pm_forwards pm_are_message_parts pm_is_control_kind pm_is_item pm_check_item pm_law_pot pm_law_draw pm_law_choose pm_law_name pm_law_kind pm_law_told pm_law_odd pm_law_odd_item pm_law_shown pm_law_valid_right pm_law_right pm_law cd_is_integer_from cd_is_index cd_is_text_of cd_is_host_name cd_is_word cd_is_relink_path cd_is_cut_of cd_is_relink cd_check_relink cd_position cd_end_bit cd_forward_bit cd_forwards cd_are_message_parts cd_is_control_kind cd_is_item cd_check_item cd_law_pot cd_law_draw cd_law_choose cd_law_name cd_law_kind cd_law_told cd_law_odd cd_law_odd_item cd_law_shown cd_law_valid_right cd_law_right cd_law ct_is_integer_from ct_is_index ct_is_text_of ct_is_host_name ct_is_word ct_is_relink_path ct_is_cut_of ct_is_relink ct_check_relink ct_position ct_end_bit ct_forward_bit ct_forwards ct_are_message_parts ct_is_control_kind ct_is_item ct_check_item ct_law_pot ct_law_draw ct_law_choose ct_law_name ct_law_kind ct_law_told ct_law_odd ct_law_odd_item ct_law_shown ct_law_valid_right ct_law_right ct_law : Value}
    {t_LETTERS t_DIGITS t_LONGEST_NAME t_LONGEST_WORD t_SHORTEST_PATH t_MESSAGE t_BYE t_BITS : Tok}
    (a_is_integer_from : PySem.W.nsIn K mainGlobals "is_integer_from" = some (some (.ref f_is_integer_from))) (l_is_integer_from : K.lookup f_is_integer_from = some ⟨oc_is_integer_from, od_is_integer_from, .func (PySem.W.fnOf "is_integer_from" "is_integer_from" (defArgs s_is_integer_from) (defBody s_is_integer_from) (defScope s_is_integer_from) .none kV_is_integer_from dc_is_integer_from pm_is_integer_from an_is_integer_from cd_is_integer_from ct_is_integer_from), sl_is_integer_from⟩) (co_is_integer_from : PySem.W.codeIn K cd_is_integer_from "is_integer_from" = true) (k_is_integer_from : PySem.W.keepIn K (.ref f_is_integer_from) = true)
    (a_is_index : PySem.W.nsIn K mainGlobals "is_index" = some (some (.ref f_is_index))) (l_is_index : K.lookup f_is_index = some ⟨oc_is_index, od_is_index, .func (PySem.W.fnOf "is_index" "is_index" (defArgs s_is_index) (defBody s_is_index) (defScope s_is_index) .none kV_is_index dc_is_index pm_is_index an_is_index cd_is_index ct_is_index), sl_is_index⟩) (co_is_index : PySem.W.codeIn K cd_is_index "is_index" = true) (k_is_index : PySem.W.keepIn K (.ref f_is_index) = true)
    (a_is_text_of : PySem.W.nsIn K mainGlobals "is_text_of" = some (some (.ref f_is_text_of))) (l_is_text_of : K.lookup f_is_text_of = some ⟨oc_is_text_of, od_is_text_of, .func (PySem.W.fnOf "is_text_of" "is_text_of" (defArgs s_is_text_of) (defBody s_is_text_of) (defScope s_is_text_of) .none kV_is_text_of dc_is_text_of pm_is_text_of an_is_text_of cd_is_text_of ct_is_text_of), sl_is_text_of⟩) (co_is_text_of : PySem.W.codeIn K cd_is_text_of "is_text_of" = true) (k_is_text_of : PySem.W.keepIn K (.ref f_is_text_of) = true)
    (a_is_host_name : PySem.W.nsIn K mainGlobals "is_host_name" = some (some (.ref f_is_host_name))) (l_is_host_name : K.lookup f_is_host_name = some ⟨oc_is_host_name, od_is_host_name, .func (PySem.W.fnOf "is_host_name" "is_host_name" (defArgs s_is_host_name) (defBody s_is_host_name) (defScope s_is_host_name) .none kV_is_host_name dc_is_host_name pm_is_host_name an_is_host_name cd_is_host_name ct_is_host_name), sl_is_host_name⟩) (co_is_host_name : PySem.W.codeIn K cd_is_host_name "is_host_name" = true) (k_is_host_name : PySem.W.keepIn K (.ref f_is_host_name) = true)
    (a_is_word : PySem.W.nsIn K mainGlobals "is_word" = some (some (.ref f_is_word))) (l_is_word : K.lookup f_is_word = some ⟨oc_is_word, od_is_word, .func (PySem.W.fnOf "is_word" "is_word" (defArgs s_is_word) (defBody s_is_word) (defScope s_is_word) .none kV_is_word dc_is_word pm_is_word an_is_word cd_is_word ct_is_word), sl_is_word⟩) (co_is_word : PySem.W.codeIn K cd_is_word "is_word" = true) (k_is_word : PySem.W.keepIn K (.ref f_is_word) = true)
    (a_is_relink_path : PySem.W.nsIn K mainGlobals "is_relink_path" = some (some (.ref f_is_relink_path))) (l_is_relink_path : K.lookup f_is_relink_path = some ⟨oc_is_relink_path, od_is_relink_path, .func (PySem.W.fnOf "is_relink_path" "is_relink_path" (defArgs s_is_relink_path) (defBody s_is_relink_path) (defScope s_is_relink_path) .none kV_is_relink_path dc_is_relink_path pm_is_relink_path an_is_relink_path cd_is_relink_path ct_is_relink_path), sl_is_relink_path⟩) (co_is_relink_path : PySem.W.codeIn K cd_is_relink_path "is_relink_path" = true) (k_is_relink_path : PySem.W.keepIn K (.ref f_is_relink_path) = true)
    (a_is_cut_of : PySem.W.nsIn K mainGlobals "is_cut_of" = some (some (.ref f_is_cut_of))) (l_is_cut_of : K.lookup f_is_cut_of = some ⟨oc_is_cut_of, od_is_cut_of, .func (PySem.W.fnOf "is_cut_of" "is_cut_of" (defArgs s_is_cut_of) (defBody s_is_cut_of) (defScope s_is_cut_of) .none kV_is_cut_of dc_is_cut_of pm_is_cut_of an_is_cut_of cd_is_cut_of ct_is_cut_of), sl_is_cut_of⟩) (co_is_cut_of : PySem.W.codeIn K cd_is_cut_of "is_cut_of" = true) (k_is_cut_of : PySem.W.keepIn K (.ref f_is_cut_of) = true)
    (a_is_relink : PySem.W.nsIn K mainGlobals "is_relink" = some (some (.ref f_is_relink))) (l_is_relink : K.lookup f_is_relink = some ⟨oc_is_relink, od_is_relink, .func (PySem.W.fnOf "is_relink" "is_relink" (defArgs s_is_relink) (defBody s_is_relink) (defScope s_is_relink) .none kV_is_relink dc_is_relink pm_is_relink an_is_relink cd_is_relink ct_is_relink), sl_is_relink⟩) (co_is_relink : PySem.W.codeIn K cd_is_relink "is_relink" = true) (k_is_relink : PySem.W.keepIn K (.ref f_is_relink) = true)
    (a_check_relink : PySem.W.nsIn K mainGlobals "check_relink" = some (some (.ref f_check_relink))) (l_check_relink : K.lookup f_check_relink = some ⟨oc_check_relink, od_check_relink, .func (PySem.W.fnOf "check_relink" "check_relink" (defArgs s_check_relink) (defBody s_check_relink) (defScope s_check_relink) .none kV_check_relink dc_check_relink pm_check_relink an_check_relink cd_check_relink ct_check_relink), sl_check_relink⟩) (co_check_relink : PySem.W.codeIn K cd_check_relink "check_relink" = true) (k_check_relink : PySem.W.keepIn K (.ref f_check_relink) = true)
    (a_position : PySem.W.nsIn K mainGlobals "position" = some (some (.ref f_position))) (l_position : K.lookup f_position = some ⟨oc_position, od_position, .func (PySem.W.fnOf "position" "position" (defArgs s_position) (defBody s_position) (defScope s_position) .none kV_position dc_position pm_position an_position cd_position ct_position), sl_position⟩) (co_position : PySem.W.codeIn K cd_position "position" = true) (k_position : PySem.W.keepIn K (.ref f_position) = true)
    (a_end_bit : PySem.W.nsIn K mainGlobals "end_bit" = some (some (.ref f_end_bit))) (l_end_bit : K.lookup f_end_bit = some ⟨oc_end_bit, od_end_bit, .func (PySem.W.fnOf "end_bit" "end_bit" (defArgs s_end_bit) (defBody s_end_bit) (defScope s_end_bit) .none kV_end_bit dc_end_bit pm_end_bit an_end_bit cd_end_bit ct_end_bit), sl_end_bit⟩) (co_end_bit : PySem.W.codeIn K cd_end_bit "end_bit" = true) (k_end_bit : PySem.W.keepIn K (.ref f_end_bit) = true)
    (a_forward_bit : PySem.W.nsIn K mainGlobals "forward_bit" = some (some (.ref f_forward_bit))) (l_forward_bit : K.lookup f_forward_bit = some ⟨oc_forward_bit, od_forward_bit, .func (PySem.W.fnOf "forward_bit" "forward_bit" (defArgs s_forward_bit) (defBody s_forward_bit) (defScope s_forward_bit) .none kV_forward_bit dc_forward_bit pm_forward_bit an_forward_bit cd_forward_bit ct_forward_bit), sl_forward_bit⟩) (co_forward_bit : PySem.W.codeIn K cd_forward_bit "forward_bit" = true) (k_forward_bit : PySem.W.keepIn K (.ref f_forward_bit) = true)
    (a_forwards : PySem.W.nsIn K mainGlobals "forwards" = some (some (.ref f_forwards))) (l_forwards : K.lookup f_forwards = some ⟨oc_forwards, od_forwards, .func (PySem.W.fnOf "forwards" "forwards" (defArgs s_forwards) (defBody s_forwards) (defScope s_forwards) .none kV_forwards dc_forwards pm_forwards an_forwards cd_forwards ct_forwards), sl_forwards⟩) (co_forwards : PySem.W.codeIn K cd_forwards "forwards" = true) (k_forwards : PySem.W.keepIn K (.ref f_forwards) = true)
    (a_are_message_parts : PySem.W.nsIn K mainGlobals "are_message_parts" = some (some (.ref f_are_message_parts))) (l_are_message_parts : K.lookup f_are_message_parts = some ⟨oc_are_message_parts, od_are_message_parts, .func (PySem.W.fnOf "are_message_parts" "are_message_parts" (defArgs s_are_message_parts) (defBody s_are_message_parts) (defScope s_are_message_parts) .none kV_are_message_parts dc_are_message_parts pm_are_message_parts an_are_message_parts cd_are_message_parts ct_are_message_parts), sl_are_message_parts⟩) (co_are_message_parts : PySem.W.codeIn K cd_are_message_parts "are_message_parts" = true) (k_are_message_parts : PySem.W.keepIn K (.ref f_are_message_parts) = true)
    (a_is_control_kind : PySem.W.nsIn K mainGlobals "is_control_kind" = some (some (.ref f_is_control_kind))) (l_is_control_kind : K.lookup f_is_control_kind = some ⟨oc_is_control_kind, od_is_control_kind, .func (PySem.W.fnOf "is_control_kind" "is_control_kind" (defArgs s_is_control_kind) (defBody s_is_control_kind) (defScope s_is_control_kind) .none kV_is_control_kind dc_is_control_kind pm_is_control_kind an_is_control_kind cd_is_control_kind ct_is_control_kind), sl_is_control_kind⟩) (co_is_control_kind : PySem.W.codeIn K cd_is_control_kind "is_control_kind" = true) (k_is_control_kind : PySem.W.keepIn K (.ref f_is_control_kind) = true)
    (a_is_item : PySem.W.nsIn K mainGlobals "is_item" = some (some (.ref f_is_item))) (l_is_item : K.lookup f_is_item = some ⟨oc_is_item, od_is_item, .func (PySem.W.fnOf "is_item" "is_item" (defArgs s_is_item) (defBody s_is_item) (defScope s_is_item) .none kV_is_item dc_is_item pm_is_item an_is_item cd_is_item ct_is_item), sl_is_item⟩) (co_is_item : PySem.W.codeIn K cd_is_item "is_item" = true) (k_is_item : PySem.W.keepIn K (.ref f_is_item) = true)
    (a_check_item : PySem.W.nsIn K mainGlobals "check_item" = some (some (.ref f_check_item))) (l_check_item : K.lookup f_check_item = some ⟨oc_check_item, od_check_item, .func (PySem.W.fnOf "check_item" "check_item" (defArgs s_check_item) (defBody s_check_item) (defScope s_check_item) .none kV_check_item dc_check_item pm_check_item an_check_item cd_check_item ct_check_item), sl_check_item⟩) (co_check_item : PySem.W.codeIn K cd_check_item "check_item" = true) (k_check_item : PySem.W.keepIn K (.ref f_check_item) = true)
    (a_law_pot : PySem.W.nsIn K mainGlobals "_law_pot" = some (some (.ref f_law_pot))) (l_law_pot : K.lookup f_law_pot = some ⟨oc_law_pot, od_law_pot, .func (PySem.W.fnOf "_law_pot" "_law_pot" (defArgs s_law_pot) (defBody s_law_pot) (defScope s_law_pot) .none kV_law_pot dc_law_pot pm_law_pot an_law_pot cd_law_pot ct_law_pot), sl_law_pot⟩) (co_law_pot : PySem.W.codeIn K cd_law_pot "_law_pot" = true) (k_law_pot : PySem.W.keepIn K (.ref f_law_pot) = true)
    (a_law_draw : PySem.W.nsIn K mainGlobals "_law_draw" = some (some (.ref f_law_draw))) (l_law_draw : K.lookup f_law_draw = some ⟨oc_law_draw, od_law_draw, .func (PySem.W.fnOf "_law_draw" "_law_draw" (defArgs s_law_draw) (defBody s_law_draw) (defScope s_law_draw) .none kV_law_draw dc_law_draw pm_law_draw an_law_draw cd_law_draw ct_law_draw), sl_law_draw⟩) (co_law_draw : PySem.W.codeIn K cd_law_draw "_law_draw" = true) (k_law_draw : PySem.W.keepIn K (.ref f_law_draw) = true)
    (a_law_choose : PySem.W.nsIn K mainGlobals "_law_choose" = some (some (.ref f_law_choose))) (l_law_choose : K.lookup f_law_choose = some ⟨oc_law_choose, od_law_choose, .func (PySem.W.fnOf "_law_choose" "_law_choose" (defArgs s_law_choose) (defBody s_law_choose) (defScope s_law_choose) .none kV_law_choose dc_law_choose pm_law_choose an_law_choose cd_law_choose ct_law_choose), sl_law_choose⟩) (co_law_choose : PySem.W.codeIn K cd_law_choose "_law_choose" = true) (k_law_choose : PySem.W.keepIn K (.ref f_law_choose) = true)
    (a_law_name : PySem.W.nsIn K mainGlobals "_law_name" = some (some (.ref f_law_name))) (l_law_name : K.lookup f_law_name = some ⟨oc_law_name, od_law_name, .func (PySem.W.fnOf "_law_name" "_law_name" (defArgs s_law_name) (defBody s_law_name) (defScope s_law_name) .none kV_law_name dc_law_name pm_law_name an_law_name cd_law_name ct_law_name), sl_law_name⟩) (co_law_name : PySem.W.codeIn K cd_law_name "_law_name" = true) (k_law_name : PySem.W.keepIn K (.ref f_law_name) = true)
    (a_law_kind : PySem.W.nsIn K mainGlobals "_law_kind" = some (some (.ref f_law_kind))) (l_law_kind : K.lookup f_law_kind = some ⟨oc_law_kind, od_law_kind, .func (PySem.W.fnOf "_law_kind" "_law_kind" (defArgs s_law_kind) (defBody s_law_kind) (defScope s_law_kind) .none kV_law_kind dc_law_kind pm_law_kind an_law_kind cd_law_kind ct_law_kind), sl_law_kind⟩) (co_law_kind : PySem.W.codeIn K cd_law_kind "_law_kind" = true) (k_law_kind : PySem.W.keepIn K (.ref f_law_kind) = true)
    (a_law_told : PySem.W.nsIn K mainGlobals "_law_told" = some (some (.ref f_law_told))) (l_law_told : K.lookup f_law_told = some ⟨oc_law_told, od_law_told, .func (PySem.W.fnOf "_law_told" "_law_told" (defArgs s_law_told) (defBody s_law_told) (defScope s_law_told) .none kV_law_told dc_law_told pm_law_told an_law_told cd_law_told ct_law_told), sl_law_told⟩) (co_law_told : PySem.W.codeIn K cd_law_told "_law_told" = true) (k_law_told : PySem.W.keepIn K (.ref f_law_told) = true)
    (a_law_odd : PySem.W.nsIn K mainGlobals "_law_odd" = some (some (.ref f_law_odd))) (l_law_odd : K.lookup f_law_odd = some ⟨oc_law_odd, od_law_odd, .func (PySem.W.fnOf "_law_odd" "_law_odd" (defArgs s_law_odd) (defBody s_law_odd) (defScope s_law_odd) .none kV_law_odd dc_law_odd pm_law_odd an_law_odd cd_law_odd ct_law_odd), sl_law_odd⟩) (co_law_odd : PySem.W.codeIn K cd_law_odd "_law_odd" = true) (k_law_odd : PySem.W.keepIn K (.ref f_law_odd) = true)
    (a_law_odd_item : PySem.W.nsIn K mainGlobals "_law_odd_item" = some (some (.ref f_law_odd_item))) (l_law_odd_item : K.lookup f_law_odd_item = some ⟨oc_law_odd_item, od_law_odd_item, .func (PySem.W.fnOf "_law_odd_item" "_law_odd_item" (defArgs s_law_odd_item) (defBody s_law_odd_item) (defScope s_law_odd_item) .none kV_law_odd_item dc_law_odd_item pm_law_odd_item an_law_odd_item cd_law_odd_item ct_law_odd_item), sl_law_odd_item⟩) (co_law_odd_item : PySem.W.codeIn K cd_law_odd_item "_law_odd_item" = true) (k_law_odd_item : PySem.W.keepIn K (.ref f_law_odd_item) = true)
    (a_law_shown : PySem.W.nsIn K mainGlobals "_law_shown" = some (some (.ref f_law_shown))) (l_law_shown : K.lookup f_law_shown = some ⟨oc_law_shown, od_law_shown, .func (PySem.W.fnOf "_law_shown" "_law_shown" (defArgs s_law_shown) (defBody s_law_shown) (defScope s_law_shown) .none kV_law_shown dc_law_shown pm_law_shown an_law_shown cd_law_shown ct_law_shown), sl_law_shown⟩) (co_law_shown : PySem.W.codeIn K cd_law_shown "_law_shown" = true) (k_law_shown : PySem.W.keepIn K (.ref f_law_shown) = true)
    (a_law_valid_right : PySem.W.nsIn K mainGlobals "_law_valid_right" = some (some (.ref f_law_valid_right))) (l_law_valid_right : K.lookup f_law_valid_right = some ⟨oc_law_valid_right, od_law_valid_right, .func (PySem.W.fnOf "_law_valid_right" "_law_valid_right" (defArgs s_law_valid_right) (defBody s_law_valid_right) (defScope s_law_valid_right) .none kV_law_valid_right dc_law_valid_right pm_law_valid_right an_law_valid_right cd_law_valid_right ct_law_valid_right), sl_law_valid_right⟩) (co_law_valid_right : PySem.W.codeIn K cd_law_valid_right "_law_valid_right" = true) (k_law_valid_right : PySem.W.keepIn K (.ref f_law_valid_right) = true)
    (a_law_right : PySem.W.nsIn K mainGlobals "_law_right" = some (some (.ref f_law_right))) (l_law_right : K.lookup f_law_right = some ⟨oc_law_right, od_law_right, .func (PySem.W.fnOf "_law_right" "_law_right" (defArgs s_law_right) (defBody s_law_right) (defScope s_law_right) .none kV_law_right dc_law_right pm_law_right an_law_right cd_law_right ct_law_right), sl_law_right⟩) (co_law_right : PySem.W.codeIn K cd_law_right "_law_right" = true) (k_law_right : PySem.W.keepIn K (.ref f_law_right) = true)
    (a_law : PySem.W.nsIn K mainGlobals "law" = some (some (.ref f_law))) (l_law : K.lookup f_law = some ⟨oc_law, od_law, .func (PySem.W.fnOf "law" "law" (defArgs s_law) (defBody s_law) (defScope s_law) .none kV_law dc_law pm_law an_law cd_law ct_law), sl_law⟩) (co_law : PySem.W.codeIn K cd_law "law" = true) (k_law : PySem.W.keepIn K (.ref f_law) = true)
    (v_LETTERS : PySem.W.nsIn K mainGlobals "LETTERS" = some (some (.str LET t_LETTERS)))
    (v_DIGITS : PySem.W.nsIn K mainGlobals "DIGITS" = some (some (.str DIG t_DIGITS)))
    (v_LONGEST_NAME : PySem.W.nsIn K mainGlobals "LONGEST_NAME" = some (some (.int 8 t_LONGEST_NAME)))
    (v_LONGEST_WORD : PySem.W.nsIn K mainGlobals "LONGEST_WORD" = some (some (.int 12 t_LONGEST_WORD)))
    (v_SHORTEST_PATH : PySem.W.nsIn K mainGlobals "SHORTEST_PATH" = some (some (.int 3 t_SHORTEST_PATH)))
    (v_MESSAGE : PySem.W.nsIn K mainGlobals "MESSAGE" = some (some (.str "message" t_MESSAGE)))
    (v_BYE : PySem.W.nsIn K mainGlobals "BYE" = some (some (.str "bye" t_BYE)))
    (v_BITS : PySem.W.nsIn K mainGlobals "BITS" = some (some (.int 2 t_BITS)))
    (z_len : PySem.W.nsIn K mainGlobals "len" = some none)
    (z_range : PySem.W.nsIn K mainGlobals "range" = some none)
    (z_abs : PySem.W.nsIn K mainGlobals "abs" = some none)
    (z_max : PySem.W.nsIn K mainGlobals "max" = some none)
    (z_min : PySem.W.nsIn K mainGlobals "min" = some none)
    (z_divmod : PySem.W.nsIn K mainGlobals "divmod" = some none)
    (z_isinstance : PySem.W.nsIn K mainGlobals "isinstance" = some none)
    (z_str : PySem.W.nsIn K mainGlobals "str" = some none)
    (z_int : PySem.W.nsIn K mainGlobals "int" = some none)
    (z_bool : PySem.W.nsIn K mainGlobals "bool" = some none)
    (z_tuple : PySem.W.nsIn K mainGlobals "tuple" = some none)
    (z_list : PySem.W.nsIn K mainGlobals "list" = some none)
    (z_set : PySem.W.nsIn K mainGlobals "set" = some none)
    (z_dict : PySem.W.nsIn K mainGlobals "dict" = some none)
    (z_all : PySem.W.nsIn K mainGlobals "all" = some none)
    (z_any : PySem.W.nsIn K mainGlobals "any" = some none)
    (z_repr : PySem.W.nsIn K mainGlobals "repr" = some none)
    (z_sorted : PySem.W.nsIn K mainGlobals "sorted" = some none)
    (z_enumerate : PySem.W.nsIn K mainGlobals "enumerate" = some none)
    (z_zip : PySem.W.nsIn K mainGlobals "zip" = some none)
    (e_InvalidWord : PySem.W.nsIn K mainGlobals "InvalidWord" = some (some (.ref c_InvalidWord))) (S_InvalidWord : XCl K c_InvalidWord ∧ ∀ (P : Program) (w : World) (mg : Str → Option Value) (base : Heap), mg "InvalidWord" = some (.ref c_InvalidWord) → Rz P w K mg base "InvalidWord" "value" c_InvalidWord)
    (e_InvalidName : PySem.W.nsIn K mainGlobals "InvalidName" = some (some (.ref c_InvalidName))) (S_InvalidName : XCl K c_InvalidName ∧ ∀ (P : Program) (w : World) (mg : Str → Option Value) (base : Heap), mg "InvalidName" = some (.ref c_InvalidName) → Rz P w K mg base "InvalidName" "value" c_InvalidName)
    (e_InvalidItem : PySem.W.nsIn K mainGlobals "InvalidItem" = some (some (.ref c_InvalidItem))) (S_InvalidItem : XCl K c_InvalidItem ∧ ∀ (P : Program) (w : World) (mg : Str → Option Value) (base : Heap), mg "InvalidItem" = some (.ref c_InvalidItem) → Rz P w K mg base "InvalidItem" "value" c_InvalidItem)
    (e_InvalidRelink : PySem.W.nsIn K mainGlobals "InvalidRelink" = some (some (.ref c_InvalidRelink))) (S_InvalidRelink : XCl K c_InvalidRelink ∧ ∀ (P : Program) (w : World) (mg : Str → Option Value) (base : Heap), mg "InvalidRelink" = some (.ref c_InvalidRelink) → Rz P w K mg base "InvalidRelink" "value" c_InvalidRelink)
    (e_NameTaken : PySem.W.nsIn K mainGlobals "NameTaken" = some (some (.ref c_NameTaken))) (S_NameTaken : XCl K c_NameTaken ∧ ∀ (P : Program) (w : World) (mg : Str → Option Value) (base : Heap), mg "NameTaken" = some (.ref c_NameTaken) → Rz P w K mg base "NameTaken" "value" c_NameTaken)
    (e_Busy : PySem.W.nsIn K mainGlobals "Busy" = some (some (.ref c_Busy))) (S_Busy : XCl K c_Busy ∧ ∀ (P : Program) (w : World) (mg : Str → Option Value) (base : Heap), mg "Busy" = some (.ref c_Busy) → Rz P w K mg base "Busy" "host" c_Busy)
    (e_NotALeaf : PySem.W.nsIn K mainGlobals "NotALeaf" = some (some (.ref c_NotALeaf))) (S_NotALeaf : XCl K c_NotALeaf ∧ ∀ (P : Program) (w : World) (mg : Str → Option Value) (base : Heap), mg "NotALeaf" = some (.ref c_NotALeaf) → Rz P w K mg base "NotALeaf" "host" c_NotALeaf)
    (e_NotLinked : PySem.W.nsIn K mainGlobals "NotLinked" = some (some (.ref c_NotLinked))) (S_NotLinked : XCl K c_NotLinked ∧ ∀ (P : Program) (w : World) (mg : Str → Option Value) (base : Heap), mg "NotLinked" = some (.ref c_NotLinked) → Rz2 P w K mg base "NotLinked" "host" "other" c_NotLinked)
    (e_UnknownHost : PySem.W.nsIn K mainGlobals "UnknownHost" = some (some (.ref c_UnknownHost))) (S_UnknownHost : XCl K c_UnknownHost ∧ ∀ (P : Program) (w : World) (mg : Str → Option Value) (base : Heap), mg "UnknownHost" = some (.ref c_UnknownHost) → Rz P w K mg base "UnknownHost" "host" c_UnknownHost)
    (v_CK : PySem.W.nsIn K mainGlobals "CONTROL_KINDS" = some (some (.ref ck)))
    (l_CK : K.lookup ck = some o_ck)
    (q_CK : KindsAt o_ck)
    (e_Host : PySem.W.nsIn K mainGlobals "Host" = some (some (.ref c_Host)))
    (T_pg : PySem.W.plainGet K c_Host Str.empty = true)
    (T_hd : PySem.W.hasDictIn K c_Host = true)
    (T_po : PySem.W.plainOver K c_Host = true)
    (T_sa : PySem.W.findIn K (.ref c_Host) "__setattr__" = some (some (.builtin "object.__setattr__")))
    (T_mk : PySem.W.makesIn K c_Host = true)
    (T_kc : PySem.W.keepIn K (.ref c_Host) = true)
    (T_nown_name : PySem.W.findIn K (.ref c_Host) "own_name" = some none)
    (T_nlinked : PySem.W.findIn K (.ref c_Host) "linked" = some none)
    (T_nlogged : PySem.W.findIn K (.ref c_Host) "logged" = some none)
    (T_njoined : PySem.W.findIn K (.ref c_Host) "joined" = some none)
    (T_nstage : PySem.W.findIn K (.ref c_Host) "stage" = some none)
    (T_nqueued : PySem.W.findIn K (.ref c_Host) "queued" = some none)
    (T_nfinished : PySem.W.findIn K (.ref c_Host) "finished" = some none)
    (aTm_init : PySem.W.findIn K (.ref c_Host) "__init__" = some (some (.ref fTm_init)))
    (iTm_init : PySem.W.isFn K (.ref fTm_init) = true)
    (lTm_init : K.lookup fTm_init = some ⟨ocTm_init, odTm_init, .func (PySem.W.fnOf "__init__" "Host.__init__" (defArgs m_init) (defBody m_init) (defScope m_init) .none kVTm_init dcTm_init pmTm_init anTm_init cdTm_init ctTm_init), slTm_init⟩)
    (cTm_init : PySem.W.codeIn K cdTm_init "Host.__init__" = true)
    (kTm_init : PySem.W.keepIn K (.ref fTm_init) = true)
    (aTm_name : PySem.W.findIn K (.ref c_Host) "name" = some (some (.ref fTm_name)))
    (iTm_name : PySem.W.isFn K (.ref fTm_name) = true)
    (lTm_name : K.lookup fTm_name = some ⟨ocTm_name, odTm_name, .func (PySem.W.fnOf "name" "Host.name" (defArgs m_name) (defBody m_name) (defScope m_name) .none kVTm_name dcTm_name pmTm_name anTm_name cdTm_name ctTm_name), slTm_name⟩)
    (cTm_name : PySem.W.codeIn K cdTm_name "Host.name" = true)
    (kTm_name : PySem.W.keepIn K (.ref fTm_name) = true)
    (aTm_log : PySem.W.findIn K (.ref c_Host) "log" = some (some (.ref fTm_log)))
    (iTm_log : PySem.W.isFn K (.ref fTm_log) = true)
    (lTm_log : K.lookup fTm_log = some ⟨ocTm_log, odTm_log, .func (PySem.W.fnOf "log" "Host.log" (defArgs m_log) (defBody m_log) (defScope m_log) .none kVTm_log dcTm_log pmTm_log anTm_log cdTm_log ctTm_log), slTm_log⟩)
    (cTm_log : PySem.W.codeIn K cdTm_log "Host.log" = true)
    (kTm_log : PySem.W.keepIn K (.ref fTm_log) = true)
    (aTm_links : PySem.W.findIn K (.ref c_Host) "links" = some (some (.ref fTm_links)))
    (iTm_links : PySem.W.isFn K (.ref fTm_links) = true)
    (lTm_links : K.lookup fTm_links = some ⟨ocTm_links, odTm_links, .func (PySem.W.fnOf "links" "Host.links" (defArgs m_links) (defBody m_links) (defScope m_links) .none kVTm_links dcTm_links pmTm_links anTm_links cdTm_links ctTm_links), slTm_links⟩)
    (cTm_links : PySem.W.codeIn K cdTm_links "Host.links" = true)
    (kTm_links : PySem.W.keepIn K (.ref fTm_links) = true)
    (aTm_answers : PySem.W.findIn K (.ref c_Host) "answers" = some (some (.ref fTm_answers)))
    (iTm_answers : PySem.W.isFn K (.ref fTm_answers) = true)
    (lTm_answers : K.lookup fTm_answers = some ⟨ocTm_answers, odTm_answers, .func (PySem.W.fnOf "answers" "Host.answers" (defArgs m_answers) (defBody m_answers) (defScope m_answers) .none kVTm_answers dcTm_answers pmTm_answers anTm_answers cdTm_answers ctTm_answers), slTm_answers⟩)
    (cTm_answers : PySem.W.codeIn K cdTm_answers "Host.answers" = true)
    (kTm_answers : PySem.W.keepIn K (.ref fTm_answers) = true)
    (aTm_relink : PySem.W.findIn K (.ref c_Host) "relink" = some (some (.ref fTm_relink)))
    (iTm_relink : PySem.W.isFn K (.ref fTm_relink) = true)
    (lTm_relink : K.lookup fTm_relink = some ⟨ocTm_relink, odTm_relink, .func (PySem.W.fnOf "relink" "Host.relink" (defArgs m_relink) (defBody m_relink) (defScope m_relink) .none kVTm_relink dcTm_relink pmTm_relink anTm_relink cdTm_relink ctTm_relink), slTm_relink⟩)
    (cTm_relink : PySem.W.codeIn K cdTm_relink "Host.relink" = true)
    (kTm_relink : PySem.W.keepIn K (.ref fTm_relink) = true)
    (aTm_phase : PySem.W.findIn K (.ref c_Host) "phase" = some (some (.ref fTm_phase)))
    (iTm_phase : PySem.W.isFn K (.ref fTm_phase) = true)
    (lTm_phase : K.lookup fTm_phase = some ⟨ocTm_phase, odTm_phase, .func (PySem.W.fnOf "phase" "Host.phase" (defArgs m_phase) (defBody m_phase) (defScope m_phase) .none kVTm_phase dcTm_phase pmTm_phase anTm_phase cdTm_phase ctTm_phase), slTm_phase⟩)
    (cTm_phase : PySem.W.codeIn K cdTm_phase "Host.phase" = true)
    (kTm_phase : PySem.W.keepIn K (.ref fTm_phase) = true)
    (aTm_queue : PySem.W.findIn K (.ref c_Host) "queue" = some (some (.ref fTm_queue)))
    (iTm_queue : PySem.W.isFn K (.ref fTm_queue) = true)
    (lTm_queue : K.lookup fTm_queue = some ⟨ocTm_queue, odTm_queue, .func (PySem.W.fnOf "queue" "Host.queue" (defArgs m_queue) (defBody m_queue) (defScope m_queue) .none kVTm_queue dcTm_queue pmTm_queue anTm_queue cdTm_queue ctTm_queue), slTm_queue⟩)
    (cTm_queue : PySem.W.codeIn K cdTm_queue "Host.queue" = true)
    (kTm_queue : PySem.W.keepIn K (.ref fTm_queue) = true)
    (aTm_write : PySem.W.findIn K (.ref c_Host) "write" = some (some (.ref fTm_write)))
    (iTm_write : PySem.W.isFn K (.ref fTm_write) = true)
    (lTm_write : K.lookup fTm_write = some ⟨ocTm_write, odTm_write, .func (PySem.W.fnOf "write" "Host.write" (defArgs m_write) (defBody m_write) (defScope m_write) .none kVTm_write dcTm_write pmTm_write anTm_write cdTm_write ctTm_write), slTm_write⟩)
    (cTm_write : PySem.W.codeIn K cdTm_write "Host.write" = true)
    (kTm_write : PySem.W.keepIn K (.ref fTm_write) = true)
    (aTm_ask : PySem.W.findIn K (.ref c_Host) "ask" = some (some (.ref fTm_ask)))
    (iTm_ask : PySem.W.isFn K (.ref fTm_ask) = true)
    (lTm_ask : K.lookup fTm_ask = some ⟨ocTm_ask, odTm_ask, .func (PySem.W.fnOf "ask" "Host.ask" (defArgs m_ask) (defBody m_ask) (defScope m_ask) .none kVTm_ask dcTm_ask pmTm_ask anTm_ask cdTm_ask ctTm_ask), slTm_ask⟩)
    (cTm_ask : PySem.W.codeIn K cdTm_ask "Host.ask" = true)
    (kTm_ask : PySem.W.keepIn K (.ref fTm_ask) = true)
    (aTm_receive : PySem.W.findIn K (.ref c_Host) "receive" = some (some (.ref fTm_receive)))
    (iTm_receive : PySem.W.isFn K (.ref fTm_receive) = true)
    (lTm_receive : K.lookup fTm_receive = some ⟨ocTm_receive, odTm_receive, .func (PySem.W.fnOf "receive" "Host.receive" (defArgs m_receive) (defBody m_receive) (defScope m_receive) .none kVTm_receive dcTm_receive pmTm_receive anTm_receive cdTm_receive ctTm_receive), slTm_receive⟩)
    (cTm_receive : PySem.W.codeIn K cdTm_receive "Host.receive" = true)
    (kTm_receive : PySem.W.keepIn K (.ref fTm_receive) = true)
    (aTm_add_link : PySem.W.findIn K (.ref c_Host) "add_link" = some (some (.ref fTm_add_link)))
    (iTm_add_link : PySem.W.isFn K (.ref fTm_add_link) = true)
    (lTm_add_link : K.lookup fTm_add_link = some ⟨ocTm_add_link, odTm_add_link, .func (PySem.W.fnOf "add_link" "Host.add_link" (defArgs m_add_link) (defBody m_add_link) (defScope m_add_link) .none kVTm_add_link dcTm_add_link pmTm_add_link anTm_add_link cdTm_add_link ctTm_add_link), slTm_add_link⟩)
    (cTm_add_link : PySem.W.codeIn K cdTm_add_link "Host.add_link" = true)
    (kTm_add_link : PySem.W.keepIn K (.ref fTm_add_link) = true)
    (aTm_leave : PySem.W.findIn K (.ref c_Host) "leave" = some (some (.ref fTm_leave)))
    (iTm_leave : PySem.W.isFn K (.ref fTm_leave) = true)
    (lTm_leave : K.lookup fTm_leave = some ⟨ocTm_leave, odTm_leave, .func (PySem.W.fnOf "leave" "Host.leave" (defArgs m_leave) (defBody m_leave) (defScope m_leave) .none kVTm_leave dcTm_leave pmTm_leave anTm_leave cdTm_leave ctTm_leave), slTm_leave⟩)
    (cTm_leave : PySem.W.codeIn K cdTm_leave "Host.leave" = true)
    (kTm_leave : PySem.W.keepIn K (.ref fTm_leave) = true)
    (aTm_copied : PySem.W.findIn K (.ref c_Host) "copied" = some (some (.ref fTm_copied)))
    (iTm_copied : PySem.W.isFn K (.ref fTm_copied) = true)
    (lTm_copied : K.lookup fTm_copied = some ⟨ocTm_copied, odTm_copied, .func (PySem.W.fnOf "copied" "Host.copied" (defArgs m_copied) (defBody m_copied) (defScope m_copied) .none kVTm_copied dcTm_copied pmTm_copied anTm_copied cdTm_copied ctTm_copied), slTm_copied⟩)
    (cTm_copied : PySem.W.codeIn K cdTm_copied "Host.copied" = true)
    (kTm_copied : PySem.W.keepIn K (.ref fTm_copied) = true)
    (aTm_check_free : PySem.W.findIn K (.ref c_Host) "check_free" = some (some (.ref fTm_check_free)))
    (iTm_check_free : PySem.W.isFn K (.ref fTm_check_free) = true)
    (lTm_check_free : K.lookup fTm_check_free = some ⟨ocTm_check_free, odTm_check_free, .func (PySem.W.fnOf "check_free" "Host.check_free" (defArgs m_check_free) (defBody m_check_free) (defScope m_check_free) .none kVTm_check_free dcTm_check_free pmTm_check_free anTm_check_free cdTm_check_free ctTm_check_free), slTm_check_free⟩)
    (cTm_check_free : PySem.W.codeIn K cdTm_check_free "Host.check_free" = true)
    (kTm_check_free : PySem.W.keepIn K (.ref fTm_check_free) = true)
    (aTm_join_to : PySem.W.findIn K (.ref c_Host) "join_to" = some (some (.ref fTm_join_to)))
    (iTm_join_to : PySem.W.isFn K (.ref fTm_join_to) = true)
    (lTm_join_to : K.lookup fTm_join_to = some ⟨ocTm_join_to, odTm_join_to, .func (PySem.W.fnOf "join_to" "Host.join_to" (defArgs m_join_to) (defBody m_join_to) (defScope m_join_to) .none kVTm_join_to dcTm_join_to pmTm_join_to anTm_join_to cdTm_join_to ctTm_join_to), slTm_join_to⟩)
    (cTm_join_to : PySem.W.codeIn K cdTm_join_to "Host.join_to" = true)
    (kTm_join_to : PySem.W.keepIn K (.ref fTm_join_to) = true)
    (aTm_log_and_forward : PySem.W.findIn K (.ref c_Host) "log_and_forward" = some (some (.ref fTm_log_and_forward)))
    (iTm_log_and_forward : PySem.W.isFn K (.ref fTm_log_and_forward) = true)
    (lTm_log_and_forward : K.lookup fTm_log_and_forward = some ⟨ocTm_log_and_forward, odTm_log_and_forward, .func (PySem.W.fnOf "log_and_forward" "Host.log_and_forward" (defArgs m_log_and_forward) (defBody m_log_and_forward) (defScope m_log_and_forward) (.ref TTm_log_and_forward) kVTm_log_and_forward dcTm_log_and_forward pmTm_log_and_forward anTm_log_and_forward cdTm_log_and_forward ctTm_log_and_forward), slTm_log_and_forward⟩)
    (cTm_log_and_forward : PySem.W.codeIn K cdTm_log_and_forward "Host.log_and_forward" = true)
    (kTm_log_and_forward : PySem.W.keepIn K (.ref fTm_log_and_forward) = true)
    (dlTm_log_and_forward : K.lookup TTm_log_and_forward = some oTTm_log_and_forward)
    (dqTm_log_and_forward : ∃ t n, oTTm_log_and_forward.data = .seq #[Value.none, Value.int 0 t] n)
    (aTm_accept : PySem.W.findIn K (.ref c_Host) "accept" = some (some (.ref fTm_accept)))
    (iTm_accept : PySem.W.isFn K (.ref fTm_accept) = true)
    (lTm_accept : K.lookup fTm_accept = some ⟨ocTm_accept, odTm_accept, .func (PySem.W.fnOf "accept" "Host.accept" (defArgs m_accept) (defBody m_accept) (defScope m_accept) .none kVTm_accept dcTm_accept pmTm_accept anTm_accept cdTm_accept ctTm_accept), slTm_accept⟩)
    (cTm_accept : PySem.W.codeIn K cdTm_accept "Host.accept" = true)
    (kTm_accept : PySem.W.keepIn K (.ref fTm_accept) = true)
    (cg : PySem.W.specialIn K (.builtin "object.__class__") "__get__" = some (some (.builtin "getset_descriptor.__get__")))
    (ct : PySem.W.takesIn K (.builtin "object.__class__") = some true)
    (cl_W : PySem.W.clsIn K c_InvalidWord = some cd_W)
    (tP_W : PySem.W.typeIn K (.ref c_InvalidWord) = some (.type "type"))
    (cl_N : PySem.W.clsIn K c_InvalidName = some cd_N)
    (tP_N : PySem.W.typeIn K (.ref c_InvalidName) = some (.type "type"))
    (cl_I : PySem.W.clsIn K c_InvalidItem = some cd_I)
    (tP_I : PySem.W.typeIn K (.ref c_InvalidItem) = some (.type "type"))
    (cl_R : PySem.W.clsIn K c_InvalidRelink = some cd_R)
    (tP_R : PySem.W.typeIn K (.ref c_InvalidRelink) = some (.type "type"))
    (cl_T : PySem.W.clsIn K c_NameTaken = some cd_T)
    (tP_T : PySem.W.typeIn K (.ref c_NameTaken) = some (.type "type"))
    (cl_B : PySem.W.clsIn K c_Busy = some cd_B)
    (tP_B : PySem.W.typeIn K (.ref c_Busy) = some (.type "type"))
    (cl_L : PySem.W.clsIn K c_NotALeaf = some cd_L)
    (tP_L : PySem.W.typeIn K (.ref c_NotALeaf) = some (.type "type"))
    (e_EmptyChannel : PySem.W.nsIn K mainGlobals "EmptyChannel" = some (some (.ref c_EmptyChannel)))
    (cl_a : PySem.W.clsIn K c_EmptyChannel = some cd_a)
    (tP_a : PySem.W.typeIn K (.ref c_EmptyChannel) = some (.type "type"))
    (e_InvalidStep : PySem.W.nsIn K mainGlobals "InvalidStep" = some (some (.ref c_InvalidStep)))
    (cl_b : PySem.W.clsIn K c_InvalidStep = some cd_b)
    (tP_b : PySem.W.typeIn K (.ref c_InvalidStep) = some (.type "type"))
    (e_InvalidTree : PySem.W.nsIn K mainGlobals "InvalidTree" = some (some (.ref c_InvalidTree)))
    (cl_c : PySem.W.clsIn K c_InvalidTree = some cd_c)
    (tP_c : PySem.W.typeIn K (.ref c_InvalidTree) = some (.type "type"))
    (cl_D : PySem.W.clsIn K c_NotLinked = some cd_D)
    (tP_D : PySem.W.typeIn K (.ref c_NotLinked) = some (.type "type"))
    (e_TooMany : PySem.W.nsIn K mainGlobals "TooMany" = some (some (.ref c_TooMany)))
    (cl_d : PySem.W.clsIn K c_TooMany = some cd_d)
    (tP_d : PySem.W.typeIn K (.ref c_TooMany) = some (.type "type"))
    (cl_U : PySem.W.clsIn K c_UnknownHost = some cd_U)
    (tP_U : PySem.W.typeIn K (.ref c_UnknownHost) = some (.type "type"))
    (e_RelinkTreeError : PySem.W.nsIn K mainGlobals "RelinkTreeError" = some (some (.ref c_RelinkTreeError)))
    (cl_E : PySem.W.clsIn K c_RelinkTreeError = some cd_E)
    (tP_E : PySem.W.typeIn K (.ref c_RelinkTreeError) = some (.type "type"))
    (zz_ValueError : PySem.W.nsIn K mainGlobals "ValueError" = some none)
    (zz_RuntimeError : PySem.W.nsIn K mainGlobals "RuntimeError" = some none)
    (ne_NW : c_InvalidName ≠ c_InvalidWord)
    (s_NW : PySem.W.subIn K (.ref c_InvalidName) (.ref c_InvalidWord) = some false)
    (ne_IW : c_InvalidItem ≠ c_InvalidWord)
    (s_IW : PySem.W.subIn K (.ref c_InvalidItem) (.ref c_InvalidWord) = some false)
    (ne_RW : c_InvalidRelink ≠ c_InvalidWord)
    (s_RW : PySem.W.subIn K (.ref c_InvalidRelink) (.ref c_InvalidWord) = some false)
    (ne_TW : c_NameTaken ≠ c_InvalidWord)
    (s_TW : PySem.W.subIn K (.ref c_NameTaken) (.ref c_InvalidWord) = some false)
    (ne_BW : c_Busy ≠ c_InvalidWord)
    (s_BW : PySem.W.subIn K (.ref c_Busy) (.ref c_InvalidWord) = some false)
    (ne_LW : c_NotALeaf ≠ c_InvalidWord)
    (s_LW : PySem.W.subIn K (.ref c_NotALeaf) (.ref c_InvalidWord) = some false)
    (ne_WN : c_InvalidWord ≠ c_InvalidName)
    (s_WN : PySem.W.subIn K (.ref c_InvalidWord) (.ref c_InvalidName) = some false)
    (ne_IN : c_InvalidItem ≠ c_InvalidName)
    (s_IN : PySem.W.subIn K (.ref c_InvalidItem) (.ref c_InvalidName) = some false)
    (ne_RN : c_InvalidRelink ≠ c_InvalidName)
    (s_RN : PySem.W.subIn K (.ref c_InvalidRelink) (.ref c_InvalidName) = some false)
    (ne_TN : c_NameTaken ≠ c_InvalidName)
    (s_TN : PySem.W.subIn K (.ref c_NameTaken) (.ref c_InvalidName) = some false)
    (ne_BN : c_Busy ≠ c_InvalidName)
    (s_BN : PySem.W.subIn K (.ref c_Busy) (.ref c_InvalidName) = some false)
    (ne_LN : c_NotALeaf ≠ c_InvalidName)
    (s_LN : PySem.W.subIn K (.ref c_NotALeaf) (.ref c_InvalidName) = some false)
    (ne_WI : c_InvalidWord ≠ c_InvalidItem)
    (s_WI : PySem.W.subIn K (.ref c_InvalidWord) (.ref c_InvalidItem) = some false)
    (ne_NI : c_InvalidName ≠ c_InvalidItem)
    (s_NI : PySem.W.subIn K (.ref c_InvalidName) (.ref c_InvalidItem) = some false)
    (ne_RI : c_InvalidRelink ≠ c_InvalidItem)
    (s_RI : PySem.W.subIn K (.ref c_InvalidRelink) (.ref c_InvalidItem) = some false)
    (ne_TI : c_NameTaken ≠ c_InvalidItem)
    (s_TI : PySem.W.subIn K (.ref c_NameTaken) (.ref c_InvalidItem) = some false)
    (ne_BI : c_Busy ≠ c_InvalidItem)
    (s_BI : PySem.W.subIn K (.ref c_Busy) (.ref c_InvalidItem) = some false)
    (ne_LI : c_NotALeaf ≠ c_InvalidItem)
    (s_LI : PySem.W.subIn K (.ref c_NotALeaf) (.ref c_InvalidItem) = some false)
    (ne_WR : c_InvalidWord ≠ c_InvalidRelink)
    (s_WR : PySem.W.subIn K (.ref c_InvalidWord) (.ref c_InvalidRelink) = some false)
    (ne_NR : c_InvalidName ≠ c_InvalidRelink)
    (s_NR : PySem.W.subIn K (.ref c_InvalidName) (.ref c_InvalidRelink) = some false)
    (ne_IR : c_InvalidItem ≠ c_InvalidRelink)
    (s_IR : PySem.W.subIn K (.ref c_InvalidItem) (.ref c_InvalidRelink) = some false)
    (ne_TR : c_NameTaken ≠ c_InvalidRelink)
    (s_TR : PySem.W.subIn K (.ref c_NameTaken) (.ref c_InvalidRelink) = some false)
    (ne_BR : c_Busy ≠ c_InvalidRelink)
    (s_BR : PySem.W.subIn K (.ref c_Busy) (.ref c_InvalidRelink) = some false)
    (ne_LR : c_NotALeaf ≠ c_InvalidRelink)
    (s_LR : PySem.W.subIn K (.ref c_NotALeaf) (.ref c_InvalidRelink) = some false)
    (ne_WT : c_InvalidWord ≠ c_NameTaken)
    (s_WT : PySem.W.subIn K (.ref c_InvalidWord) (.ref c_NameTaken) = some false)
    (ne_NT : c_InvalidName ≠ c_NameTaken)
    (s_NT : PySem.W.subIn K (.ref c_InvalidName) (.ref c_NameTaken) = some false)
    (ne_IT : c_InvalidItem ≠ c_NameTaken)
    (s_IT : PySem.W.subIn K (.ref c_InvalidItem) (.ref c_NameTaken) = some false)
    (ne_RT : c_InvalidRelink ≠ c_NameTaken)
    (s_RT : PySem.W.subIn K (.ref c_InvalidRelink) (.ref c_NameTaken) = some false)
    (ne_BT : c_Busy ≠ c_NameTaken)
    (s_BT : PySem.W.subIn K (.ref c_Busy) (.ref c_NameTaken) = some false)
    (ne_LT : c_NotALeaf ≠ c_NameTaken)
    (s_LT : PySem.W.subIn K (.ref c_NotALeaf) (.ref c_NameTaken) = some false)
    (ne_WB : c_InvalidWord ≠ c_Busy)
    (s_WB : PySem.W.subIn K (.ref c_InvalidWord) (.ref c_Busy) = some false)
    (ne_NB : c_InvalidName ≠ c_Busy)
    (s_NB : PySem.W.subIn K (.ref c_InvalidName) (.ref c_Busy) = some false)
    (ne_IB : c_InvalidItem ≠ c_Busy)
    (s_IB : PySem.W.subIn K (.ref c_InvalidItem) (.ref c_Busy) = some false)
    (ne_RB : c_InvalidRelink ≠ c_Busy)
    (s_RB : PySem.W.subIn K (.ref c_InvalidRelink) (.ref c_Busy) = some false)
    (ne_TB : c_NameTaken ≠ c_Busy)
    (s_TB : PySem.W.subIn K (.ref c_NameTaken) (.ref c_Busy) = some false)
    (ne_LB : c_NotALeaf ≠ c_Busy)
    (s_LB : PySem.W.subIn K (.ref c_NotALeaf) (.ref c_Busy) = some false)
    (ne_WL : c_InvalidWord ≠ c_NotALeaf)
    (s_WL : PySem.W.subIn K (.ref c_InvalidWord) (.ref c_NotALeaf) = some false)
    (ne_NL : c_InvalidName ≠ c_NotALeaf)
    (s_NL : PySem.W.subIn K (.ref c_InvalidName) (.ref c_NotALeaf) = some false)
    (ne_IL : c_InvalidItem ≠ c_NotALeaf)
    (s_IL : PySem.W.subIn K (.ref c_InvalidItem) (.ref c_NotALeaf) = some false)
    (ne_RL : c_InvalidRelink ≠ c_NotALeaf)
    (s_RL : PySem.W.subIn K (.ref c_InvalidRelink) (.ref c_NotALeaf) = some false)
    (ne_TL : c_NameTaken ≠ c_NotALeaf)
    (s_TL : PySem.W.subIn K (.ref c_NameTaken) (.ref c_NotALeaf) = some false)
    (ne_BL : c_Busy ≠ c_NotALeaf)
    (s_BL : PySem.W.subIn K (.ref c_Busy) (.ref c_NotALeaf) = some false)
    (ne_Wa : c_InvalidWord ≠ c_EmptyChannel)
    (s_Wa : PySem.W.subIn K (.ref c_InvalidWord) (.ref c_EmptyChannel) = some false)
    (ne_Wb : c_InvalidWord ≠ c_InvalidStep)
    (s_Wb : PySem.W.subIn K (.ref c_InvalidWord) (.ref c_InvalidStep) = some false)
    (ne_Wc : c_InvalidWord ≠ c_InvalidTree)
    (s_Wc : PySem.W.subIn K (.ref c_InvalidWord) (.ref c_InvalidTree) = some false)
    (ne_WD : c_InvalidWord ≠ c_NotLinked)
    (s_WD : PySem.W.subIn K (.ref c_InvalidWord) (.ref c_NotLinked) = some false)
    (ne_Wd : c_InvalidWord ≠ c_TooMany)
    (s_Wd : PySem.W.subIn K (.ref c_InvalidWord) (.ref c_TooMany) = some false)
    (ne_WU : c_InvalidWord ≠ c_UnknownHost)
    (s_WU : PySem.W.subIn K (.ref c_InvalidWord) (.ref c_UnknownHost) = some false)
    (ne_Na : c_InvalidName ≠ c_EmptyChannel)
    (s_Na : PySem.W.subIn K (.ref c_InvalidName) (.ref c_EmptyChannel) = some false)
    (ne_Nb : c_InvalidName ≠ c_InvalidStep)
    (s_Nb : PySem.W.subIn K (.ref c_InvalidName) (.ref c_InvalidStep) = some false)
    (ne_Nc : c_InvalidName ≠ c_InvalidTree)
    (s_Nc : PySem.W.subIn K (.ref c_InvalidName) (.ref c_InvalidTree) = some false)
    (ne_ND : c_InvalidName ≠ c_NotLinked)
    (s_ND : PySem.W.subIn K (.ref c_InvalidName) (.ref c_NotLinked) = some false)
    (ne_Nd : c_InvalidName ≠ c_TooMany)
    (s_Nd : PySem.W.subIn K (.ref c_InvalidName) (.ref c_TooMany) = some false)
    (ne_NU : c_InvalidName ≠ c_UnknownHost)
    (s_NU : PySem.W.subIn K (.ref c_InvalidName) (.ref c_UnknownHost) = some false)
    (ne_Ia : c_InvalidItem ≠ c_EmptyChannel)
    (s_Ia : PySem.W.subIn K (.ref c_InvalidItem) (.ref c_EmptyChannel) = some false)
    (ne_Ib : c_InvalidItem ≠ c_InvalidStep)
    (s_Ib : PySem.W.subIn K (.ref c_InvalidItem) (.ref c_InvalidStep) = some false)
    (ne_Ic : c_InvalidItem ≠ c_InvalidTree)
    (s_Ic : PySem.W.subIn K (.ref c_InvalidItem) (.ref c_InvalidTree) = some false)
    (ne_ID : c_InvalidItem ≠ c_NotLinked)
    (s_ID : PySem.W.subIn K (.ref c_InvalidItem) (.ref c_NotLinked) = some false)
    (ne_Id : c_InvalidItem ≠ c_TooMany)
    (s_Id : PySem.W.subIn K (.ref c_InvalidItem) (.ref c_TooMany) = some false)
    (ne_IU : c_InvalidItem ≠ c_UnknownHost)
    (s_IU : PySem.W.subIn K (.ref c_InvalidItem) (.ref c_UnknownHost) = some false)
    (ne_Ra : c_InvalidRelink ≠ c_EmptyChannel)
    (s_Ra : PySem.W.subIn K (.ref c_InvalidRelink) (.ref c_EmptyChannel) = some false)
    (ne_Rb : c_InvalidRelink ≠ c_InvalidStep)
    (s_Rb : PySem.W.subIn K (.ref c_InvalidRelink) (.ref c_InvalidStep) = some false)
    (ne_Rc : c_InvalidRelink ≠ c_InvalidTree)
    (s_Rc : PySem.W.subIn K (.ref c_InvalidRelink) (.ref c_InvalidTree) = some false)
    (ne_RD : c_InvalidRelink ≠ c_NotLinked)
    (s_RD : PySem.W.subIn K (.ref c_InvalidRelink) (.ref c_NotLinked) = some false)
    (ne_Rd : c_InvalidRelink ≠ c_TooMany)
    (s_Rd : PySem.W.subIn K (.ref c_InvalidRelink) (.ref c_TooMany) = some false)
    (ne_RU : c_InvalidRelink ≠ c_UnknownHost)
    (s_RU : PySem.W.subIn K (.ref c_InvalidRelink) (.ref c_UnknownHost) = some false)
    (ne_Ta : c_NameTaken ≠ c_EmptyChannel)
    (s_Ta : PySem.W.subIn K (.ref c_NameTaken) (.ref c_EmptyChannel) = some false)
    (ne_Tb : c_NameTaken ≠ c_InvalidStep)
    (s_Tb : PySem.W.subIn K (.ref c_NameTaken) (.ref c_InvalidStep) = some false)
    (ne_Tc : c_NameTaken ≠ c_InvalidTree)
    (s_Tc : PySem.W.subIn K (.ref c_NameTaken) (.ref c_InvalidTree) = some false)
    (ne_TD : c_NameTaken ≠ c_NotLinked)
    (s_TD : PySem.W.subIn K (.ref c_NameTaken) (.ref c_NotLinked) = some false)
    (ne_Td : c_NameTaken ≠ c_TooMany)
    (s_Td : PySem.W.subIn K (.ref c_NameTaken) (.ref c_TooMany) = some false)
    (ne_TU : c_NameTaken ≠ c_UnknownHost)
    (s_TU : PySem.W.subIn K (.ref c_NameTaken) (.ref c_UnknownHost) = some false)
    (ne_Ba : c_Busy ≠ c_EmptyChannel)
    (s_Ba : PySem.W.subIn K (.ref c_Busy) (.ref c_EmptyChannel) = some false)
    (ne_Bb : c_Busy ≠ c_InvalidStep)
    (s_Bb : PySem.W.subIn K (.ref c_Busy) (.ref c_InvalidStep) = some false)
    (ne_Bc : c_Busy ≠ c_InvalidTree)
    (s_Bc : PySem.W.subIn K (.ref c_Busy) (.ref c_InvalidTree) = some false)
    (ne_BD : c_Busy ≠ c_NotLinked)
    (s_BD : PySem.W.subIn K (.ref c_Busy) (.ref c_NotLinked) = some false)
    (ne_Bd : c_Busy ≠ c_TooMany)
    (s_Bd : PySem.W.subIn K (.ref c_Busy) (.ref c_TooMany) = some false)
    (ne_BU : c_Busy ≠ c_UnknownHost)
    (s_BU : PySem.W.subIn K (.ref c_Busy) (.ref c_UnknownHost) = some false)
    (ne_La : c_NotALeaf ≠ c_EmptyChannel)
    (s_La : PySem.W.subIn K (.ref c_NotALeaf) (.ref c_EmptyChannel) = some false)
    (ne_Lb : c_NotALeaf ≠ c_InvalidStep)
    (s_Lb : PySem.W.subIn K (.ref c_NotALeaf) (.ref c_InvalidStep) = some false)
    (ne_Lc : c_NotALeaf ≠ c_InvalidTree)
    (s_Lc : PySem.W.subIn K (.ref c_NotALeaf) (.ref c_InvalidTree) = some false)
    (ne_LD : c_NotALeaf ≠ c_NotLinked)
    (s_LD : PySem.W.subIn K (.ref c_NotALeaf) (.ref c_NotLinked) = some false)
    (ne_Ld : c_NotALeaf ≠ c_TooMany)
    (s_Ld : PySem.W.subIn K (.ref c_NotALeaf) (.ref c_TooMany) = some false)
    (ne_LU : c_NotALeaf ≠ c_UnknownHost)
    (s_LU : PySem.W.subIn K (.ref c_NotALeaf) (.ref c_UnknownHost) = some false)
    (ne_WE : c_InvalidWord ≠ c_RelinkTreeError)
    (s_WE : PySem.W.subIn K (.ref c_InvalidWord) (.ref c_RelinkTreeError) = some true)
    (ne_NE : c_InvalidName ≠ c_RelinkTreeError)
    (s_NE : PySem.W.subIn K (.ref c_InvalidName) (.ref c_RelinkTreeError) = some true)
    (ne_IE : c_InvalidItem ≠ c_RelinkTreeError)
    (s_IE : PySem.W.subIn K (.ref c_InvalidItem) (.ref c_RelinkTreeError) = some true)
    (ne_RE : c_InvalidRelink ≠ c_RelinkTreeError)
    (s_RE : PySem.W.subIn K (.ref c_InvalidRelink) (.ref c_RelinkTreeError) = some true)
    (ne_TE : c_NameTaken ≠ c_RelinkTreeError)
    (s_TE : PySem.W.subIn K (.ref c_NameTaken) (.ref c_RelinkTreeError) = some false)
    (ne_BE : c_Busy ≠ c_RelinkTreeError)
    (s_BE : PySem.W.subIn K (.ref c_Busy) (.ref c_RelinkTreeError) = some false)
    (ne_LE : c_NotALeaf ≠ c_RelinkTreeError)
    (s_LE : PySem.W.subIn K (.ref c_NotALeaf) (.ref c_RelinkTreeError) = some false)
    (sb_WValueError : PySem.W.subIn K (.ref c_InvalidWord) (.type "ValueError") = some true)
    (sb_NValueError : PySem.W.subIn K (.ref c_InvalidName) (.type "ValueError") = some true)
    (sb_IValueError : PySem.W.subIn K (.ref c_InvalidItem) (.type "ValueError") = some true)
    (sb_RValueError : PySem.W.subIn K (.ref c_InvalidRelink) (.type "ValueError") = some true)
    (sb_WRuntimeError : PySem.W.subIn K (.ref c_InvalidWord) (.type "RuntimeError") = some false)
    (sb_NRuntimeError : PySem.W.subIn K (.ref c_InvalidName) (.type "RuntimeError") = some false)
    (sb_IRuntimeError : PySem.W.subIn K (.ref c_InvalidItem) (.type "RuntimeError") = some false)
    (sb_RRuntimeError : PySem.W.subIn K (.ref c_InvalidRelink) (.type "RuntimeError") = some false)
    (sb_TRuntimeError : PySem.W.subIn K (.ref c_NameTaken) (.type "RuntimeError") = some true)
    (sb_BRuntimeError : PySem.W.subIn K (.ref c_Busy) (.type "RuntimeError") = some true)
    (sb_LRuntimeError : PySem.W.subIn K (.ref c_NotALeaf) (.type "RuntimeError") = some true)
    (bP_W : PySem.W.subIn K (.ref c_InvalidWord) (.type "BaseException") = some true)
    (s_WW : PySem.W.subIn K (.ref c_InvalidWord) (.ref c_InvalidWord) = some true)
    (bP_N : PySem.W.subIn K (.ref c_InvalidName) (.type "BaseException") = some true)
    (bP_I : PySem.W.subIn K (.ref c_InvalidItem) (.type "BaseException") = some true)
    (bP_R : PySem.W.subIn K (.ref c_InvalidRelink) (.type "BaseException") = some true)
    (s_NN : PySem.W.subIn K (.ref c_InvalidName) (.ref c_InvalidName) = some true)
    (s_II : PySem.W.subIn K (.ref c_InvalidItem) (.ref c_InvalidItem) = some true)
    (s_RR : PySem.W.subIn K (.ref c_InvalidRelink) (.ref c_InvalidRelink) = some true)
    (bP_T : PySem.W.subIn K (.ref c_NameTaken) (.type "BaseException") = some true)
    (s_TT : PySem.W.subIn K (.ref c_NameTaken) (.ref c_NameTaken) = some true)
    (bP_B : PySem.W.subIn K (.ref c_Busy) (.type "BaseException") = some true)
    (s_BB : PySem.W.subIn K (.ref c_Busy) (.ref c_Busy) = some true)
    (bP_L : PySem.W.subIn K (.ref c_NotALeaf) (.type "BaseException") = some true)
    (s_LL : PySem.W.subIn K (.ref c_NotALeaf) (.ref c_NotALeaf) = some true)
    (f_Wvalue : PySem.W.findIn K (.ref c_InvalidWord) "value" = some none)
    (f_Nvalue : PySem.W.findIn K (.ref c_InvalidName) "value" = some none)
    (f_Ivalue : PySem.W.findIn K (.ref c_InvalidItem) "value" = some none)
    (f_Rvalue : PySem.W.findIn K (.ref c_InvalidRelink) "value" = some none)
    (f_Tvalue : PySem.W.findIn K (.ref c_NameTaken) "value" = some none)
    (f_Bhost : PySem.W.findIn K (.ref c_Busy) "host" = some none)
    (f_Lhost : PySem.W.findIn K (.ref c_NotALeaf) "host" = some none)
    (qc1 : cd_law_right = .ref c1)
    (lo1 : K.lookup c1 = some o_c1)
    (tb1 : codeTab o_c1 = some P1)
    (hd1 : PySem.W.codeHdIn K c1 P1 = true)
    (nk1 : K.lookup P1 = none)
    (te1 : h.get? P1 = some { cls := .none, data := .fields #[] }) :
    Gy.LawG l w K 14 63 "_law_script" mg fa h := by
  subst qc1
  have e := hfa.symm.trans (PySem.W.mg_of X G a_law)
  cases e
  have F_is_integer_from := fun_mk (st := s_is_integer_from) l_is_integer_from co_is_integer_from k_is_integer_from
  have b_is_integer_from := F_is_integer_from.binds (ps := ["value", "least"]) fun _ _ _ _ _ _ us hl => match us, hl with | [_, _], _ => rfl
  have m_is_integer_from := PySem.W.mg_of X G a_is_integer_from
  have F_is_index := fun_mk (st := s_is_index) l_is_index co_is_index k_is_index
  have b_is_index := F_is_index.binds (ps := ["value", "size"]) fun _ _ _ _ _ _ us hl => match us, hl with | [_, _], _ => rfl
  have m_is_index := PySem.W.mg_of X G a_is_index
  have F_is_text_of := fun_mk (st := s_is_text_of) l_is_text_of co_is_text_of k_is_text_of
  have b_is_text_of := F_is_text_of.binds (ps := ["value", "characters", "longest"]) fun _ _ _ _ _ _ us hl => match us, hl with | [_, _, _], _ => rfl
  have m_is_text_of := PySem.W.mg_of X G a_is_text_of
  have F_is_host_name := fun_mk (st := s_is_host_name) l_is_host_name co_is_host_name k_is_host_name
  have b_is_host_name := F_is_host_name.binds (ps := ["value"]) fun _ _ _ _ _ _ us hl => match us, hl with | [_], _ => rfl
  have m_is_host_name := PySem.W.mg_of X G a_is_host_name
  have F_is_word := fun_mk (st := s_is_word) l_is_word co_is_word k_is_word
  have b_is_word := F_is_word.binds (ps := ["value"]) fun _ _ _ _ _ _ us hl => match us, hl with | [_], _ => rfl
  have m_is_word := PySem.W.mg_of X G a_is_word
  have F_is_relink_path := fun_mk (st := s_is_relink_path) l_is_relink_path co_is_relink_path k_is_relink_path
  have b_is_relink_path := F_is_relink_path.binds (ps := ["value"]) fun _ _ _ _ _ _ us hl => match us, hl with | [_], _ => rfl
  have m_is_relink_path := PySem.W.mg_of X G a_is_relink_path
  have F_is_cut_of := fun_mk (st := s_is_cut_of) l_is_cut_of co_is_cut_of k_is_cut_of
  have b_is_cut_of := F_is_cut_of.binds (ps := ["path", "value"]) fun _ _ _ _ _ _ us hl => match us, hl with | [_, _], _ => rfl
  have m_is_cut_of := PySem.W.mg_of X G a_is_cut_of
  have F_is_relink := fun_mk (st := s_is_relink) l_is_relink co_is_relink k_is_relink
  have b_is_relink := F_is_relink.binds (ps := ["value"]) fun _ _ _ _ _ _ us hl => match us, hl with | [_], _ => rfl
  have m_is_relink := PySem.W.mg_of X G a_is_relink
  have F_check_relink := fun_mk (st := s_check_relink) l_check_relink co_check_relink k_check_relink
  have b_check_relink := F_check_relink.binds (ps := ["value"]) fun _ _ _ _ _ _ us hl => match us, hl with | [_], _ => rfl
  have m_check_relink := PySem.W.mg_of X G a_check_relink
  have F_position := fun_mk (st := s_position) l_position co_position k_position
  have b_position := F_position.binds (ps := ["relink", "host"]) fun _ _ _ _ _ _ us hl => match us, hl with | [_, _], _ => rfl
  have m_position := PySem.W.mg_of X G a_position
  have F_end_bit := fun_mk (st := s_end_bit) l_end_bit co_end_bit k_end_bit
  have b_end_bit := F_end_bit.binds (ps := ["is_over_new_link", "may_cross"]) fun _ _ _ _ _ _ us hl => match us, hl with | [_, _], _ => rfl
  have m_end_bit := PySem.W.mg_of X G a_end_bit
  have F_forward_bit := fun_mk (st := s_forward_bit) l_forward_bit co_forward_bit k_forward_bit
  have b_forward_bit := F_forward_bit.binds (ps := ["relink", "host", "phase", "source", "goal", "bit"]) fun _ _ _ _ _ _ us hl => match us, hl with | [_, _, _, _, _, _], _ => rfl
  have m_forward_bit := PySem.W.mg_of X G a_forward_bit
  have F_forwards := fun_mk (st := s_forwards) l_forwards co_forwards k_forwards
  have m_forwards := PySem.W.mg_of X G a_forwards
  have F_are_message_parts := fun_mk (st := s_are_message_parts) l_are_message_parts co_are_message_parts k_are_message_parts
  have b_are_message_parts := F_are_message_parts.binds (ps := ["parts"]) fun _ _ _ _ _ _ us hl => match us, hl with | [_], _ => rfl
  have m_are_message_parts := PySem.W.mg_of X G a_are_message_parts
  have F_is_control_kind := fun_mk (st := s_is_control_kind) l_is_control_kind co_is_control_kind k_is_control_kind
  have b_is_control_kind := F_is_control_kind.binds (ps := ["value"]) fun _ _ _ _ _ _ us hl => match us, hl with | [_], _ => rfl
  have m_is_control_kind := PySem.W.mg_of X G a_is_control_kind
  have F_is_item := fun_mk (st := s_is_item) l_is_item co_is_item k_is_item
  have b_is_item := F_is_item.binds (ps := ["value"]) fun _ _ _ _ _ _ us hl => match us, hl with | [_], _ => rfl
  have m_is_item := PySem.W.mg_of X G a_is_item
  have F_check_item := fun_mk (st := s_check_item) l_check_item co_check_item k_check_item
  have b_check_item := F_check_item.binds (ps := ["value"]) fun _ _ _ _ _ _ us hl => match us, hl with | [_], _ => rfl
  have m_check_item := PySem.W.mg_of X G a_check_item
  have F_law_pot := fun_mk (st := s_law_pot) l_law_pot co_law_pot k_law_pot
  have b_law_pot := F_law_pot.binds (ps := ["_law_script", "_law_k"]) fun _ _ _ _ _ _ us hl => match us, hl with | [_, _], _ => rfl
  have m_law_pot := PySem.W.mg_of X G a_law_pot
  have F_law_draw := fun_mk (st := s_law_draw) l_law_draw co_law_draw k_law_draw
  have b_law_draw := F_law_draw.binds (ps := ["_law_pot_here", "_law_count"]) fun _ _ _ _ _ _ us hl => match us, hl with | [_, _], _ => rfl
  have m_law_draw := PySem.W.mg_of X G a_law_draw
  have F_law_choose := fun_mk (st := s_law_choose) l_law_choose co_law_choose k_law_choose
  have b_law_choose := F_law_choose.binds (ps := ["_law_pot_here", "_law_values"]) fun _ _ _ _ _ _ us hl => match us, hl with | [_, _], _ => rfl
  have m_law_choose := PySem.W.mg_of X G a_law_choose
  have F_law_name := fun_mk (st := s_law_name) l_law_name co_law_name k_law_name
  have b_law_name := F_law_name.binds (ps := ["_law_pot_here", "_law_used"]) fun _ _ _ _ _ _ us hl => match us, hl with | [_, _], _ => rfl
  have m_law_name := PySem.W.mg_of X G a_law_name
  have F_law_kind := fun_mk (st := s_law_kind) l_law_kind co_law_kind k_law_kind
  have b_law_kind := F_law_kind.binds (ps := ["_law_e"]) fun _ _ _ _ _ _ us hl => match us, hl with | [_], _ => rfl
  have m_law_kind := PySem.W.mg_of X G a_law_kind
  have F_law_told := fun_mk (st := s_law_told) l_law_told co_law_told k_law_told
  have b_law_told := F_law_told.binds (ps := ["_law_call"]) fun _ _ _ _ _ _ us hl => match us, hl with | [_], _ => rfl
  have m_law_told := PySem.W.mg_of X G a_law_told
  have F_law_odd := fun_mk (st := s_law_odd) l_law_odd co_law_odd k_law_odd
  have b_law_odd := F_law_odd.binds (ps := ["_law_pot_here"]) fun _ _ _ _ _ _ us hl => match us, hl with | [_], _ => rfl
  have m_law_odd := PySem.W.mg_of X G a_law_odd
  have F_law_odd_item := fun_mk (st := s_law_odd_item) l_law_odd_item co_law_odd_item k_law_odd_item
  have b_law_odd_item := F_law_odd_item.binds (ps := ["_law_pot_here"]) fun _ _ _ _ _ _ us hl => match us, hl with | [_], _ => rfl
  have m_law_odd_item := PySem.W.mg_of X G a_law_odd_item
  have F_law_shown := fun_mk (st := s_law_shown) l_law_shown co_law_shown k_law_shown
  have b_law_shown := F_law_shown.binds (ps := ["_law_host"]) fun _ _ _ _ _ _ us hl => match us, hl with | [_], _ => rfl
  have m_law_shown := PySem.W.mg_of X G a_law_shown
  have F_law_valid_right := fun_mk (st := s_law_valid_right) l_law_valid_right co_law_valid_right k_law_valid_right
  have b_law_valid_right := F_law_valid_right.binds (ps := ["_law_host", "_law_near", "_law_word", "_law_fresh"]) fun _ _ _ _ _ _ us hl => match us, hl with | [_, _, _, _], _ => rfl
  have m_law_valid_right := PySem.W.mg_of X G a_law_valid_right
  have F_law_right := fun_mk (st := s_law_right) l_law_right co_law_right k_law_right
  have b_law_right := F_law_right.binds (ps := ["_law_pot_here"]) fun _ _ _ _ _ _ us hl => match us, hl with | [_], _ => rfl
  have m_law_right := PySem.W.mg_of X G a_law_right
  have F_law := fun_mk (st := s_law) l_law co_law k_law
  have b_law := F_law.binds (ps := ["_law_script"]) fun _ _ _ _ _ _ us hl => match us, hl with | [_], _ => rfl
  have m_law := PySem.W.mg_of X G a_law
  have w_LETTERS := PySem.W.mg_of X G v_LETTERS
  have w_DIGITS := PySem.W.mg_of X G v_DIGITS
  have w_LONGEST_NAME := PySem.W.mg_of X G v_LONGEST_NAME
  have w_LONGEST_WORD := PySem.W.mg_of X G v_LONGEST_WORD
  have w_SHORTEST_PATH := PySem.W.mg_of X G v_SHORTEST_PATH
  have w_MESSAGE := PySem.W.mg_of X G v_MESSAGE
  have w_BYE := PySem.W.mg_of X G v_BYE
  have w_BITS := PySem.W.mg_of X G v_BITS
  have Y : Bn mg := ⟨PySem.W.mg_none_of X G z_len, PySem.W.mg_none_of X G z_range, PySem.W.mg_none_of X G z_abs, PySem.W.mg_none_of X G z_max, PySem.W.mg_none_of X G z_min, PySem.W.mg_none_of X G z_divmod, PySem.W.mg_none_of X G z_isinstance, PySem.W.mg_none_of X G z_str, PySem.W.mg_none_of X G z_int, PySem.W.mg_none_of X G z_bool, PySem.W.mg_none_of X G z_tuple, PySem.W.mg_none_of X G z_list, PySem.W.mg_none_of X G z_set, PySem.W.mg_none_of X G z_dict, PySem.W.mg_none_of X G z_all, PySem.W.mg_none_of X G z_any, PySem.W.mg_none_of X G z_repr, PySem.W.mg_none_of X G z_sorted, PySem.W.mg_none_of X G z_enumerate, PySem.W.mg_none_of X G z_zip⟩
  refine ⟨PySem.W.fnOf "law" "law" (defArgs s_law) (defBody s_law) (defScope s_law) .none kV_law dc_law pm_law an_law cd_law ct_law, [(c1, P1)], spLawT (TT P1) K, one_of' te1, one_of' nk1, one_of' (PySem.W.codeHd_of_K X hd1), fun s v => .of_eq rfl, fun H a ns hl he hS => ⟨a, ns, rfl, hS, hl, tt_tabs he, fun _ => rfl⟩, fun base _ _ TB => ?_⟩
  have R_InvalidWord := S_InvalidWord.2 l.prog w mg base (PySem.W.mg_of X G e_InvalidWord)
  have R_InvalidName := S_InvalidName.2 l.prog w mg base (PySem.W.mg_of X G e_InvalidName)
  have R_InvalidItem := S_InvalidItem.2 l.prog w mg base (PySem.W.mg_of X G e_InvalidItem)
  have R_InvalidRelink := S_InvalidRelink.2 l.prog w mg base (PySem.W.mg_of X G e_InvalidRelink)
  have R_NameTaken := S_NameTaken.2 l.prog w mg base (PySem.W.mg_of X G e_NameTaken)
  have R_Busy := S_Busy.2 l.prog w mg base (PySem.W.mg_of X G e_Busy)
  have R_NotALeaf := S_NotALeaf.2 l.prog w mg base (PySem.W.mg_of X G e_NotALeaf)
  have R_NotLinked := S_NotLinked.2 l.prog w mg base (PySem.W.mg_of X G e_NotLinked)
  have R_UnknownHost := S_UnknownHost.2 l.prog w mg base (PySem.W.mg_of X G e_UnknownHost)
  have TC : TxtC mg := ⟨⟨_, w_LETTERS⟩, ⟨_, w_LONGEST_NAME⟩⟩
  have TW : TxtW mg := ⟨⟨_, w_DIGITS⟩, ⟨_, w_LONGEST_WORD⟩⟩
  have TI : TxtI mg := ⟨⟨_, w_MESSAGE⟩, ⟨_, w_BYE⟩, ⟨_, w_BITS⟩⟩
  have TK : TxtK K mg := ⟨ck, o_ck, PySem.W.mg_of X G v_CK, l_CK, q_CK⟩
  have CG : Cg K := ⟨cg, ct⟩
  have TCh : Ch K c_Host := ⟨⟨T_pg, T_hd, T_po, T_sa⟩, T_nown_name, T_nlinked, T_nlogged, T_njoined, T_nstage, T_nqueued, T_nfinished⟩
  have gT := PySem.W.mg_of X G e_Host
  have XX : X47 K mg c_InvalidWord c_InvalidName c_InvalidItem c_InvalidRelink c_NameTaken c_Busy c_NotALeaf c_EmptyChannel c_InvalidStep c_InvalidTree c_NotLinked c_TooMany c_UnknownHost c_RelinkTreeError := ⟨(PySem.W.mg_of X G e_InvalidWord), (PySem.W.mg_of X G e_InvalidName), (PySem.W.mg_of X G e_InvalidItem), (PySem.W.mg_of X G e_InvalidRelink), (PySem.W.mg_of X G e_NameTaken), (PySem.W.mg_of X G e_Busy), (PySem.W.mg_of X G e_NotALeaf), (PySem.W.mg_of X G e_EmptyChannel), (PySem.W.mg_of X G e_InvalidStep), (PySem.W.mg_of X G e_InvalidTree), (PySem.W.mg_of X G e_NotLinked), (PySem.W.mg_of X G e_TooMany), (PySem.W.mg_of X G e_UnknownHost), (PySem.W.mg_of X G e_RelinkTreeError), (PySem.W.mg_none_of X G zz_ValueError), (PySem.W.mg_none_of X G zz_RuntimeError), (sev S_InvalidWord.1 S_InvalidName.1 S_InvalidItem.1 S_InvalidRelink.1 S_NameTaken.1 S_Busy.1 S_NotALeaf.1), (sev kit_self (kit_sub ne_NW cl_W tP_W s_NW) (kit_sub ne_IW cl_W tP_W s_IW) (kit_sub ne_RW cl_W tP_W s_RW) (kit_sub ne_TW cl_W tP_W s_TW) (kit_sub ne_BW cl_W tP_W s_BW) (kit_sub ne_LW cl_W tP_W s_LW)), (sev (kit_sub ne_WN cl_N tP_N s_WN) kit_self (kit_sub ne_IN cl_N tP_N s_IN) (kit_sub ne_RN cl_N tP_N s_RN) (kit_sub ne_TN cl_N tP_N s_TN) (kit_sub ne_BN cl_N tP_N s_BN) (kit_sub ne_LN cl_N tP_N s_LN)), (sev (kit_sub ne_WI cl_I tP_I s_WI) (kit_sub ne_NI cl_I tP_I s_NI) kit_self (kit_sub ne_RI cl_I tP_I s_RI) (kit_sub ne_TI cl_I tP_I s_TI) (kit_sub ne_BI cl_I tP_I s_BI) (kit_sub ne_LI cl_I tP_I s_LI)), (sev (kit_sub ne_WR cl_R tP_R s_WR) (kit_sub ne_NR cl_R tP_R s_NR) (kit_sub ne_IR cl_R tP_R s_IR) kit_self (kit_sub ne_TR cl_R tP_R s_TR) (kit_sub ne_BR cl_R tP_R s_BR) (kit_sub ne_LR cl_R tP_R s_LR)), (sev (kit_sub ne_WT cl_T tP_T s_WT) (kit_sub ne_NT cl_T tP_T s_NT) (kit_sub ne_IT cl_T tP_T s_IT) (kit_sub ne_RT cl_T tP_T s_RT) kit_self (kit_sub ne_BT cl_T tP_T s_BT) (kit_sub ne_LT cl_T tP_T s_LT)), (sev (kit_sub ne_WB cl_B tP_B s_WB) (kit_sub ne_NB cl_B tP_B s_NB) (kit_sub ne_IB cl_B tP_B s_IB) (kit_sub ne_RB cl_B tP_B s_RB) (kit_sub ne_TB cl_B tP_B s_TB) kit_self (kit_sub ne_LB cl_B tP_B s_LB)), (sev (kit_sub ne_WL cl_L tP_L s_WL) (kit_sub ne_NL cl_L tP_L s_NL) (kit_sub ne_IL cl_L tP_L s_IL) (kit_sub ne_RL cl_L tP_L s_RL) (kit_sub ne_TL cl_L tP_L s_TL) (kit_sub ne_BL cl_L tP_L s_BL) kit_self), (sev (kit_six (kit_sub ne_Wa cl_a tP_a s_Wa) (kit_sub ne_Wb cl_b tP_b s_Wb) (kit_sub ne_Wc cl_c tP_c s_Wc) (kit_sub ne_WD cl_D tP_D s_WD) (kit_sub ne_Wd cl_d tP_d s_Wd) (kit_sub ne_WU cl_U tP_U s_WU)) (kit_six (kit_sub ne_Na cl_a tP_a s_Na) (kit_sub ne_Nb cl_b tP_b s_Nb) (kit_sub ne_Nc cl_c tP_c s_Nc) (kit_sub ne_ND cl_D tP_D s_ND) (kit_sub ne_Nd cl_d tP_d s_Nd) (kit_sub ne_NU cl_U tP_U s_NU)) (kit_six (kit_sub ne_Ia cl_a tP_a s_Ia) (kit_sub ne_Ib cl_b tP_b s_Ib) (kit_sub ne_Ic cl_c tP_c s_Ic) (kit_sub ne_ID cl_D tP_D s_ID) (kit_sub ne_Id cl_d tP_d s_Id) (kit_sub ne_IU cl_U tP_U s_IU)) (kit_six (kit_sub ne_Ra cl_a tP_a s_Ra) (kit_sub ne_Rb cl_b tP_b s_Rb) (kit_sub ne_Rc cl_c tP_c s_Rc) (kit_sub ne_RD cl_D tP_D s_RD) (kit_sub ne_Rd cl_d tP_d s_Rd) (kit_sub ne_RU cl_U tP_U s_RU)) (kit_six (kit_sub ne_Ta cl_a tP_a s_Ta) (kit_sub ne_Tb cl_b tP_b s_Tb) (kit_sub ne_Tc cl_c tP_c s_Tc) (kit_sub ne_TD cl_D tP_D s_TD) (kit_sub ne_Td cl_d tP_d s_Td) (kit_sub ne_TU cl_U tP_U s_TU)) (kit_six (kit_sub ne_Ba cl_a tP_a s_Ba) (kit_sub ne_Bb cl_b tP_b s_Bb) (kit_sub ne_Bc cl_c tP_c s_Bc) (kit_sub ne_BD cl_D tP_D s_BD) (kit_sub ne_Bd cl_d tP_d s_Bd) (kit_sub ne_BU cl_U tP_U s_BU)) (kit_six (kit_sub ne_La cl_a tP_a s_La) (kit_sub ne_Lb cl_b tP_b s_Lb) (kit_sub ne_Lc cl_c tP_c s_Lc) (kit_sub ne_LD cl_D tP_D s_LD) (kit_sub ne_Ld cl_d tP_d s_Ld) (kit_sub ne_LU cl_U tP_U s_LU))), (sev (kit_sub ne_WE cl_E tP_E s_WE) (kit_sub ne_NE cl_E tP_E s_NE) (kit_sub ne_IE cl_E tP_E s_IE) (kit_sub ne_RE cl_E tP_E s_RE) (kit_sub ne_TE cl_E tP_E s_TE) (kit_sub ne_BE cl_E tP_E s_BE) (kit_sub ne_LE cl_E tP_E s_LE)), (sev (fun _ => (kit_bt (by decide +kernel) sb_WValueError)) (fun _ => (kit_bt (by decide +kernel) sb_NValueError)) (fun _ => (kit_bt (by decide +kernel) sb_IValueError)) (fun _ => (kit_bt (by decide +kernel) sb_RValueError)) (fun z => absurd z (by decide)) (fun z => absurd z (by decide)) (fun z => absurd z (by decide))), (sev (kit_bt (by decide +kernel) sb_WRuntimeError) (kit_bt (by decide +kernel) sb_NRuntimeError) (kit_bt (by decide +kernel) sb_IRuntimeError) (kit_bt (by decide +kernel) sb_RRuntimeError) (kit_bt (by decide +kernel) sb_TRuntimeError) (kit_bt (by decide +kernel) sb_BRuntimeError) (kit_bt (by decide +kernel) sb_LRuntimeError))⟩
  have XT : X47t K c_InvalidWord c_InvalidName c_InvalidItem c_InvalidRelink c_NameTaken c_Busy c_NotALeaf := ⟨(sev (exm_four (exm_of bP_W cl_W tP_W s_WW) (exm_of bP_N cl_N tP_N s_WN) (exm_of bP_I cl_I tP_I s_WI) (exm_of bP_R cl_R tP_R s_WR)) (exm_four (exm_of bP_W cl_W tP_W s_NW) (exm_of bP_N cl_N tP_N s_NN) (exm_of bP_I cl_I tP_I s_NI) (exm_of bP_R cl_R tP_R s_NR)) (exm_four (exm_of bP_W cl_W tP_W s_IW) (exm_of bP_N cl_N tP_N s_IN) (exm_of bP_I cl_I tP_I s_II) (exm_of bP_R cl_R tP_R s_IR)) (exm_four (exm_of bP_W cl_W tP_W s_RW) (exm_of bP_N cl_N tP_N s_RN) (exm_of bP_I cl_I tP_I s_RI) (exm_of bP_R cl_R tP_R s_RR)) (exm_four (exm_of bP_W cl_W tP_W s_TW) (exm_of bP_N cl_N tP_N s_TN) (exm_of bP_I cl_I tP_I s_TI) (exm_of bP_R cl_R tP_R s_TR)) (exm_four (exm_of bP_W cl_W tP_W s_BW) (exm_of bP_N cl_N tP_N s_BN) (exm_of bP_I cl_I tP_I s_BI) (exm_of bP_R cl_R tP_R s_BR)) (exm_four (exm_of bP_W cl_W tP_W s_LW) (exm_of bP_N cl_N tP_N s_LN) (exm_of bP_I cl_I tP_I s_LI) (exm_of bP_R cl_R tP_R s_LR))), (sev (fun z => absurd z (by decide)) (fun z => absurd z (by decide)) (fun z => absurd z (by decide)) (fun z => absurd z (by decide)) (fun _ => (exm_of bP_T cl_T tP_T s_TT)) (fun _ => (exm_of bP_T cl_T tP_T s_BT)) (fun _ => (exm_of bP_T cl_T tP_T s_LT))), (sev (fun z => absurd z (by decide)) (fun z => absurd z (by decide)) (fun z => absurd z (by decide)) (fun z => absurd z (by decide)) (fun z => absurd z (by decide)) (fun _ => exm_two (exm_of bP_B cl_B tP_B s_BB) (exm_of bP_L cl_L tP_L s_BL)) (fun _ => exm_two (exm_of bP_B cl_B tP_B s_LB) (exm_of bP_L cl_L tP_L s_LL))), f_Wvalue, f_Nvalue, f_Ivalue, f_Rvalue, f_Tvalue, f_Bhost, f_Lhost⟩
  have FTm_init := fun_mk (st := m_init) lTm_init cTm_init kTm_init
  have MTm_init : Meth K c_Host "__init__" fTm_init := ⟨aTm_init, iTm_init, kTm_init⟩
  have FTm_name := fun_mk (st := m_name) lTm_name cTm_name kTm_name
  have bTm_name := FTm_name.binds (ps := ["self"]) fun _ _ _ _ _ _ us hl => match us, hl with | [_], _ => rfl
  have MTm_name : Meth K c_Host "name" fTm_name := ⟨aTm_name, iTm_name, kTm_name⟩
  have FTm_log := fun_mk (st := m_log) lTm_log cTm_log kTm_log
  have bTm_log := FTm_log.binds (ps := ["self"]) fun _ _ _ _ _ _ us hl => match us, hl with | [_], _ => rfl
  have MTm_log : Meth K c_Host "log" fTm_log := ⟨aTm_log, iTm_log, kTm_log⟩
  have FTm_links := fun_mk (st := m_links) lTm_links cTm_links kTm_links
  have bTm_links := FTm_links.binds (ps := ["self"]) fun _ _ _ _ _ _ us hl => match us, hl with | [_], _ => rfl
  have MTm_links : Meth K c_Host "links" fTm_links := ⟨aTm_links, iTm_links, kTm_links⟩
  have FTm_answers := fun_mk (st := m_answers) lTm_answers cTm_answers kTm_answers
  have bTm_answers := FTm_answers.binds (ps := ["self"]) fun _ _ _ _ _ _ us hl => match us, hl with | [_], _ => rfl
  have MTm_answers : Meth K c_Host "answers" fTm_answers := ⟨aTm_answers, iTm_answers, kTm_answers⟩
  have FTm_relink := fun_mk (st := m_relink) lTm_relink cTm_relink kTm_relink
  have bTm_relink := FTm_relink.binds (ps := ["self"]) fun _ _ _ _ _ _ us hl => match us, hl with | [_], _ => rfl
  have MTm_relink : Meth K c_Host "relink" fTm_relink := ⟨aTm_relink, iTm_relink, kTm_relink⟩
  have FTm_phase := fun_mk (st := m_phase) lTm_phase cTm_phase kTm_phase
  have bTm_phase := FTm_phase.binds (ps := ["self"]) fun _ _ _ _ _ _ us hl => match us, hl with | [_], _ => rfl
  have MTm_phase : Meth K c_Host "phase" fTm_phase := ⟨aTm_phase, iTm_phase, kTm_phase⟩
  have FTm_queue := fun_mk (st := m_queue) lTm_queue cTm_queue kTm_queue
  have bTm_queue := FTm_queue.binds (ps := ["self"]) fun _ _ _ _ _ _ us hl => match us, hl with | [_], _ => rfl
  have MTm_queue : Meth K c_Host "queue" fTm_queue := ⟨aTm_queue, iTm_queue, kTm_queue⟩
  have FTm_write := fun_mk (st := m_write) lTm_write cTm_write kTm_write
  have bTm_write := FTm_write.binds (ps := ["self", "word"]) fun _ _ _ _ _ _ us hl => match us, hl with | [_, _], _ => rfl
  have MTm_write : Meth K c_Host "write" fTm_write := ⟨aTm_write, iTm_write, kTm_write⟩
  have FTm_ask := fun_mk (st := m_ask) lTm_ask cTm_ask kTm_ask
  have bTm_ask := FTm_ask.binds (ps := ["self", "path", "cut"]) fun _ _ _ _ _ _ us hl => match us, hl with | [_, _, _], _ => rfl
  have MTm_ask : Meth K c_Host "ask" fTm_ask := ⟨aTm_ask, iTm_ask, kTm_ask⟩
  have FTm_receive := fun_mk (st := m_receive) lTm_receive cTm_receive kTm_receive
  have bTm_receive := FTm_receive.binds (ps := ["self", "source", "item"]) fun _ _ _ _ _ _ us hl => match us, hl with | [_, _, _], _ => rfl
  have MTm_receive : Meth K c_Host "receive" fTm_receive := ⟨aTm_receive, iTm_receive, kTm_receive⟩
  have FTm_add_link := fun_mk (st := m_add_link) lTm_add_link cTm_add_link kTm_add_link
  have bTm_add_link := FTm_add_link.binds (ps := ["self", "other"]) fun _ _ _ _ _ _ us hl => match us, hl with | [_, _], _ => rfl
  have MTm_add_link : Meth K c_Host "add_link" fTm_add_link := ⟨aTm_add_link, iTm_add_link, kTm_add_link⟩
  have FTm_leave := fun_mk (st := m_leave) lTm_leave cTm_leave kTm_leave
  have bTm_leave := FTm_leave.binds (ps := ["self"]) fun _ _ _ _ _ _ us hl => match us, hl with | [_], _ => rfl
  have MTm_leave : Meth K c_Host "leave" fTm_leave := ⟨aTm_leave, iTm_leave, kTm_leave⟩
  have FTm_copied := fun_mk (st := m_copied) lTm_copied cTm_copied kTm_copied
  have bTm_copied := FTm_copied.binds (ps := ["self"]) fun _ _ _ _ _ _ us hl => match us, hl with | [_], _ => rfl
  have MTm_copied : Meth K c_Host "copied" fTm_copied := ⟨aTm_copied, iTm_copied, kTm_copied⟩
  have FTm_check_free := fun_mk (st := m_check_free) lTm_check_free cTm_check_free kTm_check_free
  have bTm_check_free := FTm_check_free.binds (ps := ["self"]) fun _ _ _ _ _ _ us hl => match us, hl with | [_], _ => rfl
  have MTm_check_free : Meth K c_Host "check_free" fTm_check_free := ⟨aTm_check_free, iTm_check_free, kTm_check_free⟩
  have FTm_join_to := fun_mk (st := m_join_to) lTm_join_to cTm_join_to kTm_join_to
  have bTm_join_to := FTm_join_to.binds (ps := ["self", "other"]) fun _ _ _ _ _ _ us hl => match us, hl with | [_, _], _ => rfl
  have MTm_join_to : Meth K c_Host "join_to" fTm_join_to := ⟨aTm_join_to, iTm_join_to, kTm_join_to⟩
  obtain ⟨eTm_log_and_forward, nTm_log_and_forward, qTm_log_and_forward⟩ := dqTm_log_and_forward
  have FTm_log_and_forward : FunD K "log_and_forward" "Host.log_and_forward" (defArgs m_log_and_forward) (defBody m_log_and_forward) (defScope m_log_and_forward) [V.non, V.int 0] [] fTm_log_and_forward (PySem.W.fnOf "log_and_forward" "Host.log_and_forward" (defArgs m_log_and_forward) (defBody m_log_and_forward) (defScope m_log_and_forward) (.ref TTm_log_and_forward) kVTm_log_and_forward dcTm_log_and_forward pmTm_log_and_forward anTm_log_and_forward cdTm_log_and_forward ctTm_log_and_forward) := ⟨⟨_, _, _, _, _, _, _, _, _, _, rfl, lTm_log_and_forward, cTm_log_and_forward, .inr ⟨(fun z => nomatch z), TTm_log_and_forward, oTTm_log_and_forward, [Value.none, Value.int 0 eTm_log_and_forward], nTm_log_and_forward, rfl, dlTm_log_and_forward, qTm_log_and_forward, (.cons (show RelV V.non Value.none from rfl) (.cons (show RelV (V.int 0) (Value.int 0 eTm_log_and_forward) from ⟨_, rfl⟩) .nil))⟩, .inl rfl⟩, kTm_log_and_forward⟩
  obtain ⟨dsL, vL, bTm_log_and_forward⟩ := FTm_log_and_forward.binds1 (ps := ["self", "writer", "word", "source", "bit"]) 3 0 (fun z => nomatch z) rfl (fun T kV doc pm an cdv ct us its h1 h2 => match us, its, h1, h2 with | [_, _, _], [_, _], _, _ => ⟨_, rfl, rfl⟩)
  have MTm_log_and_forward : Meth K c_Host "log_and_forward" fTm_log_and_forward := ⟨aTm_log_and_forward, iTm_log_and_forward, kTm_log_and_forward⟩
  have FTm_accept := fun_mk (st := m_accept) lTm_accept cTm_accept kTm_accept
  have bTm_accept := FTm_accept.binds (ps := ["self", "source", "item"]) fun _ _ _ _ _ _ us hl => match us, hl with | [_, _, _], _ => rfl
  have MTm_accept : Meth K c_Host "accept" fTm_accept := ⟨aTm_accept, iTm_accept, kTm_accept⟩
  have MKT : Mk K c_Host fTm_init := ⟨T_mk, aTm_init, iTm_init, T_kc⟩
  have G_is_integer_from := (⟨⟨_, _, m_is_integer_from, k_is_integer_from, b_is_integer_from, ok_from F_is_integer_from Y⟩⟩ : Fk l.prog w K mg base _ _ "is_integer_from" _ _)
  have G_is_index := (⟨⟨_, _, m_is_index, k_is_index, b_is_index, ok_idx F_is_index G_is_integer_from⟩⟩ : Fk l.prog w K mg base _ _ "is_index" _ _)
  have G_is_text_of := (⟨⟨_, _, m_is_text_of, k_is_text_of, b_is_text_of, ok_text F_is_text_of Y⟩⟩ : Fk l.prog w K mg base _ _ "is_text_of" _ _)
  have G_is_host_name := (⟨⟨_, _, m_is_host_name, k_is_host_name, b_is_host_name, ok_host F_is_host_name TC G_is_text_of⟩⟩ : Fk l.prog w K mg base _ _ "is_host_name" _ _)
  have G_is_word := (⟨⟨_, _, m_is_word, k_is_word, b_is_word, ok_word F_is_word TC TW G_is_text_of⟩⟩ : Fk l.prog w K mg base _ _ "is_word" _ _)
  have G_is_relink_path := (⟨⟨_, _, m_is_relink_path, k_is_relink_path, b_is_relink_path, ok_path F_is_relink_path Y ⟨_, w_SHORTEST_PATH⟩ G_is_host_name⟩⟩ : Fk l.prog w K mg base _ _ "is_relink_path" _ _)
  have G_is_cut_of := (⟨⟨_, _, m_is_cut_of, k_is_cut_of, b_is_cut_of, ok_cut F_is_cut_of Y G_is_index⟩⟩ : Fk l.prog w K mg base _ _ "is_cut_of" _ _)
  have G_is_relink := (⟨⟨_, _, m_is_relink, k_is_relink, b_is_relink, ok_rel F_is_relink Y G_is_relink_path G_is_cut_of⟩⟩ : Fk l.prog w K mg base _ _ "is_relink" _ _)
  have G_check_relink := (⟨⟨_, _, m_check_relink, k_check_relink, b_check_relink, ok_chk F_check_relink R_InvalidRelink G_is_relink⟩⟩ : Fk l.prog w K mg base _ _ "check_relink" _ _)
  have G_position := (⟨⟨_, _, m_position, k_position, b_position, ok_pos F_position R_UnknownHost G_check_relink G_is_host_name⟩⟩ : Fk l.prog w K mg base _ _ "position" _ _)
  have G_end_bit := (⟨⟨_, _, m_end_bit, k_end_bit, b_end_bit, ok_end F_end_bit⟩⟩ : Fk l.prog w K mg base _ _ "end_bit" _ _)
  have G_forward_bit := (⟨⟨_, _, m_forward_bit, k_forward_bit, b_forward_bit, ok_fwd F_forward_bit Y G_position G_end_bit⟩⟩ : Fk l.prog w K mg base _ _ "forward_bit" _ _)
  have GP_forwards := (⟨⟨_, _, _, m_forwards, k_forwards, kbn_fwd F_forwards (ps := ["links", "source", "bit", "relink", "host", "phase"]) (ks := ["source", "bit", "relink", "host", "phase"]) (n := 1) (fun _ _ _ _ _ _ us ws h1 h2 => match us, ws, h1, h2 with | [_], [_, _, _, _, _], _, _ => rfl), ok_forw F_forwards Y G_position G_forward_bit⟩⟩ : Fw l.prog w K mg base _ _ "forwards" _ _ _ _ _)
  have G_are_message_parts := (⟨⟨_, _, m_are_message_parts, k_are_message_parts, b_are_message_parts, ok_msg F_are_message_parts Y TI G_is_host_name G_is_word G_is_index⟩⟩ : Fk l.prog w K mg base _ _ "are_message_parts" _ _)
  have G_is_control_kind := (⟨⟨_, _, m_is_control_kind, k_is_control_kind, b_is_control_kind, ok_kind F_is_control_kind Y TK⟩⟩ : Fk l.prog w K mg base _ _ "is_control_kind" _ _)
  have G_is_item := (⟨⟨_, _, m_is_item, k_is_item, b_is_item, ok_item F_is_item Y TI G_are_message_parts G_is_control_kind G_is_relink⟩⟩ : Fk l.prog w K mg base _ _ "is_item" _ _)
  have G_check_item := (⟨⟨_, _, m_check_item, k_check_item, b_check_item, ok_chkI F_check_item R_InvalidItem G_is_item⟩⟩ : Fk l.prog w K mg base _ _ "check_item" _ _)
  have OKI := ok_hinit (C := c_Host) (P := l.prog) (w := w) (base := base) FTm_init Y TCh
  have MIH : MkH l.prog w K mg base c_Host := ⟨gT, ⟨_, _, _, MKT, kbn_fwd FTm_init (ps := ["self", "name", "links", "log"]) (ks := ["links", "log"]) (n := 2) (fun _ _ _ _ _ _ us ws h1 h2 => match us, ws, h1, h2 with | [_, _], [_, _], _, _ => rfl), OKI⟩⟩
  have M_name := (⟨⟨_, _, MTm_name, bTm_name, ok_name_ (C := c_Host) (P := l.prog) (w := w) (base := base) FTm_name TCh⟩⟩ : Fm l.prog w K mg base _ _ c_Host "name" _ _)
  have M_log := (⟨⟨_, _, MTm_log, bTm_log, ok_log_ (C := c_Host) (P := l.prog) (w := w) (base := base) FTm_log Y TCh⟩⟩ : Fm l.prog w K mg base _ _ c_Host "log" _ _)
  have M_links := (⟨⟨_, _, MTm_links, bTm_links, ok_links_ (C := c_Host) (P := l.prog) (w := w) (base := base) FTm_links Y TCh⟩⟩ : Fm l.prog w K mg base _ _ c_Host "links" _ _)
  have M_answers := (⟨⟨_, _, MTm_answers, bTm_answers, ok_answers_ (C := c_Host) (P := l.prog) (w := w) (base := base) FTm_answers Y TCh⟩⟩ : Fm l.prog w K mg base _ _ c_Host "answers" _ _)
  have M_relink := (⟨⟨_, _, MTm_relink, bTm_relink, ok_relink_ (C := c_Host) (P := l.prog) (w := w) (base := base) FTm_relink TCh⟩⟩ : Fm l.prog w K mg base _ _ c_Host "relink" _ _)
  have M_phase := (⟨⟨_, _, MTm_phase, bTm_phase, ok_phase_ (C := c_Host) (P := l.prog) (w := w) (base := base) FTm_phase TCh⟩⟩ : Fm l.prog w K mg base _ _ c_Host "phase" _ _)
  have M_queue := (⟨⟨_, _, MTm_queue, bTm_queue, ok_queue_ (C := c_Host) (P := l.prog) (w := w) (base := base) FTm_queue Y TCh⟩⟩ : Fm l.prog w K mg base _ _ c_Host "queue" _ _)
  have M_check_free := (⟨⟨_, _, MTm_check_free, bTm_check_free, ok_cf (C := c_Host) (P := l.prog) (w := w) (base := base) FTm_check_free TCh R_Busy⟩⟩ : Fm l.prog w K mg base _ _ c_Host "check_free" _ _)
  have M_leave := (⟨⟨_, _, MTm_leave, bTm_leave, ok_leave (C := c_Host) (P := l.prog) (w := w) (base := base) FTm_leave Y TCh R_NotALeaf M_check_free⟩⟩ : Fm l.prog w K mg base _ _ c_Host "leave" _ _)
  have M_join_to := (⟨⟨_, _, MTm_join_to, bTm_join_to, ok_join (C := c_Host) (P := l.prog) (w := w) (base := base) FTm_join_to Y TCh⟩⟩ : Fm l.prog w K mg base _ _ c_Host "join_to" _ _)
  have M_add_link := (⟨⟨_, _, MTm_add_link, bTm_add_link, ok_addl (C := c_Host) (P := l.prog) (w := w) (base := base) FTm_add_link Y TCh R_InvalidName R_NameTaken G_is_host_name M_join_to⟩⟩ : Fm l.prog w K mg base _ _ c_Host "add_link" _ _)
  have M_copied := (⟨⟨_, _, MTm_copied, bTm_copied, ok_copied (C := c_Host) (P := l.prog) (w := w) (base := base) FTm_copied Y TCh MIH⟩⟩ : Fm l.prog w K mg base _ _ c_Host "copied" _ _)
  have M_laf := (⟨⟨_, _, dsL, MTm_log_and_forward, vL, bTm_log_and_forward, ok_laf (C := c_Host) (P := l.prog) (w := w) (base := base) FTm_log_and_forward Y TCh GP_forwards⟩⟩ : FmD l.prog w K mg base _ _ c_Host "log_and_forward" _ _ _)
  have M_accept : Fm l.prog w K mg base CX0 1 c_Host "accept" ["self", "source", "item"] spNo := ⟨⟨_, _, MTm_accept, bTm_accept, ⟨fun _ _ _ _ h => h.elim, fun _ _ _ _ _ _ _ _ _ _ _ _ _ h => h.elim⟩⟩⟩
  have M_write := (⟨⟨_, _, MTm_write, bTm_write, ok_write (C := c_Host) (P := l.prog) (w := w) (base := base) FTm_write Y TCh R_InvalidWord G_is_word M_laf⟩⟩ : Fm l.prog w K mg base _ _ c_Host "write" _ _)
  have M_receive := (⟨⟨_, _, MTm_receive, bTm_receive, ok_recv (C := c_Host) (P := l.prog) (w := w) (base := base) FTm_receive Y TCh R_InvalidName G_is_host_name G_check_item M_accept⟩⟩ : Fm l.prog w K mg base _ _ c_Host "receive" _ _)
  have M_ask := (⟨⟨_, _, MTm_ask, bTm_ask, ok_ask (C := c_Host) (P := l.prog) (w := w) (base := base) FTm_ask Y TCh R_InvalidRelink R_NotLinked G_is_relink M_check_free⟩⟩ : Fm l.prog w K mg base _ _ c_Host "ask" _ _)
  have FTR : FunT K "_law_right" "_law_right" s_law_right f_law_right _ (.ref c1) := ⟨⟨_, _, _, _, _, _, _, _, rfl, l_law_right, co_law_right⟩⟩
  have G_law_pot := (⟨⟨_, _, m_law_pot, k_law_pot, b_law_pot, ok_pot F_law_pot Y⟩⟩ : Fk l.prog w K mg base _ _ "_law_pot" _ _)
  have G_law_draw := (⟨⟨_, _, m_law_draw, k_law_draw, b_law_draw, ok_draw F_law_draw Y⟩⟩ : Fk l.prog w K mg base _ _ "_law_draw" _ _)
  have G_law_choose := (⟨⟨_, _, m_law_choose, k_law_choose, b_law_choose, ok_choose F_law_choose Y G_law_draw⟩⟩ : Fk l.prog w K mg base _ _ "_law_choose" _ _)
  have G_law_name := (⟨⟨_, _, m_law_name, k_law_name, b_law_name, ok_name F_law_name Y G_law_draw⟩⟩ : Fk l.prog w K mg base _ _ "_law_name" _ _)
  have KF := (⟨⟨_, _, m_law_kind, k_law_kind, b_law_kind, ok_lkind F_law_kind Y CG XX⟩⟩ : Fp l.prog w K mg base 1 "_law_kind" _ _)
  have RF : TldF K mg := ⟨⟨_, _, m_law_told, k_law_told, b_law_told, F_law_told⟩⟩
  have G_law_odd := (⟨⟨_, _, m_law_odd, k_law_odd, b_law_odd, ok_odd F_law_odd Y G_law_choose⟩⟩ : Fk l.prog w K mg base _ _ "_law_odd" _ _)
  have G_law_odd_item := (⟨⟨_, _, m_law_odd_item, k_law_odd_item, b_law_odd_item, ok_oddI F_law_odd_item Y G_law_choose G_law_odd⟩⟩ : Fk l.prog w K mg base _ _ "_law_odd_item" _ _)
  have G_law_shown := (⟨⟨_, _, m_law_shown, k_law_shown, b_law_shown, ok_shown F_law_shown Y TCh M_name M_log M_links M_answers M_relink M_phase M_queue⟩⟩ : Fg l.prog w K mg base _ _ "_law_shown" _ _)
  have G_law_valid_right := (⟨⟨_, _, m_law_valid_right, k_law_valid_right, b_law_valid_right, ok_vr F_law_valid_right Y TCh M_phase M_copied M_leave M_write M_add_link⟩⟩ : Fk l.prog w K mg base _ _ "_law_valid_right" _ _)
  have G_law_right := (⟨⟨_, _, m_law_right, k_law_right, b_law_right, ok_right FTR Y CG TCh MIH RF XX XT KF (TB (c1, P1) List.mem_cons_self) tt_1 tu_1 M_write M_receive M_add_link M_ask M_leave G_law_draw G_law_choose G_law_name G_law_odd G_law_odd_item G_law_shown G_law_valid_right⟩⟩ : Fg l.prog w K mg base _ _ "_law_right" _ _)
  exact ok_law (T := TT P1) F_law Y G_law_pot G_law_right
end My

open PySem PySem.W PyProof.Rows in
set_option maxRecDepth 100000 in
set_option maxHeartbeats 0 in
theorem PySem.Challenge.cw_relinktree_k47_errors_of_hosts_holds : PySem.Challenge.rw_relinktree_k47_errors_of_hosts.Holds := by
  w_on; o_law; k_head; (case hw => w_witness2)
  k_fill
  refine Gy.walk_gT (l := PySem.Challenge.rw_relinktree_k47_errors_of_hosts) (n := 63) (k := 14) (x := "_law_script") rfl (by decide) rfl ⟨rfl, by decide, by decide⟩ (fun w h Y => PySem.W.km_in_of Y) ?F
  case F =>
    intro w mg fa h YY KX G hmg
    refine' My.all_mk KX G hmg ?a_is_integer_from ?l_is_integer_from ?co_is_integer_from ?k_is_integer_from ?a_is_index ?l_is_index ?co_is_index ?k_is_index ?a_is_text_of ?l_is_text_of ?co_is_text_of ?k_is_text_of ?a_is_host_name ?l_is_host_name ?co_is_host_name ?k_is_host_name ?a_is_word ?l_is_word ?co_is_word ?k_is_word ?a_is_relink_path ?l_is_relink_path ?co_is_relink_path ?k_is_relink_path ?a_is_cut_of ?l_is_cut_of ?co_is_cut_of ?k_is_cut_of ?a_is_relink ?l_is_relink ?co_is_relink ?k_is_relink ?a_check_relink ?l_check_relink ?co_check_relink ?k_check_relink ?a_position ?l_position ?co_position ?k_position ?a_end_bit ?l_end_bit ?co_end_bit ?k_end_bit ?a_forward_bit ?l_forward_bit ?co_forward_bit ?k_forward_bit ?a_forwards ?l_forwards ?co_forwards ?k_forwards ?a_are_message_parts ?l_are_message_parts ?co_are_message_parts ?k_are_message_parts ?a_is_control_kind ?l_is_control_kind ?co_is_control_kind ?k_is_control_kind ?a_is_item ?l_is_item ?co_is_item ?k_is_item ?a_check_item ?l_check_item ?co_check_item ?k_check_item ?a_law_pot ?l_law_pot ?co_law_pot ?k_law_pot ?a_law_draw ?l_law_draw ?co_law_draw ?k_law_draw ?a_law_choose ?l_law_choose ?co_law_choose ?k_law_choose ?a_law_name ?l_law_name ?co_law_name ?k_law_name ?a_law_kind ?l_law_kind ?co_law_kind ?k_law_kind ?a_law_told ?l_law_told ?co_law_told ?k_law_told ?a_law_odd ?l_law_odd ?co_law_odd ?k_law_odd ?a_law_odd_item ?l_law_odd_item ?co_law_odd_item ?k_law_odd_item ?a_law_shown ?l_law_shown ?co_law_shown ?k_law_shown ?a_law_valid_right ?l_law_valid_right ?co_law_valid_right ?k_law_valid_right ?a_law_right ?l_law_right ?co_law_right ?k_law_right ?a_law ?l_law ?co_law ?k_law ?v_LETTERS ?v_DIGITS ?v_LONGEST_NAME ?v_LONGEST_WORD ?v_SHORTEST_PATH ?v_MESSAGE ?v_BYE ?v_BITS ?z_len ?z_range ?z_abs ?z_max ?z_min ?z_divmod ?z_isinstance ?z_str ?z_int ?z_bool ?z_tuple ?z_list ?z_set ?z_dict ?z_all ?z_any ?z_repr ?z_sorted ?z_enumerate ?z_zip ?e_InvalidWord ?S_InvalidWord ?e_InvalidName ?S_InvalidName ?e_InvalidItem ?S_InvalidItem ?e_InvalidRelink ?S_InvalidRelink ?e_NameTaken ?S_NameTaken ?e_Busy ?S_Busy ?e_NotALeaf ?S_NotALeaf ?e_NotLinked ?S_NotLinked ?e_UnknownHost ?S_UnknownHost ?v_CK ?l_CK ?q_CK ?e_Host ?T_pg ?T_hd ?T_po ?T_sa ?T_mk ?T_kc ?T_nown_name ?T_nlinked ?T_nlogged ?T_njoined ?T_nstage ?T_nqueued ?T_nfinished ?aTm_init ?iTm_init ?lTm_init ?cTm_init ?kTm_init ?aTm_name ?iTm_name ?lTm_name ?cTm_name ?kTm_name ?aTm_log ?iTm_log ?lTm_log ?cTm_log ?kTm_log ?aTm_links ?iTm_links ?lTm_links ?cTm_links ?kTm_links ?aTm_answers ?iTm_answers ?lTm_answers ?cTm_answers ?kTm_answers ?aTm_relink ?iTm_relink ?lTm_relink ?cTm_relink ?kTm_relink ?aTm_phase ?iTm_phase ?lTm_phase ?cTm_phase ?kTm_phase ?aTm_queue ?iTm_queue ?lTm_queue ?cTm_queue ?kTm_queue ?aTm_write ?iTm_write ?lTm_write ?cTm_write ?kTm_write ?aTm_ask ?iTm_ask ?lTm_ask ?cTm_ask ?kTm_ask ?aTm_receive ?iTm_receive ?lTm_receive ?cTm_receive ?kTm_receive ?aTm_add_link ?iTm_add_link ?lTm_add_link ?cTm_add_link ?kTm_add_link ?aTm_leave ?iTm_leave ?lTm_leave ?cTm_leave ?kTm_leave ?aTm_copied ?iTm_copied ?lTm_copied ?cTm_copied ?kTm_copied ?aTm_check_free ?iTm_check_free ?lTm_check_free ?cTm_check_free ?kTm_check_free ?aTm_join_to ?iTm_join_to ?lTm_join_to ?cTm_join_to ?kTm_join_to ?aTm_log_and_forward ?iTm_log_and_forward ?lTm_log_and_forward ?cTm_log_and_forward ?kTm_log_and_forward ?dlTm_log_and_forward ?dqTm_log_and_forward ?aTm_accept ?iTm_accept ?lTm_accept ?cTm_accept ?kTm_accept ?cg ?ct ?cl_W ?tP_W ?cl_N ?tP_N ?cl_I ?tP_I ?cl_R ?tP_R ?cl_T ?tP_T ?cl_B ?tP_B ?cl_L ?tP_L ?e_EmptyChannel ?cl_a ?tP_a ?e_InvalidStep ?cl_b ?tP_b ?e_InvalidTree ?cl_c ?tP_c ?cl_D ?tP_D ?e_TooMany ?cl_d ?tP_d ?cl_U ?tP_U ?e_RelinkTreeError ?cl_E ?tP_E ?zz_ValueError ?zz_RuntimeError ?ne_NW ?s_NW ?ne_IW ?s_IW ?ne_RW ?s_RW ?ne_TW ?s_TW ?ne_BW ?s_BW ?ne_LW ?s_LW ?ne_WN ?s_WN ?ne_IN ?s_IN ?ne_RN ?s_RN ?ne_TN ?s_TN ?ne_BN ?s_BN ?ne_LN ?s_LN ?ne_WI ?s_WI ?ne_NI ?s_NI ?ne_RI ?s_RI ?ne_TI ?s_TI ?ne_BI ?s_BI ?ne_LI ?s_LI ?ne_WR ?s_WR ?ne_NR ?s_NR ?ne_IR ?s_IR ?ne_TR ?s_TR ?ne_BR ?s_BR ?ne_LR ?s_LR ?ne_WT ?s_WT ?ne_NT ?s_NT ?ne_IT ?s_IT ?ne_RT ?s_RT ?ne_BT ?s_BT ?ne_LT ?s_LT ?ne_WB ?s_WB ?ne_NB ?s_NB ?ne_IB ?s_IB ?ne_RB ?s_RB ?ne_TB ?s_TB ?ne_LB ?s_LB ?ne_WL ?s_WL ?ne_NL ?s_NL ?ne_IL ?s_IL ?ne_RL ?s_RL ?ne_TL ?s_TL ?ne_BL ?s_BL ?ne_Wa ?s_Wa ?ne_Wb ?s_Wb ?ne_Wc ?s_Wc ?ne_WD ?s_WD ?ne_Wd ?s_Wd ?ne_WU ?s_WU ?ne_Na ?s_Na ?ne_Nb ?s_Nb ?ne_Nc ?s_Nc ?ne_ND ?s_ND ?ne_Nd ?s_Nd ?ne_NU ?s_NU ?ne_Ia ?s_Ia ?ne_Ib ?s_Ib ?ne_Ic ?s_Ic ?ne_ID ?s_ID ?ne_Id ?s_Id ?ne_IU ?s_IU ?ne_Ra ?s_Ra ?ne_Rb ?s_Rb ?ne_Rc ?s_Rc ?ne_RD ?s_RD ?ne_Rd ?s_Rd ?ne_RU ?s_RU ?ne_Ta ?s_Ta ?ne_Tb ?s_Tb ?ne_Tc ?s_Tc ?ne_TD ?s_TD ?ne_Td ?s_Td ?ne_TU ?s_TU ?ne_Ba ?s_Ba ?ne_Bb ?s_Bb ?ne_Bc ?s_Bc ?ne_BD ?s_BD ?ne_Bd ?s_Bd ?ne_BU ?s_BU ?ne_La ?s_La ?ne_Lb ?s_Lb ?ne_Lc ?s_Lc ?ne_LD ?s_LD ?ne_Ld ?s_Ld ?ne_LU ?s_LU ?ne_WE ?s_WE ?ne_NE ?s_NE ?ne_IE ?s_IE ?ne_RE ?s_RE ?ne_TE ?s_TE ?ne_BE ?s_BE ?ne_LE ?s_LE ?sb_WValueError ?sb_NValueError ?sb_IValueError ?sb_RValueError ?sb_WRuntimeError ?sb_NRuntimeError ?sb_IRuntimeError ?sb_RRuntimeError ?sb_TRuntimeError ?sb_BRuntimeError ?sb_LRuntimeError ?bP_W ?s_WW ?bP_N ?bP_I ?bP_R ?s_NN ?s_II ?s_RR ?bP_T ?s_TT ?bP_B ?s_BB ?bP_L ?s_LL ?f_Wvalue ?f_Nvalue ?f_Ivalue ?f_Rvalue ?f_Tvalue ?f_Bhost ?f_Lhost ?qc1 ?lo1 ?tb1 ?hd1 ?nk1 ?te1
    (case a_is_integer_from => k_is)
    (case l_is_integer_from => k_is)
    (case co_is_integer_from => k_is)
    (case k_is_integer_from => k_is)
    (case a_is_index => k_is)
    (case l_is_index => k_is)
    (case co_is_index => k_is)
    (case k_is_index => k_is)
    (case a_is_text_of => k_is)
    (case l_is_text_of => k_is)
    (case co_is_text_of => k_is)
    (case k_is_text_of => k_is)
    (case a_is_host_name => k_is)
    (case l_is_host_name => k_is)
    (case co_is_host_name => k_is)
    (case k_is_host_name => k_is)
    (case a_is_word => k_is)
    (case l_is_word => k_is)
    (case co_is_word => k_is)
    (case k_is_word => k_is)
    (case a_is_relink_path => k_is)
    (case l_is_relink_path => k_is)
    (case co_is_relink_path => k_is)
    (case k_is_relink_path => k_is)
    (case a_is_cut_of => k_is)
    (case l_is_cut_of => k_is)
    (case co_is_cut_of => k_is)
    (case k_is_cut_of => k_is)
    (case a_is_relink => k_is)
    (case l_is_relink => k_is)
    (case co_is_relink => k_is)
    (case k_is_relink => k_is)
    (case a_check_relink => k_is)
    (case l_check_relink => k_is)
    (case co_check_relink => k_is)
    (case k_check_relink => k_is)
    (case a_position => k_is)
    (case l_position => k_is)
    (case co_position => k_is)
    (case k_position => k_is)
    (case a_end_bit => k_is)
    (case l_end_bit => k_is)
    (case co_end_bit => k_is)
    (case k_end_bit => k_is)
    (case a_forward_bit => k_is)
    (case l_forward_bit => k_is)
    (case co_forward_bit => k_is)
    (case k_forward_bit => k_is)
    (case a_forwards => k_is)
    (case l_forwards => k_is)
    (case co_forwards => k_is)
    (case k_forwards => k_is)
    (case a_are_message_parts => k_is)
    (case l_are_message_parts => k_is)
    (case co_are_message_parts => k_is)
    (case k_are_message_parts => k_is)
    (case a_is_control_kind => k_is)
    (case l_is_control_kind => k_is)
    (case co_is_control_kind => k_is)
    (case k_is_control_kind => k_is)
    (case a_is_item => k_is)
    (case l_is_item => k_is)
    (case co_is_item => k_is)
    (case k_is_item => k_is)
    (case a_check_item => k_is)
    (case l_check_item => k_is)
    (case co_check_item => k_is)
    (case k_check_item => k_is)
    (case a_law_pot => k_is)
    (case l_law_pot => k_is)
    (case co_law_pot => k_is)
    (case k_law_pot => k_is)
    (case a_law_draw => k_is)
    (case l_law_draw => k_is)
    (case co_law_draw => k_is)
    (case k_law_draw => k_is)
    (case a_law_choose => k_is)
    (case l_law_choose => k_is)
    (case co_law_choose => k_is)
    (case k_law_choose => k_is)
    (case a_law_name => k_is)
    (case l_law_name => k_is)
    (case co_law_name => k_is)
    (case k_law_name => k_is)
    (case a_law_kind => k_is)
    (case l_law_kind => k_is)
    (case co_law_kind => k_is)
    (case k_law_kind => k_is)
    (case a_law_told => k_is)
    (case l_law_told => k_is)
    (case co_law_told => k_is)
    (case k_law_told => k_is)
    (case a_law_odd => k_is)
    (case l_law_odd => k_is)
    (case co_law_odd => k_is)
    (case k_law_odd => k_is)
    (case a_law_odd_item => k_is)
    (case l_law_odd_item => k_is)
    (case co_law_odd_item => k_is)
    (case k_law_odd_item => k_is)
    (case a_law_shown => k_is)
    (case l_law_shown => k_is)
    (case co_law_shown => k_is)
    (case k_law_shown => k_is)
    (case a_law_valid_right => k_is)
    (case l_law_valid_right => k_is)
    (case co_law_valid_right => k_is)
    (case k_law_valid_right => k_is)
    (case a_law_right => k_is)
    (case l_law_right => k_is)
    (case co_law_right => k_is)
    (case k_law_right => k_is)
    (case a_law => k_is)
    (case l_law => k_is)
    (case co_law => k_is)
    (case k_law => k_is)
    (case v_LETTERS => k_is)
    (case v_DIGITS => k_is)
    (case v_LONGEST_NAME => k_is)
    (case v_LONGEST_WORD => k_is)
    (case v_SHORTEST_PATH => k_is)
    (case v_MESSAGE => k_is)
    (case v_BYE => k_is)
    (case v_BITS => k_is)
    (case z_len => k_is)
    (case z_range => k_is)
    (case z_abs => k_is)
    (case z_max => k_is)
    (case z_min => k_is)
    (case z_divmod => k_is)
    (case z_isinstance => k_is)
    (case z_str => k_is)
    (case z_int => k_is)
    (case z_bool => k_is)
    (case z_tuple => k_is)
    (case z_list => k_is)
    (case z_set => k_is)
    (case z_dict => k_is)
    (case z_all => k_is)
    (case z_any => k_is)
    (case z_repr => k_is)
    (case z_sorted => k_is)
    (case z_enumerate => k_is)
    (case z_zip => k_is)
    (case e_InvalidWord => k_is)
    (case S_InvalidWord =>
      refine' My.raw_InvalidWord ?ii ?ov ?sa ?ga ?gg ?ca ?ex ?ob ?hd ?kp ?ty ?ini ?tf ?li ?ci ?ki ?n0
      (case ii => kx_is)
      (case ov => kx_is)
      (case sa => k_is)
      (case ga => k_is)
      (case gg => k_is)
      (case ca => k_is)
      (case ex => k_is)
      (case ob => k_is)
      (case hd => k_is)
      (case kp => k_is)
      (case ty => k_is)
      (case ini => k_is)
      (case tf => k_is)
      (case li => k_is)
      (case ci => k_is)
      (case ki => k_is)
      (case n0 => k_is))
    (case e_InvalidName => k_is)
    (case S_InvalidName =>
      refine' My.raw_InvalidName ?ii ?ov ?sa ?ga ?gg ?ca ?ex ?ob ?hd ?kp ?ty ?ini ?tf ?li ?ci ?ki ?n0
      (case ii => kx_is)
      (case ov => kx_is)
      (case sa => k_is)
      (case ga => k_is)
      (case gg => k_is)
      (case ca => k_is)
      (case ex => k_is)
      (case ob => k_is)
      (case hd => k_is)
      (case kp => k_is)
      (case ty => k_is)
      (case ini => k_is)
      (case tf => k_is)
      (case li => k_is)
      (case ci => k_is)
      (case ki => k_is)
      (case n0 => k_is))
    (case e_InvalidItem => k_is)
    (case S_InvalidItem =>
      refine' My.raw_InvalidItem ?ii ?ov ?sa ?ga ?gg ?ca ?ex ?ob ?hd ?kp ?ty ?ini ?tf ?li ?ci ?ki ?n0
      (case ii => kx_is)
      (case ov => kx_is)
      (case sa => k_is)
      (case ga => k_is)
      (case gg => k_is)
      (case ca => k_is)
      (case ex => k_is)
      (case ob => k_is)
      (case hd => k_is)
      (case kp => k_is)
      (case ty => k_is)
      (case ini => k_is)
      (case tf => k_is)
      (case li => k_is)
      (case ci => k_is)
      (case ki => k_is)
      (case n0 => k_is))
    (case e_InvalidRelink => k_is)
    (case S_InvalidRelink =>
      refine' My.raw_InvalidRelink ?ii ?ov ?sa ?ga ?gg ?ca ?ex ?ob ?hd ?kp ?ty ?ini ?tf ?li ?ci ?ki ?n0
      (case ii => kx_is)
      (case ov => kx_is)
      (case sa => k_is)
      (case ga => k_is)
      (case gg => k_is)
      (case ca => k_is)
      (case ex => k_is)
      (case ob => k_is)
      (case hd => k_is)
      (case kp => k_is)
      (case ty => k_is)
      (case ini => k_is)
      (case tf => k_is)
      (case li => k_is)
      (case ci => k_is)
      (case ki => k_is)
      (case n0 => k_is))
    (case e_NameTaken => k_is)
    (case S_NameTaken =>
      refine' My.raw_NameTaken ?ii ?ov ?sa ?ga ?gg ?ca ?ex ?ob ?hd ?kp ?ty ?ini ?tf ?li ?ci ?ki ?n0
      (case ii => kx_is)
      (case ov => kx_is)
      (case sa => k_is)
      (case ga => k_is)
      (case gg => k_is)
      (case ca => k_is)
      (case ex => k_is)
      (case ob => k_is)
      (case hd => k_is)
      (case kp => k_is)
      (case ty => k_is)
      (case ini => k_is)
      (case tf => k_is)
      (case li => k_is)
      (case ci => k_is)
      (case ki => k_is)
      (case n0 => k_is))
    (case e_Busy => k_is)
    (case S_Busy =>
      refine' My.raw_Busy ?ii ?ov ?sa ?ga ?gg ?ca ?ex ?ob ?hd ?kp ?ty ?ini ?tf ?li ?ci ?ki ?n0
      (case ii => kx_is)
      (case ov => kx_is)
      (case sa => k_is)
      (case ga => k_is)
      (case gg => k_is)
      (case ca => k_is)
      (case ex => k_is)
      (case ob => k_is)
      (case hd => k_is)
      (case kp => k_is)
      (case ty => k_is)
      (case ini => k_is)
      (case tf => k_is)
      (case li => k_is)
      (case ci => k_is)
      (case ki => k_is)
      (case n0 => k_is))
    (case e_NotALeaf => k_is)
    (case S_NotALeaf =>
      refine' My.raw_NotALeaf ?ii ?ov ?sa ?ga ?gg ?ca ?ex ?ob ?hd ?kp ?ty ?ini ?tf ?li ?ci ?ki ?n0
      (case ii => kx_is)
      (case ov => kx_is)
      (case sa => k_is)
      (case ga => k_is)
      (case gg => k_is)
      (case ca => k_is)
      (case ex => k_is)
      (case ob => k_is)
      (case hd => k_is)
      (case kp => k_is)
      (case ty => k_is)
      (case ini => k_is)
      (case tf => k_is)
      (case li => k_is)
      (case ci => k_is)
      (case ki => k_is)
      (case n0 => k_is))
    (case e_NotLinked => k_is)
    (case S_NotLinked =>
      refine' My.raw_NotLinked ?ii ?ov ?sa ?ga ?gg ?ca ?ex ?ob ?hd ?kp ?ty ?ini ?tf ?li ?ci ?ki ?n0 ?n1
      (case ii => kx_is)
      (case ov => kx_is)
      (case sa => k_is)
      (case ga => k_is)
      (case gg => k_is)
      (case ca => k_is)
      (case ex => k_is)
      (case ob => k_is)
      (case hd => k_is)
      (case kp => k_is)
      (case ty => k_is)
      (case ini => k_is)
      (case tf => k_is)
      (case li => k_is)
      (case ci => k_is)
      (case ki => k_is)
      (case n0 => k_is)
      (case n1 => k_is))
    (case e_UnknownHost => k_is)
    (case S_UnknownHost =>
      refine' My.raw_UnknownHost ?ii ?ov ?sa ?ga ?gg ?ca ?ex ?ob ?hd ?kp ?ty ?ini ?tf ?li ?ci ?ki ?n0
      (case ii => kx_is)
      (case ov => kx_is)
      (case sa => k_is)
      (case ga => k_is)
      (case gg => k_is)
      (case ca => k_is)
      (case ex => k_is)
      (case ob => k_is)
      (case hd => k_is)
      (case kp => k_is)
      (case ty => k_is)
      (case ini => k_is)
      (case tf => k_is)
      (case li => k_is)
      (case ci => k_is)
      (case ki => k_is)
      (case n0 => k_is))
    (case v_CK => k_is)
    (case l_CK => k_is)
    (case q_CK => exact ⟨_, _, rfl, rfl, (by decide), .cons ⟨_, rfl⟩ (.cons ⟨_, rfl⟩ (.cons ⟨_, rfl⟩ (.cons ⟨_, rfl⟩ (.cons ⟨_, rfl⟩ .nil))))⟩)
    (case e_Host => k_is)
    (case T_pg => k_is)
    (case T_hd => k_is)
    (case T_po => k_is)
    (case T_sa => k_is)
    (case T_mk => k_is)
    (case T_kc => k_is)
    (case T_nown_name => k_is)
    (case T_nlinked => k_is)
    (case T_nlogged => k_is)
    (case T_njoined => k_is)
    (case T_nstage => k_is)
    (case T_nqueued => k_is)
    (case T_nfinished => k_is)
    (case aTm_init => k_is)
    (case iTm_init => k_is)
    (case lTm_init => k_is)
    (case cTm_init => k_is)
    (case kTm_init => k_is)
    (case aTm_name => k_is)
    (case iTm_name => k_is)
    (case lTm_name => k_is)
    (case cTm_name => k_is)
    (case kTm_name => k_is)
    (case aTm_log => k_is)
    (case iTm_log => k_is)
    (case lTm_log => k_is)
    (case cTm_log => k_is)
    (case kTm_log => k_is)
    (case aTm_links => k_is)
    (case iTm_links => k_is)
    (case lTm_links => k_is)
    (case cTm_links => k_is)
    (case kTm_links => k_is)
    (case aTm_answers => k_is)
    (case iTm_answers => k_is)
    (case lTm_answers => k_is)
    (case cTm_answers => k_is)
    (case kTm_answers => k_is)
    (case aTm_relink => k_is)
    (case iTm_relink => k_is)
    (case lTm_relink => k_is)
    (case cTm_relink => k_is)
    (case kTm_relink => k_is)
    (case aTm_phase => k_is)
    (case iTm_phase => k_is)
    (case lTm_phase => k_is)
    (case cTm_phase => k_is)
    (case kTm_phase => k_is)
    (case aTm_queue => k_is)
    (case iTm_queue => k_is)
    (case lTm_queue => k_is)
    (case cTm_queue => k_is)
    (case kTm_queue => k_is)
    (case aTm_write => k_is)
    (case iTm_write => k_is)
    (case lTm_write => k_is)
    (case cTm_write => k_is)
    (case kTm_write => k_is)
    (case aTm_ask => k_is)
    (case iTm_ask => k_is)
    (case lTm_ask => k_is)
    (case cTm_ask => k_is)
    (case kTm_ask => k_is)
    (case aTm_receive => k_is)
    (case iTm_receive => k_is)
    (case lTm_receive => k_is)
    (case cTm_receive => k_is)
    (case kTm_receive => k_is)
    (case aTm_add_link => k_is)
    (case iTm_add_link => k_is)
    (case lTm_add_link => k_is)
    (case cTm_add_link => k_is)
    (case kTm_add_link => k_is)
    (case aTm_leave => k_is)
    (case iTm_leave => k_is)
    (case lTm_leave => k_is)
    (case cTm_leave => k_is)
    (case kTm_leave => k_is)
    (case aTm_copied => k_is)
    (case iTm_copied => k_is)
    (case lTm_copied => k_is)
    (case cTm_copied => k_is)
    (case kTm_copied => k_is)
    (case aTm_check_free => k_is)
    (case iTm_check_free => k_is)
    (case lTm_check_free => k_is)
    (case cTm_check_free => k_is)
    (case kTm_check_free => k_is)
    (case aTm_join_to => k_is)
    (case iTm_join_to => k_is)
    (case lTm_join_to => k_is)
    (case cTm_join_to => k_is)
    (case kTm_join_to => k_is)
    (case aTm_log_and_forward => k_is)
    (case iTm_log_and_forward => k_is)
    (case lTm_log_and_forward => k_is)
    (case cTm_log_and_forward => k_is)
    (case kTm_log_and_forward => k_is)
    (case dlTm_log_and_forward => k_is)
    (case dqTm_log_and_forward => exact ⟨_, _, rfl⟩)
    (case aTm_accept => k_is)
    (case iTm_accept => k_is)
    (case lTm_accept => k_is)
    (case cTm_accept => k_is)
    (case kTm_accept => k_is)
    (case cg => k_is)
    (case ct => k_is)
    (case cl_W => k_is)
    (case tP_W => k_is)
    (case cl_N => k_is)
    (case tP_N => k_is)
    (case cl_I => k_is)
    (case tP_I => k_is)
    (case cl_R => k_is)
    (case tP_R => k_is)
    (case cl_T => k_is)
    (case tP_T => k_is)
    (case cl_B => k_is)
    (case tP_B => k_is)
    (case cl_L => k_is)
    (case tP_L => k_is)
    (case e_EmptyChannel => k_is)
    (case cl_a => k_is)
    (case tP_a => k_is)
    (case e_InvalidStep => k_is)
    (case cl_b => k_is)
    (case tP_b => k_is)
    (case e_InvalidTree => k_is)
    (case cl_c => k_is)
    (case tP_c => k_is)
    (case cl_D => k_is)
    (case tP_D => k_is)
    (case e_TooMany => k_is)
    (case cl_d => k_is)
    (case tP_d => k_is)
    (case cl_U => k_is)
    (case tP_U => k_is)
    (case e_RelinkTreeError => k_is)
    (case cl_E => k_is)
    (case tP_E => k_is)
    (case zz_ValueError => k_is)
    (case zz_RuntimeError => k_is)
    (case ne_NW => decide)
    (case s_NW => k_is)
    (case ne_IW => decide)
    (case s_IW => k_is)
    (case ne_RW => decide)
    (case s_RW => k_is)
    (case ne_TW => decide)
    (case s_TW => k_is)
    (case ne_BW => decide)
    (case s_BW => k_is)
    (case ne_LW => decide)
    (case s_LW => k_is)
    (case ne_WN => decide)
    (case s_WN => k_is)
    (case ne_IN => decide)
    (case s_IN => k_is)
    (case ne_RN => decide)
    (case s_RN => k_is)
    (case ne_TN => decide)
    (case s_TN => k_is)
    (case ne_BN => decide)
    (case s_BN => k_is)
    (case ne_LN => decide)
    (case s_LN => k_is)
    (case ne_WI => decide)
    (case s_WI => k_is)
    (case ne_NI => decide)
    (case s_NI => k_is)
    (case ne_RI => decide)
    (case s_RI => k_is)
    (case ne_TI => decide)
    (case s_TI => k_is)
    (case ne_BI => decide)
    (case s_BI => k_is)
    (case ne_LI => decide)
    (case s_LI => k_is)
    (case ne_WR => decide)
    (case s_WR => k_is)
    (case ne_NR => decide)
    (case s_NR => k_is)
    (case ne_IR => decide)
    (case s_IR => k_is)
    (case ne_TR => decide)
    (case s_TR => k_is)
    (case ne_BR => decide)
    (case s_BR => k_is)
    (case ne_LR => decide)
    (case s_LR => k_is)
    (case ne_WT => decide)
    (case s_WT => k_is)
    (case ne_NT => decide)
    (case s_NT => k_is)
    (case ne_IT => decide)
    (case s_IT => k_is)
    (case ne_RT => decide)
    (case s_RT => k_is)
    (case ne_BT => decide)
    (case s_BT => k_is)
    (case ne_LT => decide)
    (case s_LT => k_is)
    (case ne_WB => decide)
    (case s_WB => k_is)
    (case ne_NB => decide)
    (case s_NB => k_is)
    (case ne_IB => decide)
    (case s_IB => k_is)
    (case ne_RB => decide)
    (case s_RB => k_is)
    (case ne_TB => decide)
    (case s_TB => k_is)
    (case ne_LB => decide)
    (case s_LB => k_is)
    (case ne_WL => decide)
    (case s_WL => k_is)
    (case ne_NL => decide)
    (case s_NL => k_is)
    (case ne_IL => decide)
    (case s_IL => k_is)
    (case ne_RL => decide)
    (case s_RL => k_is)
    (case ne_TL => decide)
    (case s_TL => k_is)
    (case ne_BL => decide)
    (case s_BL => k_is)
    (case ne_Wa => decide)
    (case s_Wa => k_is)
    (case ne_Wb => decide)
    (case s_Wb => k_is)
    (case ne_Wc => decide)
    (case s_Wc => k_is)
    (case ne_WD => decide)
    (case s_WD => k_is)
    (case ne_Wd => decide)
    (case s_Wd => k_is)
    (case ne_WU => decide)
    (case s_WU => k_is)
    (case ne_Na => decide)
    (case s_Na => k_is)
    (case ne_Nb => decide)
    (case s_Nb => k_is)
    (case ne_Nc => decide)
    (case s_Nc => k_is)
    (case ne_ND => decide)
    (case s_ND => k_is)
    (case ne_Nd => decide)
    (case s_Nd => k_is)
    (case ne_NU => decide)
    (case s_NU => k_is)
    (case ne_Ia => decide)
    (case s_Ia => k_is)
    (case ne_Ib => decide)
    (case s_Ib => k_is)
    (case ne_Ic => decide)
    (case s_Ic => k_is)
    (case ne_ID => decide)
    (case s_ID => k_is)
    (case ne_Id => decide)
    (case s_Id => k_is)
    (case ne_IU => decide)
    (case s_IU => k_is)
    (case ne_Ra => decide)
    (case s_Ra => k_is)
    (case ne_Rb => decide)
    (case s_Rb => k_is)
    (case ne_Rc => decide)
    (case s_Rc => k_is)
    (case ne_RD => decide)
    (case s_RD => k_is)
    (case ne_Rd => decide)
    (case s_Rd => k_is)
    (case ne_RU => decide)
    (case s_RU => k_is)
    (case ne_Ta => decide)
    (case s_Ta => k_is)
    (case ne_Tb => decide)
    (case s_Tb => k_is)
    (case ne_Tc => decide)
    (case s_Tc => k_is)
    (case ne_TD => decide)
    (case s_TD => k_is)
    (case ne_Td => decide)
    (case s_Td => k_is)
    (case ne_TU => decide)
    (case s_TU => k_is)
    (case ne_Ba => decide)
    (case s_Ba => k_is)
    (case ne_Bb => decide)
    (case s_Bb => k_is)
    (case ne_Bc => decide)
    (case s_Bc => k_is)
    (case ne_BD => decide)
    (case s_BD => k_is)
    (case ne_Bd => decide)
    (case s_Bd => k_is)
    (case ne_BU => decide)
    (case s_BU => k_is)
    (case ne_La => decide)
    (case s_La => k_is)
    (case ne_Lb => decide)
    (case s_Lb => k_is)
    (case ne_Lc => decide)
    (case s_Lc => k_is)
    (case ne_LD => decide)
    (case s_LD => k_is)
    (case ne_Ld => decide)
    (case s_Ld => k_is)
    (case ne_LU => decide)
    (case s_LU => k_is)
    (case ne_WE => decide)
    (case s_WE => k_is)
    (case ne_NE => decide)
    (case s_NE => k_is)
    (case ne_IE => decide)
    (case s_IE => k_is)
    (case ne_RE => decide)
    (case s_RE => k_is)
    (case ne_TE => decide)
    (case s_TE => k_is)
    (case ne_BE => decide)
    (case s_BE => k_is)
    (case ne_LE => decide)
    (case s_LE => k_is)
    (case sb_WValueError => k_is)
    (case sb_NValueError => k_is)
    (case sb_IValueError => k_is)
    (case sb_RValueError => k_is)
    (case sb_WRuntimeError => k_is)
    (case sb_NRuntimeError => k_is)
    (case sb_IRuntimeError => k_is)
    (case sb_RRuntimeError => k_is)
    (case sb_TRuntimeError => k_is)
    (case sb_BRuntimeError => k_is)
    (case sb_LRuntimeError => k_is)
    (case bP_W => k_is)
    (case s_WW => k_is)
    (case bP_N => k_is)
    (case bP_I => k_is)
    (case bP_R => k_is)
    (case s_NN => k_is)
    (case s_II => k_is)
    (case s_RR => k_is)
    (case bP_T => k_is)
    (case s_TT => k_is)
    (case bP_B => k_is)
    (case s_BB => k_is)
    (case bP_L => k_is)
    (case s_LL => k_is)
    (case f_Wvalue => k_is)
    (case f_Nvalue => k_is)
    (case f_Ivalue => k_is)
    (case f_Rvalue => k_is)
    (case f_Tvalue => k_is)
    (case f_Bhost => k_is)
    (case f_Lhost => k_is)
    (case qc1 => exact rfl)
    (case lo1 => k_is)
    (case tb1 => exact rfl)
    (case hd1 => kernel_rfl)
    (case nk1 => kernel_rfl)
    (case te1 => exact PySem.W.km_tabs_of YY _ (by k_mem))

