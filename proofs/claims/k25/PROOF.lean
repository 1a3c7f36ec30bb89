import PyProof.Rows.All
import Wide.All
import OpenK.AllK
import Wide.FinOn
import HandS.ForMost
import HandS.IsInst
import HandS.Walk
import HandS.EndTab
import KE.KExcPX
import KE.KExcInit
import KE.KExcIs
import HandS.ExcInit
import PyProof.ReprLen
import HandS.ForExc
import HandS.ExcField
import HandS.TryMany
import HandS.CallSlots
import HandS.Strs
import HandS.TupAny
import PyProof.ReprHeadsEmpty
import HandS.Style
import PyProof.EqKinds
import PyProof.FactsAll.dict_1
import PyProof.FactsAll.subtypes_4
import PyProof.FactsAll.subtypes_3
import PyProof.FactsAll.str_1
import HandS.FStr
import HandS.DictComp
import HandS.SortRule
import HandS.OwnEq
import HandS.ExcOwn
import HandS.Defaults
import HandS.DeepEq
import HandS.DictTup
import PyProof.DictMoreH
import HandS.Conv
import HandS.WideBits
import HandS.RaiseMore
import PyProof.ReprText
import HandS.CallLocal
import HandS.WrittenGet
import HandS.TupLen
import PyProof.NeKinds
import HandS.SetFor
import HandS.Lambda
import KE.KNestM
import KE.KExcLine
import PySem.Challenge.RW_relinktree_k25_channels_refused_in_order
set_option Elab.async false
set_option linter.all false
set_option maxRecDepth 100000
set_option maxHeartbeats 4000000
/-! Defs whose promise needs to know that no repr is under way: the layer's def, call and end once more with that premise. -/
namespace Gy
open PySem PySem.Spec PyProof.Rows L2

/-- repr of data at an address -/
theorem repr_dat {X : Cx} (hg : X.A.guards = some []) (hu : X.A.units + 70 < cLine) :
    CallR X (.builtin "repr") (fun xs H Q => ∃ a d, xs = [.ref a] ∧ Dp X.K H (.ref a) d ∧ d.showable = true ∧ d.hasDict = false ∧ d.depth ≤ 60 ∧
      d.shown.length ≤ sizeLine ∧ Q (.str d.shown) H) := by
  intro pins s σ H xs us Q I r h
  obtain ⟨a, d, rfl, hd, h1, h2, h3, h4, q⟩ := h
  obtain ⟨u, rfl, ru⟩ := vals1 r
  obtain ⟨as, rd⟩ := Dp.reads I d _ u hd ru
  cases ru
  refine repr_of_reads' rd h1 (fun z => ?_) hg (by omega) (fun _ _ e => e) (fun h' u tk hk => ?_) h4
  · rw [h2] at z
    cases z
  · exact ⟨.str _, H, I.kept hk, ⟨u, rfl⟩, q⟩

/-- a def's promise, where no repr is under way -/
structure FnG (P : Program) (w : World) (K : PySem.W.Frag) (mg : Str → Option Value) (base : Heap)
    (CX : CXT) (k : Nat) (f : Addr) (fd : FuncData) (ps : List Str) (sp : Sp) : Prop where
  ln : ∀ {vs H Q E}, sp vs H Q E → vs.length = ps.length
  go : ∀ {A outer s H args us vs Q E}, A.guards = some [] → Room k A → Env0 P w K mg base A outer s H →
    BindsTo s fd args (ps.zip us) → Vals vs us → sp vs H Q E → codeAny (model P w) A (.call (.ref f) args) (CR CX outer P w H s Q E) s

section
variable {P : Program} {w : World} {K : PySem.W.Frag} {mg : Str → Option Value} {base : Heap} {CX : CXT} {k : Nat} {f : Addr} {fd : FuncData} {ps N : List Str} {sp : Sp}
theorem FnG.up {j : Nat} (F : FnG P w K mg base CX j f fd ps sp) (h : j ≤ k) : FnG P w K mg base CX k f fd ps sp :=
  ⟨F.ln, fun g hr => F.go g (hr.mono h)⟩
theorem FnG.of (F : FnOk P w K mg base CX k f fd ps sp) : FnG P w K mg base CX k f fd ps sp :=
  ⟨fun h => F.len _ _ _ _ h, fun _ hr e b v h => F.run _ _ _ _ _ _ _ _ _ hr e b v h⟩

theorem fun_g {x qual : Str} {st : Stmt} (F : Fun K x qual st f fd) (S : FnScope N ps (defScope st)) (ln : ∀ {vs H Q E}, sp vs H Q E → vs.length = ps.length)
    (bd : ∀ (cdv : Value) (A : Around) (outer : List Env) (s : Shared) (H : Hp) (vs : List V) (Q : VK) (E : XK), A.guards = some [] →
      Room k (A.deeper (envOfC qual (defScope st) s.heap.objs.size f cdv)) → sp vs H Q E →
      ∃ t, PSs (cxOf CX P w K mg base N qual (defScope st) f cdv A outer s H E) (defBody st) t ∧
        t { nx := fun _ H' => Q .non H', rt := Q } (start N vs) H) :
    FnG P w K mg base CX (k + 1) f fd ps sp := by
  obtain ⟨oc, od, kV, doc, pm, an, cdv, ct, osl, rfl, lk, hcd⟩ := F.ex
  refine ⟨ln, ?_⟩
  intro A outer s H args us vs Q E g hr e0 hb rl hsp
  have stay : ∀ b o, base.get? b = some o → s.heap.get? b = some o := fun b o e => (e0.bs b o e).1
  have kin := e0.mod.kin.keeps stay
  have nol := e0.mod.nolimit.keeps stay
  refine codeAny_call_function hr.depth (kin _ _ lk) rfl S.co S.gen rfl (PySem.W.codeRec_of kin hcd) (hb _ _ _ _ ?_)
  refine wpAny_newFunctionEnv_cells S.kind ?_ ?_
  · rintro ⟨n, v⟩ hy
    refine (S.par n (List.of_mem_zip hy).1).imp id fun q => ⟨q, ?_⟩
    exact PySem.W.cellsFrom_some _ _ _ (.inl q)
  · rintro env rfl s1 x
    refine ⟨nol.keeps x.toInCall.keep, codeAny_func ?_⟩
    obtain ⟨t, ht, hq⟩ := bd cdv A outer s H vs Q E g (hr.deeper _) hsp
    have I := inv_start (CX := CX) (E := E) (outer := outer) S hr.hd e0 (ln hsp) rl x
    refine wpAny_mono (ht.run [] s1 (start N vs) H _ I hq) ?_ (fun _ _ z => z)
    rintro (_ | _ | _ | u) s' z
    all_goals first
      | (obtain ⟨σ', H', J, q⟩ := z
         exact ⟨V.non, H', J.os, J.bare, J.base, J.hok, rfl, q⟩)
      | (obtain ⟨_, _, _, q⟩ := z
         exact q.elim)
      | (obtain ⟨v, σ', H', J, rv, q⟩ := z
         exact ⟨v, H', J.os, J.bare, J.base, J.hok, rv, q⟩)
end
end Gy

namespace Gy
open PySem PySem.Spec PyProof.Rows L2

/-- the readings of the two calls below -/
def tG (sp : Sp) (E : XK) (t : TA) : TE := fun σ H Q => t σ H fun vs H1 => sp vs H1 Q E
def tKw0 (sp : Sp) (gV : List V → List V → List V) (E : XK) (tk : TA) : TE := fun σ H Q => tk σ H fun zs H1 => sp (gV [] zs) H1 Q E
section
variable {X : Cx} {CX : CXT} {k : Nat} {f : Addr} {fd : FuncData} {ps ks : List Str} {sp : Sp} {E : XK} {x : Str} {p pos : Pos} {e : Expr} {es : List Expr} {kws : List Keyword} {t tk : TA}
variable {g : List Value → List Value → List Value} {gV : List V → List V → List V}
/-- f(e, ..) of a def that wants to know of repr -/
theorem pe_callG (F : FnG X.prog X.w X.K X.mg X.base CX k f fd ps sp) (gd : X.A.guards = some []) (hr : Room k X.A) (hg : Gl X x)
    (hm : X.mg x = some (.ref f)) (hk : PySem.W.keepIn X.K (.ref f) = true) (hb : Binds X.K fd ps []) (hx : Passes CX X E) (ha : PA X (e :: es) t)
    (hdb : (x == ("__debug__" : Str)) = false := by decide) (he : starEach (e :: es) X.env = (false, eval e X.env) :: starEach es X.env := by rfl)
    (hpl : (backTo pos (starEach es X.env)).any (·.1) = false := by rfl) :
    PE X (.Call (.Name x p) (e :: es) [] pos) (tG sp E t) := by
  constructor
  intro pins s σ H Q I h
  refine wpAny_Call_Name_kw (ld_glob I hg hm ?_ hdb)
  refine PySem.W.callWith_K (h₀ := X.base) I.ok.mod.kin hk (thn (ha.run pos pins s σ H _ I h) ?_) he hpl
  rintro us s1 ⟨vs, H1, I1, r, q⟩
  refine ⟨I1.kIn, wpAny_call (codeAny_mono (F.go (args := ⟨us, []⟩) gd hr I1.env0 ?_ r q) ?_)⟩
  · have b := hb s1 us I1.kIn (by rw [List.append_nil, ← r.length]; exact F.ln q)
    rwa [List.append_nil] at b
  · rintro (er | (_ | _ | _ | u)) s' z
    · exact hx pins σ H1 s1 er s' I1 z
    · exact z.elim
    · exact z.elim
    · exact z.elim
    · exact I1.after z
/-- f(k = v, ..), nothing by position -/
theorem pe_kw0 (F : FnOk X.prog X.w X.K X.mg X.base CX k f fd ps sp) (hr : Room k X.A) (hg : Gl X x) (hm : X.mg x = some (.ref f))
    (hk : PySem.W.keepIn X.K (.ref f) = true) (hb : KBinds X.K fd ps ks g gV) (hx : Passes CX X E) (hkw : PK X kws tk)
    (hall : (backToKw pos (keywordEach kws X.env)).all (·.1.isSome) = true := by rfl) (hks : (backToKw pos (keywordEach kws X.env)).filterMap (·.1) = ks := by rfl)
    (hdb : (x == ("__debug__" : Str)) = false := by decide)
    (hpl : ((backTo pos (starEach [] X.env)).any (·.1) || (backToKw pos (keywordEach kws X.env)).any (·.1.isNone)) = false := by rfl) :
    PE X (.Call (.Name x p) [] kws pos) (tKw0 sp gV E tk) := by
  constructor
  intro pins s σ H Q I h
  refine wpAny_Call_Name_kw (ld_glob I hg hm ?_ hdb)
  refine PySem.W.callWith_KW0 (h₀ := X.base) I.ok.mod.kin hk hall (thn (hkw.run pos pins s σ H _ I h) ?_) hpl
  rintro ws s2 ⟨zs, H2, I2, rz, q2⟩
  rw [hks]
  exact ⟨I2.kIn, run_fnk (us := []) F hr hb hx I2 .nil rz q2⟩
end

/-- the law's call, its def a FnG -/
theorem end_g {P : Program} {w : World} {K : PySem.W.Frag} {mg mb : Str → Option Value} {CX : CXT} {k : Nat} {fa a : Addr} {fd : FuncData} {x : Str} {sp : Sp}
    {s : Shared} {vs : List Value} {ns : List Int} (kin : K.In s.heap) (hns : s.heap.Ns mainGlobals mg) (hb : s.heap.Ns builtinsNs mb)
    (hbb : ∀ x : Str, x ≠ "__name__" → mb x = bootBuiltins x) (nol : s.heap.NoLimit) (hg : s.gens = #[])
    (ha : s.heap.get? a = some { cls := .type "list", data := .seq vs.toArray }) (hi : IntsAre vs ns) (hl : ns.length ≤ sizeLine) (hr : Room k callerA)
    (F : ∀ base : Heap, K.In base → base.Ns mainGlobals mg → FnG P w K mg base CX k fa fd [x] sp)
    (bnd : ∀ (s : Shared) (u : Value), BindsTo s fd ⟨[u], []⟩ [(x, u)])
    (hsp : ∀ H : Hp, Only H → SqL K H a (ns.map V.int) → sp [.ref a] H (fun v _ => v = .bl true) fun _ _ _ => False)
    (hCX : ∀ H e s', CX [] H s (fun _ _ _ => False) e s' → False) :
    codeAny (model P w) callerA (.call (.ref fa) ⟨[.ref a], []⟩)
      (fun r s' => r = .ok (.ret (.bool true)) ∧ OldK s.heap s'.heap ∧ s'.os = s.os ∧ AllBare s'.gens) s := by
  have main : ∀ H : Hp, Only H → SqL K H a (ns.map V.int) → HOk P w H s.heap → (∀ b, H b ≠ none → b = a) → (H a ≠ none → K.lookup a = none) →
      codeAny (model P w) callerA (.call (.ref fa) ⟨[.ref a], []⟩)
        (fun r s' => r = .ok (.ret (.bool true)) ∧ OldK s.heap s'.heap ∧ s'.os = s.os ∧ AllBare s'.gens) s := by
    intro H only seq hok alone notK
    have noD : ∀ {b o es ep}, s.heap.get? b = some o → o.data = .dict es ep → H b = none := by
      intro b o es ep e d
      cases q : H b with
      | none => rfl
      | some u =>
        obtain rfl := alone b (by rw [q]; exact fun z => nomatch z)
        rw [ha] at e
        cases e
        exact nomatch d
    have nsB : ∀ {b m}, s.heap.Ns b m → (hidT s.heap H).Ns b m := by
      rintro b m ⟨o, es, ep, e, d, r⟩
      exact ⟨o, es, ep, hidT_get e (noD e d), d, r⟩
    have kB : K.In (hidT s.heap H) := by
      intro b o e
      refine hidT_get (kin b o e) ?_
      cases q : H b with
      | none => rfl
      | some u =>
        obtain rfl := alone b (by rw [q]; exact fun z => nomatch z)
        rw [notK (by rw [q]; exact fun z => nomatch z)] at e
        cases e
    obtain ⟨mc, l1, l2⟩ := nol
    have e0 : Env0 P w K mg (hidT s.heap H) callerA [] s H := by
      refine ⟨rfl, ⟨kB, nsB hns, ⟨mb, nsB hb, hbb⟩, ⟨mc, nsB l1, l2⟩⟩, fun b o e => of_hidT e, Nat.le_of_eq (hidT_size _ _), trivial, ?_, hok, .of_eq hg⟩
      intro b z
      exact nomatch (show b ∈ ([] : List Addr) from z)
    have run := (F _ kB (nsB hns)).go (A := callerA) (args := ⟨[.ref a], []⟩) (us := [.ref a]) (vs := [V.ref a]) rfl hr e0 (bnd s (.ref a)) (.cons rfl .nil) (hsp H only seq)
    refine codeAny_mono run ?_
    rintro (er | (_ | _ | _ | u)) s' z
    · exact (hCX H er s' z).elim
    · exact z.elim
    · exact z.elim
    · exact z.elim
    · obtain ⟨v, H', os, bare, un, hok', rv, q⟩ := z
      cases (show v = .bl true from q)
      cases (show u = Value.bool true from rv)
      refine ⟨rfl, OldK.of_keep fun b o e => ?_, os, bare⟩
      rcases only b with n | ⟨ob, xs, y⟩
      · exact un.keep b o e n (fun z => nomatch (show b ∈ ([] : List Addr) from z)) (fun z => nomatch z)
      · obtain ⟨e1, _⟩ := hok b _ y
        obtain ⟨e2, _⟩ := hok' b _ (un.frzs b ob _ y)
        rw [e] at e1
        cases e1
        exact e2
  have rv := vals_ints hi
  cases hk : K.lookup a with
  | some o =>
    have e := kin a o hk
    rw [ha] at e
    cases e
    refine main (fun _ => none) (fun _ => .inl rfl) (.inr ⟨_, vs.toArray, _, hk, rfl, rfl, rfl, ?_, rv⟩) (fun b u z => nomatch z) (fun b z => absurd rfl z) (fun z => absurd rfl z)
    rw [List.size_toArray, hi.length]
    exact hl
  | none =>
    let ob : Obj := { cls := .type "list", data := .seq vs.toArray }
    refine main (fun b => if b = a then some (.frz ob (.lst (ns.map V.int))) else none) (fun b => ?_) (.inl (.inr ⟨ob, if_pos rfl⟩)) (fun b u z => ?_) (fun b z => ?_) (fun _ => hk)
    · by_cases q : b = a
      · exact .inr ⟨_, _, if_pos q⟩
      · exact .inl (if_neg q)
    · by_cases q : b = a
      · have y := (if_pos q).symm.trans z
        cases y
        subst q
        exact ⟨ha, by rw [List.length_map]; exact hl, vs, _, rv, ha⟩
      · have y := (if_neg q).symm.trans z
        cases y
    · by_cases q : b = a
      · exact q
      · exact absurd (if_neg q) z

/-- what k_head leaves, from a law that is a FnG -/
theorem walk_g {l : PySem.W.OpenLaw} {n k : Nat} {q : Program} {loose : List Str} {XP : (Str → Option Value) → Heap → Prop} {YP : World → Heap → Prop} {d : DefRec}
    {K : Params → PySem.W.Frag} {sp : PySem.W.Frag → Sp} {x : Str} (hn : l.most = some n) (hn2 : n ≤ sizeLine) (hdf : d.params.defaults = []) (hr : Room k callerA)
    (hY : ∀ (w : World) (h : Heap), YP w h → (K w.params).In h)
    (F : ∀ (w : World) (mg : Str → Option Value) (fa : Addr) (h : Heap), (K w.params).In h → h.Ns mainGlobals mg → mg d.name = some (.ref fa) →
      ∃ fd : FuncData, (∀ (s : Shared) (u : Value), BindsTo s fd ⟨[u], []⟩ [(x, u)]) ∧
        ∀ base : Heap, (K w.params).In base → base.Ns mainGlobals mg → FnG l.prog w (K w.params) mg base CX0 k fa fd [x] (sp (K w.params)))
    (hsp : ∀ (K : PySem.W.Frag) (H : Hp) (a : Addr) (ns : List Int), ns.length ≤ n → SqL K H a (ns.map V.int) → sp K [.ref a] H (fun v _ => v = .bl true) fun _ _ _ => False) :
    PySem.W.WalkO q loose XP YP l.row.toRowW d [] (fun f vs => PySem.call f vs) := by
  refine Att.attach_call hn hdf ?_
  intro w s₀ s₁ mg mb fa o pm cd doc a vs ns G Y ho hd hcd hmg hobj hints hlen hg
  have kin := hY w _ Y
  obtain ⟨fd, hb, hF⟩ := F w mg fa _ kin G.T.g hmg
  exact end_g kin G.T.g G.T.b G.T.builtins G.T.nolimit hg hobj hints (Nat.le_trans hlen hn2) hr hF hb (fun H _ hS => hsp _ H a ns hlen hS) (fun _ _ _ z => z)
end Gy

/-! the end of a law whose defs make lambdas and use repr. -/
namespace Gy
open PySem PySem.Spec PyProof.Rows L2 LamX
/-- what may be known at the start: the script, and empty tables -/
def OnlyT (ts : List Addr) (H : Hp) : Prop := ∀ b, H b = none ∨ b ∈ ts ∨ ∃ o xs, H b = some (.frz o (.lst xs))
theorem end_gT {P : Program} {w : World} {K : PySem.W.Frag} {mg mb : Str → Option Value} {CX : CXT} {k : Nat} {fa a : Addr} {cs : List (Addr × Addr)} {fd : FuncData} {x : Str} {sp : Sp}
    {s : Shared} {vs : List Value} {ns : List Int} (kin : K.In s.heap) (hns : s.heap.Ns mainGlobals mg) (hb : s.heap.Ns builtinsNs mb)
    (hbb : ∀ x : Str, x ≠ "__name__" → mb x = bootBuiltins x) (nol : s.heap.NoLimit) (hg : s.gens = #[])
    (tE : ∀ p ∈ cs, s.heap.get? p.2 = some { cls := .none, data := .fields #[] }) (tK : ∀ p ∈ cs, K.lookup p.2 = none) (cH : ∀ p ∈ cs, PySem.W.CodeHd s.heap p.1 p.2)
    (hbm : ∃ (bm : Addr) (ob : Obj), mg "__builtins__" = some (.ref bm) ∧ bm ≠ builtinsNs ∧ s.heap.get? bm = some ob ∧ ob.cls = .type "module" ∧ ob.dict = some builtinsNs ∧ ob.data = .plain)
    (ha : s.heap.get? a = some { cls := .type "list", data := .seq vs.toArray }) (hi : IntsAre vs ns) (hl : ns.length ≤ sizeLine) (hr : Room k callerA)
    (F : ∀ base : Heap, K.In base → base.Ns mainGlobals mg → (∀ p ∈ cs, TabB base mg p.1 p.2) → FnG P w K mg base CX k fa fd [x] sp)
    (bnd : ∀ (s : Shared) (u : Value), BindsTo s fd ⟨[u], []⟩ [(x, u)])
    (hsp : ∀ H : Hp, (∀ p ∈ cs, H p.2 = some (.tbl #[])) → SqL K H a (ns.map V.int) → sp [.ref a] H (fun v _ => v = .bl true) fun _ _ _ => False)
    (hCX : ∀ H e s', CX [] H s (fun _ _ _ => False) e s' → False) :
    codeAny (model P w) callerA (.call (.ref fa) ⟨[.ref a], []⟩)
      (fun r s' => r = .ok (.ret (.bool true)) ∧ OldK s.heap s'.heap ∧ s'.os = s.os ∧ AllBare s'.gens) s := by
  obtain ⟨ts, hts⟩ : ∃ ts, ts = cs.map (·.2) := ⟨_, rfl⟩
  have inT : ∀ p ∈ cs, p.2 ∈ ts := fun p hp => by rw [hts]; exact List.mem_map.mpr ⟨p, hp, rfl⟩
  have ofT : ∀ b ∈ ts, ∃ p, p ∈ cs ∧ b = p.2 := fun b hb => by
    rw [hts] at hb
    obtain ⟨p, hp, e⟩ := List.mem_map.mp hb
    exact ⟨p, hp, e.symm⟩
  have noS : ∀ b ∈ ts, b ≠ a := fun b hb z => by
    obtain ⟨p, hp, rfl⟩ := ofT b hb
    have e := tE p hp
    rw [z, ha] at e
    have e2 := congrArg Obj.data (Option.some.inj e)
    exact nomatch e2
  have main : ∀ H : Hp, OnlyT ts H → (∀ p ∈ cs, H p.2 = some (.tbl #[])) → SqL K H a (ns.map V.int) → HOk P w H s.heap → (∀ b, H b ≠ none → b = a ∨ b ∈ ts) → (H a ≠ none → K.lookup a = none) →
      codeAny (model P w) callerA (.call (.ref fa) ⟨[.ref a], []⟩)
        (fun r s' => r = .ok (.ret (.bool true)) ∧ OldK s.heap s'.heap ∧ s'.os = s.os ∧ AllBare s'.gens) s := by
    intro H only empt seq hok alone notK
    -- what is neither the script nor an empty table stands in the base
    have far : ∀ {b : Addr} {o : Obj}, s.heap.get? b = some o → (∀ xs m, o.data ≠ .seq xs m) → o.data ≠ .fields #[] → H b = none := by
      intro b o e n1 n2
      cases q : H b with
      | none => rfl
      | some u =>
        rcases alone b (by rw [q]; exact fun z => nomatch z) with rfl | hb
        · rw [ha] at e
          cases e
          exact absurd rfl (n1 _ _)
        · obtain ⟨p, hp, rfl⟩ := ofT b hb
          rw [tE p hp] at e
          cases e
          exact absurd rfl n2
    have nsB : ∀ {b m}, s.heap.Ns b m → (hidT s.heap H).Ns b m := by
      rintro b m ⟨o, es, ep, e, d, r⟩
      refine ⟨o, es, ep, hidT_get e (far e ?_ ?_), d, r⟩ <;> simp [d]
    have kB : K.In (hidT s.heap H) := by
      intro b o e
      refine hidT_get (kin b o e) ?_
      cases q : H b with
      | none => rfl
      | some u =>
        have nn : H b ≠ none := by rw [q]; exact fun z => nomatch z
        rcases alone b nn with rfl | hb
        · rw [notK nn] at e
          cases e
        · obtain ⟨p, hp, rfl⟩ := ofT b hb
          rw [tK p hp] at e
          cases e
    have isB : ∀ p ∈ cs, TabB (hidT s.heap H) mg p.1 p.2 := by
      intro p hp
      have e0 := tE p hp
      refine ⟨?_, ?_, ?_⟩
      · obtain ⟨o, us, x1, x2, x3, x4, x5, x6, x7, e1, r1, r2, r3, rest⟩ := cH p hp
        refine ⟨o, us, x1, x2, x3, x4, x5, x6, x7, hidT_get e1 (far e1 ?_ ?_), r1, r2, r3, rest⟩
        · simp [r2]
        · rw [r2]
          rintro z
          injection z with z
          rw [z] at r3
          exact nomatch r3
      · obtain ⟨bm, ob, y1, y2, y3, y4, y5, y6⟩ := hbm
        refine ⟨bm, ob, y1, y2, ?_, ?_, hidT_get y3 (far y3 ?_ ?_), y4, y5, y6⟩
        · rintro rfl
          obtain ⟨o, es, ep, e, d, _⟩ := hns
          rw [y3] at e
          cases e
          rw [y6] at d
          exact nomatch d
        · rintro rfl
          rw [y3] at e0
          cases e0
          exact nomatch y6
        · simp [y6]
        · simp [y6]
      · rintro z
        obtain ⟨o, es, ep, e, d, _⟩ := hns
        rw [z, e0] at e
        cases e
        exact nomatch d
    obtain ⟨mc, l1, l2⟩ := nol
    have e0 : Env0 P w K mg (hidT s.heap H) callerA [] s H := by
      refine ⟨rfl, ⟨kB, nsB hns, ⟨mb, nsB hb, hbb⟩, ⟨mc, nsB l1, l2⟩⟩, fun b o e => of_hidT e, Nat.le_of_eq (hidT_size _ _), trivial, ?_, hok, .of_eq hg⟩
      intro b z
      exact nomatch (show b ∈ ([] : List Addr) from z)
    have run := (F _ kB (nsB hns) isB).go (A := callerA) (args := ⟨[.ref a], []⟩) (us := [.ref a]) (vs := [V.ref a]) rfl hr e0 (bnd s (.ref a)) (.cons rfl .nil) (hsp H empt seq)
    refine codeAny_mono run ?_
    rintro (er | (_ | _ | _ | u)) s' z
    · exact (hCX H er s' z).elim
    · exact z.elim
    · exact z.elim
    · exact z.elim
    · obtain ⟨v, H', os, bare, un, hok', rv, q⟩ := z
      cases (show v = .bl true from q)
      cases (show u = Value.bool true from rv)
      have stay : ∀ b o, b ∉ ts → s.heap.get? b = some o → s'.heap.get? b = some o := by
        intro b o nb e
        rcases only b with n | m | ⟨ob, xs, y⟩
        · exact un.keep b o e n (fun z => nomatch (show b ∈ ([] : List Addr) from z)) (fun z => nomatch z)
        · exact absurd m nb
        · obtain ⟨e1, _⟩ := hok b _ y
          obtain ⟨e2, _⟩ := hok' b _ (un.frzs b ob _ y)
          rw [e] at e1
          cases e1
          exact e2
      have more : ∀ p ∈ cs, ∃ us : Array Value, s'.heap.get? p.2 = some { cls := .none, data := .fields us } := by
        intro p hp
        obtain ⟨us, y⟩ := un.tbls p.2 #[] (empt p hp)
        exact ⟨_, hok' p.2 _ y⟩
      refine ⟨rfl, ⟨?_, ?_⟩, os, bare⟩
      · intro b o e
        by_cases nb : b ∈ ts
        · obtain ⟨p, hp, rfl⟩ := ofT b nb
          obtain ⟨us, y⟩ := more p hp
          rw [tE p hp] at e
          cases e
          refine .inr (.inl ⟨((cH p hp).tab (tE p hp)).isCodeTable, rfl, #[], us, rfl, ?_⟩)
          rw [Array.empty_append]
          exact y
        · exact .inl (stay b o nb e)
      · intro b o e
        by_cases nb : b ∈ ts
        · obtain ⟨p, hp, rfl⟩ := ofT b nb
          obtain ⟨us, y⟩ := more p hp
          exact ⟨_, y⟩
        · exact ⟨o, stay b o nb e⟩
  have rv := vals_ints hi
  have emp : ∀ p ∈ cs, (if p.2 ∈ ts then some (HO.tbl #[]) else none) = some (HO.tbl #[]) := fun p hp => if_pos (inT p hp)
  cases hk : K.lookup a with
  | some o =>
    have e := kin a o hk
    rw [ha] at e
    cases e
    refine main (fun b => if b ∈ ts then some (.tbl #[]) else none) (fun b => ?_) emp (.inr ⟨_, vs.toArray, _, hk, rfl, rfl, rfl, ?_, rv⟩) (fun b u z => ?_) (fun b z => ?_) (fun z => absurd (if_neg fun y => noS a y rfl) z)
    · by_cases m : b ∈ ts
      · exact .inr (.inl m)
      · exact .inl (if_neg m)
    · rw [List.size_toArray, hi.length]
      exact hl
    · by_cases m : b ∈ ts
      · have y := (if_pos m).symm.trans z
        cases y
        obtain ⟨p, hp, rfl⟩ := ofT b m
        exact tE p hp
      · have y := (if_neg m).symm.trans z
        cases y
    · by_cases m : b ∈ ts
      · exact .inr m
      · exact absurd (if_neg m) z
  | none =>
    let ob : Obj := { cls := .type "list", data := .seq vs.toArray }
    have at1 : ∀ {b}, b = a → (if b = a then some (HO.frz ob (.lst (ns.map V.int))) else if b ∈ ts then some (.tbl #[]) else none) = some (.frz ob (.lst (ns.map V.int))) := fun q => if_pos q
    have at2 : ∀ {b}, b ≠ a → b ∈ ts → (if b = a then some (HO.frz ob (.lst (ns.map V.int))) else if b ∈ ts then some (.tbl #[]) else none) = some (.tbl #[]) := fun q m => (if_neg q).trans (if_pos m)
    have at3 : ∀ {b}, b ≠ a → b ∉ ts → (if b = a then some (HO.frz ob (.lst (ns.map V.int))) else if b ∈ ts then some (.tbl #[]) else none) = none := fun q m => (if_neg q).trans (if_neg m)
    refine main (fun b => if b = a then some (.frz ob (.lst (ns.map V.int))) else if b ∈ ts then some (.tbl #[]) else none) (fun b => ?_) (fun p hp => at2 (noS _ (inT p hp)) (inT p hp)) (.inl (.inr ⟨ob, at1 rfl⟩)) (fun b u z => ?_) (fun b z => ?_) (fun _ => hk)
    · by_cases q : b = a
      · exact .inr (.inr ⟨_, _, at1 q⟩)
      · by_cases m : b ∈ ts
        · exact .inr (.inl m)
        · exact .inl (at3 q m)
    · by_cases q : b = a
      · have y := (at1 q).symm.trans z
        cases y
        subst q
        exact ⟨ha, by rw [List.length_map]; exact hl, vs, _, rv, ha⟩
      · by_cases m : b ∈ ts
        · have y := (at2 q m).symm.trans z
          cases y
          obtain ⟨p, hp, rfl⟩ := ofT b m
          exact tE p hp
        · have y := (at3 q m).symm.trans z
          cases y
    · by_cases q : b = a
      · exact .inl q
      · by_cases m : b ∈ ts
        · exact .inr m
        · exact absurd (at3 q m) z
/-- the law's promise at the head's heap h, the law a FnG -/
def LawG (l : PySem.W.OpenLaw) (w : World) (K : PySem.W.Frag) (k n : Nat) (x : Str) (mg : Str → Option Value) (fa : Addr) (h : Heap) : Prop :=
  ∃ (fd : FuncData) (cs : List (Addr × Addr)) (sp : Sp), (∀ p ∈ cs, h.get? p.2 = some { cls := .none, data := .fields #[] }) ∧ (∀ p ∈ cs, K.lookup p.2 = none) ∧ (∀ p ∈ cs, PySem.W.CodeHd h p.1 p.2) ∧
    (∀ (s : Shared) (u : Value), BindsTo s fd ⟨[u], []⟩ [(x, u)]) ∧ (∀ (H : Hp) (a : Addr) (ns : List Int), ns.length ≤ n → (∀ p ∈ cs, H p.2 = some (.tbl #[])) → SqL K H a (ns.map V.int) → sp [.ref a] H (fun v _ => v = .bl true) fun _ _ _ => False) ∧
    ∀ base : Heap, K.In base → base.Ns mainGlobals mg → (∀ p ∈ cs, TabB base mg p.1 p.2) → FnG l.prog w K mg base CX0 k fa fd [x] sp
theorem walk_gT {l : PySem.W.OpenLaw} {n k : Nat} {q : Program} {loose : List Str} {XP : (Str → Option Value) → Heap → Prop} {YP : World → Heap → Prop} {d : DefRec} {K : Params → PySem.W.Frag} {x : Str}
    (hn : l.most = some n) (hn2 : n ≤ sizeLine) (hdf : d.params.defaults = []) (hr : Room k callerA) (hY : ∀ (w : World) (h : Heap), YP w h → (K w.params).In h)
    (F : ∀ (w : World) (mg : Str → Option Value) (fa : Addr) (h : Heap), YP w h → (K w.params).In h → h.Ns mainGlobals mg → mg d.name = some (.ref fa) → LawG l w (K w.params) k n x mg fa h) :
    PySem.W.WalkO q loose XP YP l.row.toRowW d [] (fun f vs => PySem.call f vs) := by
  refine Att.attach_callB hn hdf ?_
  intro w s₀ s₁ mg mb fa o pm cd doc a vs ns G Y ho hd hcd hmg hobj hints hlen hbits hg
  have kin := hY w _ Y
  obtain ⟨fd, cs, sp, e1, e2, e3, bnd, ask, prm⟩ := F w mg fa _ Y kin G.T.g hmg
  exact end_gT kin G.T.g G.T.b G.T.builtins G.T.nolimit hg e1 e2 e3 G.T.bmain hobj hints (Nat.le_trans hlen hn2) hr prm bnd (fun H he hS => ask H a ns hlen he hS) (fun _ _ _ z => z)
end Gy

/-! An own exception class called with keywords: BaseException.__new__ takes them and forgets them, the own __init__ gets them. -/
namespace PySem
namespace Xg
open Builtin Builtin.ObjectAttr
section
variable {M : Model} {A : Around} {E : Value → Shared → Prop} {h : Heap} {g : Array GenState} {d : Drawn} {t : Nat} {os : OsState}
variable {nm q : Str} {C N : Addr} {bs bm bmB : List Value} {hdct : Bool} {sn : List Str} {sub : List Value} {ab : Bool} {col : Option Bool} {dd : Option Addr} {k0 k1 k2 k3 k5 : Option Value} {B newId initId : String}
theorem kw_check (F : ExcBaseFacts B newId initId bmB) (hT : ∀ X : String, bm.contains (.type X) = bmB.contains (.type X)) {us : List Value} {kw : List (Str × Value)} {Q : Unit → Shared → Prop}
    (cl : h.get? C = some (excClassObj nm q C N bs bm hdct sn sub ab col dd k0 k1 k2 k3 k5 newId)) (z : Q () ⟨h, g, d, t, os⟩) :
    wpAny M A (checkBuiltinCall newId ⟨.ref C :: us, kw⟩) Q E ⟨h, g, d, t, os⟩ := by
  have has : (Value.ref C :: bm).contains (.type B) = true := by
    rw [List.contains_cons, hT, F.hasB, Bool.or_true]
  have star := F.noStar
  simp only [checkBuiltinCall, F.newKind, F.newSplit, F.newRow]
  repeat (first
    | refine wpAny_loadPart_at cl ?_
    | (refine wpAny_isSubtype_exc cl ?_; rw [has])
    | refine wpAny_staticBase_exc cl ?_
    | refine wpAny_madeBy_exc cl ?_
    | simp only [bne_self_eq_false, Bool.false_eq_true, if_false]
    | wp_step)
  exact z
end
section
variable {prog : Program} {w : World} {A : Around} {E : Value → Shared → Prop} {R : Result → Shared → Prop} {h : Heap} {g : Array GenState} {d : Drawn} {t : Nat} {os : OsState}
variable {nm q : Str} {C N : Addr} {bs bm bmB : List Value} {hdct : Bool} {sn : List Str} {sub : List Value} {ab : Bool} {col : Option Bool} {dd : Option Addr} {k0 k1 k2 k3 k5 : Option Value} {B newId initId : String}
theorem kw_new (F : ExcBaseFacts B newId initId bmB) (hT : ∀ X : String, bm.contains (.type X) = bmB.contains (.type X)) {us : List Value} {kw : List (Str × Value)}
    (cl : h.get? C = some (excClassObj nm q C N bs bm hdct sn sub ab col dd k0 k1 k2 k3 k5 newId))
    (z : R (.ok (.ret (.ref (h.objs.size + 1)))) ⟨(h.push (W.kdv_tup us)).push (PX.excO C h.objs.size), g, d, t, os⟩) (len : us.length ≤ sizeLine) :
    codeAny (model prog w) A (.builtin newId ⟨.ref C :: us, kw⟩) R ⟨h, g, d, t, os⟩ := by
  have ends := F.ends
  have hB : (Value.ref C :: bm).contains (.type B) = true := by
    rw [List.contains_cons, hT, F.hasB, Bool.or_true]
  have hA : (Value.ref C :: bm).contains (.type "AttributeError") = false := by
    rw [List.contains_cons, hT, F.noAttr]
    rfl
  have hN : (Value.ref C :: bm).contains (.type "NameError") = false := by
    rw [List.contains_cons, hT, F.noName]
    rfl
  refine codeAny_builtinAt F.entry ?_
  unfold Builtin.«BaseException.__new__»
  refine wpAt_bind ?_
  show wpAt _ _ _ (stack >>= _) _ _ _
  refine wpAt_bind (wpAt_stack fun p below => wpAt_of_wpAny ?_)
  wp_walk
  refine wpAt_of_wpAny ?_
  rw [F.owner]
  repeat (first
    | with_reducible refine wpAny_madeHere_exc F.canon cl ?_
    | with_reducible refine wpAny_loadPart_at cl ?_
    | (with_reducible refine wpAny_isSubtype_exc cl ?_; first | rw [hB] | rw [hA] | rw [hN])
    | wp_step)
  show R _ _
  rw [Heap.size_push]
  exact z
theorem kw_type (F : ExcBaseFacts B newId initId bmB) (hT : ∀ X : String, bm.contains (.type X) = bmB.contains (.type X)) {us : List Value} {kw : List (Str × Value)} {fI : Addr} {Q : Fin → Shared → Prop}
    (cl : h.get? C = some (excClassObj nm q C N bs bm hdct sn sub ab col dd k0 k1 k2 k3 k5 newId))
    (hi : W.Looks (model prog w) h (typeLookup (.ref C) "__init__") (some (.ref fI))) (hb : ∀ self, W.Looks (model prog w) h (bindSpecial (.ref fI) self) (.ref fI, [self]))
    (len : us.length ≤ sizeLine)
    (z : codeAny (model prog w) A (.call (.ref fI) ⟨.ref (h.objs.size + 1) :: us, kw⟩)
      (fun r s' => match r with | .ok (.ret v) => v = .none ∧ Q (.done (.ret (.ref (h.objs.size + 1)))) s' | .ok _ => False | .error e => E e s')
      ⟨(h.push (W.kdv_tup us)).push (PX.excO C h.objs.size), g, d, t, os⟩) :
    wpAny (model prog w) A (Builtin.«type.__call__» ⟨.ref C :: us, kw⟩) Q E ⟨h, g, d, t, os⟩ := by
  repeat (first
    | with_reducible refine wpAny_loadPart_at cl ?_
    | with_reducible refine wpAny_madeBy_exc cl ?_
    | wp_step)
  refine codeAny_call_builtin_code (Code.quiet_builtin _ F.quiet) (kw_check F hT cl ?_)
  refine kw_new F hT cl ?_ len
  show wpAny _ _ _ _ _ _
  have keep : ∀ b o, h.get? b = some o → ((h.push (W.kdv_tup us)).push (PX.excO C h.objs.size)).get? b = some o := fun b o e =>
    Heap.get?_push_of_some _ (Heap.get?_push_of_some _ e)
  have cl1 := keep _ _ cl
  have new : ((h.push (W.kdv_tup us)).push (PX.excO C h.objs.size)).get? (h.objs.size + 1) = some (PX.excO C h.objs.size) := by heap_get
  have self : (Value.ref C :: bm).contains (.ref C) = true := by simp
  have i1 := hi.keeps keep
  have b1 := (hb (.ref (h.objs.size + 1))).keeps keep
  unfold isInstance
  repeat (first
    | with_reducible refine wpAny_loadPart_at new ?_
    | (with_reducible refine wpAny_isSubtype_exc cl1 ?_; rw [self])
    | wp_step)
  show wpAny _ _ (typeLookup (.ref C) _) _ _ _
  refine i1.at ?_
  refine wpAny_holding (wpAny_bind (b1.at ?_))
  refine wpAny_bind (wpAny_call (codeAny_mono z fun r s' y => ?_))
  rcases r with e | (v | _ | _ | _) <;> first | exact y | exact y.elim | skip
  obtain ⟨rfl, y⟩ := y
  first
    | exact wpAny_pure (wpAny_pure y)
    | (wp_walk; exact y)
theorem kw_call (F : ExcBaseFacts B newId initId bmB) (hT : ∀ X : String, bm.contains (.type X) = bmB.contains (.type X)) {us : List Value} {kw : List (Str × Value)} {fI : Addr}
    (cl : h.get? C = some (excClassObj nm q C N bs bm hdct sn sub ab col dd k0 k1 k2 k3 k5 newId))
    (hi : W.Looks (model prog w) h (typeLookup (.ref C) "__init__") (some (.ref fI))) (hb : ∀ self, W.Looks (model prog w) h (bindSpecial (.ref fI) self) (.ref fI, [self]))
    (len : us.length ≤ sizeLine)
    (z : codeAny (model prog w) (A.under (.builtin "type.__call__" ⟨.ref C :: us, kw⟩)) (.call (.ref fI) ⟨.ref (h.objs.size + 1) :: us, kw⟩) (W.InitBack (h.objs.size + 1) R)
      ⟨(h.push (W.kdv_tup us)).push (PX.excO C h.objs.size), g, d, t, os⟩) :
    codeAny (model prog w) A (.call (.ref C) ⟨us, kw⟩) R ⟨h, g, d, t, os⟩ := by
  have f1 := tc_lookup
  have f2 := tc_bind (.ref C)
  have ty : (⟨h, g, d, t, os⟩ : Shared).TypeIs (.ref C) "type" := ⟨_, cl, rfl⟩
  refine codeAny_of_tree ?_
  show wpAny _ _ (callAny (.ref C) _) _ _ _
  repeat (any_goals (first | assumption | with_reducible refine wpAny_loadPart_at cl ?_ | wp_step))
  refine ⟨rfl, ?_⟩
  refine codeAny_call_builtin_at (Code.quiet_builtin _ (by decide +kernel)) entry_typeCall (wpAny_check_type_call_sub cl (kw_type F hT cl hi hb len ?_))
  refine codeAny_mono z fun r s' y => ?_
  rcases r with e | (v | _ | _ | _) <;> exact y
end
end Xg
end PySem

/-! Own exception classes over any built-in base, made as values: by position, by name; their fields stored and read; isinstance. -/
namespace PySem
namespace Xg
open PySem.W PySem.Calls PyProof.Rows Builtin Builtin.ObjectAttr
section
variable {prog : Program} {w : World} {A : Around} {R : Result → Shared → Prop} {hp : Heap} {g : Array GenState} {d : Drawn} {t : Nat} {os : OsState} {K : Frag} {B : String} {bmB : List Value}
/-- the first field: the dict is made -/
theorem osa_first (SF : StoreFacts B bmB "object.__setattr__" "object") {name : Str} {tk : Tok} {v : Value} {x C t1 : Addr} (kin : K.In hp)
    (at_ : hp.get? x = some (PX.excO C t1)) (ov : excOver K C bmB = true) (no : takerIn K C name = some none) (hh : hasDictIn K C = true)
    (z : ∀ h' tk' dx, (∀ b o, b ≠ x → hp.get? b = some o → h'.get? b = some o) → hp.objs.size ≤ dx → dx ≠ x →
      h'.get? x = some { PX.excO C t1 with dict := some dx } → h'.Ns1 dx (fun y => if y = name then some v else none) → R (.ok (.ret .none)) ⟨h', g, d, tk', os⟩) :
    codeAny (model prog w) A (.call (.builtin "object.__setattr__") ⟨[.ref x, .str name tk, v], []⟩) R ⟨hp, g, d, t, os⟩ := by
  obtain ⟨cd, hc, hd'⟩ := any_some hh
  have lt := Heap.lt_size at_
  refine osa_openX (od := none) (s := ⟨hp, g, d, t, os⟩) SF kin ⟨at_, rfl, rfl, trivial⟩ ov no fun b => ?_
  refine wpAny_bind (wpAny_pure (wpAny_bind (instanceDict_exc (s := ⟨hp, g, d, t, os⟩) (c2 := .none) at_ (looks_clsIn kin hc) hd' ?_)))
  show wpAny _ _ (storeInDict hp.objs.size (.str name tk) name v) _ _ _
  refine HandSPX.store_in_new ?_ fun h' tk' hn hs => ?_
  · exact ⟨_, #[], _, (Heap.get?_update_ne _ _ _ _ (Nat.ne_of_gt lt)).trans (Heap.get?_push_at rfl rfl), rfl, fun e he => absurd he (by simp), fun _ => rfl⟩
  · refine z h' tk' hp.objs.size (fun b o nb e => ?_) (Nat.le_refl _) (Nat.ne_of_gt lt) ?_ hn
    · rw [hs.2 b (Nat.ne_of_lt (Heap.lt_size e)), Heap.get?_update_ne _ _ _ _ nb]
      exact Heap.get?_push_of_some _ e
    · rw [hs.2 x (Nat.ne_of_lt lt)]
      exact Heap.get?_update_self _ (Heap.get?_push_of_some _ at_) rfl
/-- a further field -/
theorem osa_next (SF : StoreFacts B bmB "object.__setattr__" "object") {name : Str} {tk : Tok} {v : Value} {x C t1 dx : Addr} {m0 : Str → Option Value} {nl : List Str} (kin : K.In hp)
    (at_ : hp.get? x = some { PX.excO C t1 with dict := some dx }) (ns : hp.Ns1 dx m0) (wi : Within m0 nl) (few : nl.length ≤ 1000)
    (ov : excOver K C bmB = true) (no : takerIn K C name = some none) (hh : hasDictIn K C = true)
    (z : ∀ h' tk', (∀ b o, b ≠ dx → hp.get? b = some o → h'.get? b = some o) → h'.Ns1 dx (fun y => if y = name then some v else m0 y) → R (.ok (.ret .none)) ⟨h', g, d, tk', os⟩) :
    codeAny (model prog w) A (.call (.builtin "object.__setattr__") ⟨[.ref x, .str name tk, v], []⟩) R ⟨hp, g, d, t, os⟩ := by
  obtain ⟨cd, hc, hd'⟩ := any_some hh
  obtain ⟨oD, _, _, gD, _, _⟩ := ns.count wi
  refine osa_openX (od := some oD) (s := ⟨hp, g, d, t, os⟩) SF kin ⟨at_, rfl, rfl, gD⟩ ov no fun b => ?_
  refine wpAny_bind (wpAny_pure (wpAny_bind (wpAny_bind (wpAny_loadPart at_ (wpAny_bind ((looks_clsIn kin hc).here ?_))))))
  rw [hd']
  refine wpAny_pure (a := some dx) ?_
  exact OEX.store_in_old ns wi few fun h' tk' hn hs => z h' tk' (fun b o nb e => (hs.2 b nb).trans e) hn
end
end Xg
end PySem

namespace Xl
open PySem PySem.Spec PyProof.Rows L2 Gy
/-- what the written part says of an own exception class at C -/
structure XCl (K : PySem.W.Frag) (C : Addr) : Prop where
  base : ∃ B newId initId bmB, ExcBaseFacts B newId initId bmB ∧ StoreFacts B bmB "object.__setattr__" "object" ∧ PySem.W.excInitIn K C bmB newId = true ∧ PySem.W.excOver K C bmB = true
  sa : PySem.W.findIn K (.ref C) "__setattr__" = some (some (.builtin "object.__setattr__"))
  ga : PySem.W.findIn K (.ref C) "__getattribute__" = some (some (.builtin "BaseException.__getattribute__"))
  gg : PySem.W.findIn K (.ref C) "__getattr__" = some none
  ca : PySem.W.findIn K (.ref C) "__class__" = some (some (.builtin "object.__class__"))
  ex : PySem.W.subIn K (.ref C) (.type "BaseException") = some true
  ob : PySem.W.mroIn K C (.type "object") = some true
  hd : PySem.W.hasDictIn K C = true
  kp : PySem.W.keepIn K (.ref C) = true
/-- its __init__ stands at fI -/
structure XIn (K : PySem.W.Frag) (C fI : Addr) : Prop extends XCl K C where
  ini : PySem.W.findIn K (.ref C) "__init__" = some (some (.ref fI))
  tf : PySem.W.typeIn K (.ref fI) = some (.type "function")
section
variable {X : Cx} {pins : List (Addr × Obj)} {σ : L2.St} {H : Hp} {s : Shared} {a C dx : Addr} {f : Str} {y : V} {u : Value} {fs : List (Str × V)} {Q : Unit → Shared → Prop} {E : Value → Shared → Prop} {A : Around}
theorem set_new (T : XCl X.K C) (I : Inv X pins σ H s) (e : H a = some (exo a C none)) (no : PySem.W.findIn X.K (.ref C) f = some none) (ry : RelV y u)
    (z : ∀ dx s', H dx = none → dx ≠ a → Inv X pins σ (upd (upd H dx (exd dx [(f, y)])) a (exo a C (some dx))) s' → Q () s') :
    wpAny (model X.prog X.w) A (setAttr (.ref a) f u) Q E s := by
  obtain ⟨B, nI, iI, bmB, _, SF, _, ov⟩ := T.base
  obtain ⟨t1, at_⟩ := exo_at I.hok e
  obtain ⟨hp, g, d, t, os⟩ := s
  have tk : PySem.W.takerIn X.K C f = some none := by
    unfold PySem.W.takerIn
    rw [no]
    rfl
  refine PySem.W.set_plain I.kIn (od := none) ⟨at_, rfl, rfl, trivial⟩ T.sa ?_
  refine PySem.Xg.osa_first SF I.kIn at_ ov tk T.hd ?_
  intro h' tk' dx keep big ne atX ns
  have free : H dx = none := I.hok.fresh big
  have old : ∀ {b o}, hp.get? b = some o → b ≠ dx := fun q => Nat.ne_of_lt (Nat.lt_of_lt_of_le (Heap.lt_size q) big)
  have noA : ∀ {b}, H b = none → b ≠ a := fun {b} n y => by
    rw [y, e] at n
    cases n
  have other : ∀ {b o}, H b = some o → o ≠ exo a C none → upd (upd H dx (exd dx [(f, y)])) a (exo a C (some dx)) b = some o := by
    intro b o q ne'
    have nb : b ≠ a := fun y => by
      rw [y, e] at q
      exact ne' (Option.some.inj q).symm
    rw [upd_ne nb, upd_ne (ne_of_none q free)]
    exact q
  have U : Un X.fs [] H (upd (upd H dx (exd dx [(f, y)])) a (exo a C (some dx))) hp h' := by
    refine ⟨fun b o q n _ _ => keep b o (noA n) q, fun b o q n _ _ => ⟨o.slots, keep b o (noA n) q⟩, fun b o q n _ => ?_, fun b o q _ => ?_, fun b xs q => ?_, fun b o v q => ?_, fun b ps q => ⟨#[], ?_⟩⟩
    · rw [upd_ne (noA n), upd_ne (old q)]
      exact n
    · by_cases nb : b = a
      · exact ⟨_, by rw [nb]; exact atX⟩
      · exact ⟨o, keep b o nb q⟩
    · exact other q (fun y => exo_tup y.symm)
    · exact other q (fun y => exo_frz y.symm)
    · rw [other q (fun y => exo_tbl y.symm)]
      simp
  refine z dx _ free ne (I.un (t' := tk') U ?_)
  intro b o q
  by_cases nb : b = a
  · subst nb
    rw [upd_same] at q
    cases q
    exact exo_ok atX
  · rw [upd_ne nb] at q
    by_cases nd : b = dx
    · subst nd
      rw [upd_same] at q
      cases q
      exact exd_ok ns (relO_put (fs := []) ry fun _ => True.intro)
    · rw [upd_ne nd] at q
      refine (I.hok b o q).stay (fun c v hc y => keep c v ?_ y) (fun c hc => other hc (fun y => exo_own y.symm)) (fun c xs hc => other hc (fun y => exo_tup y.symm))
      rcases hc with hc | hc
      · rw [hc]
        exact nb
      · exact at_ne e hc exo_own
theorem set_more (T : XCl X.K C) (I : Inv X pins σ H s) (e : H a = some (exo a C (some dx))) (ed : H dx = some (exd dx fs)) (few : fs.length ≤ 900) (no : PySem.W.findIn X.K (.ref C) f = some none) (ry : RelV y u)
    (z : ∀ s', Inv X pins σ (upd H dx (exd dx ((f, y) :: fs))) s' → Q () s') : wpAny (model X.prog X.w) A (setAttr (.ref a) f u) Q E s := by
  obtain ⟨B, nI, iI, bmB, _, SF, _, ov⟩ := T.base
  obtain ⟨t1, at_⟩ := exo_at I.hok e
  obtain ⟨mA, ns, rel⟩ := exd_at I.hok ed
  have wi := within_of rel
  obtain ⟨hp, g, d, t, os⟩ := s
  obtain ⟨oD, _, _, gD, _, _⟩ := ns.count wi
  have tk : PySem.W.takerIn X.K C f = some none := by
    unfold PySem.W.takerIn
    rw [no]
    rfl
  refine PySem.W.set_plain I.kIn (od := some oD) ⟨at_, rfl, rfl, gD⟩ T.sa ?_
  refine PySem.Xg.osa_next SF I.kIn at_ ns wi (by rw [List.length_map]; omega) ov tk T.hd ?_
  intro h' tk' keep hn
  have there : ∃ o, h'.get? dx = some o := by
    obtain ⟨o, _, _, q, _⟩ := hn
    exact ⟨o, q⟩
  exact z _ (I.write (t' := tk') (x := dx) (e := dx) (o := exd dx ((f, y) :: fs)) (by rw [ed]; trivial) (.inl rfl) keep there (exd_ok hn (relO_put ry rel)))
end
/-! ### readings and rules -/
/-- self.f = e in such an __init__ -/
def tXs (K : PySem.W.Frag) (f : Str) (to te : TE) : TS := fun D σ H => te σ H fun y H1 => to σ H1 fun x H2 => ∃ a C : Addr, x = .ref a ∧ XCl K C ∧ PySem.W.findIn K (.ref C) f = some none ∧
  ((H2 a = some (exo a C none) ∧ ∀ dx, H2 dx = none → dx ≠ a → D.nx σ (upd (upd H2 dx (exd dx [(f, y)])) a (exo a C (some dx)))) ∨
    ∃ (dx : Addr) (fs : List (Str × V)), H2 a = some (exo a C (some dx)) ∧ H2 dx = some (exd dx fs) ∧ fs.length ≤ 900 ∧ D.nx σ (upd H2 dx (exd dx ((f, y) :: fs))))
/-- C(..): the object made, then __init__ -/
def tXm (C : Addr) (sp : Sp) (gV : List V → List V → List V) (t tk : TA) : TE := fun σ H Q => t σ H fun vs H0 => tk σ H0 fun zs H1 => vs.length ≤ 1000 ∧ ∀ a, H1 a = none →
  sp (.ref a :: gV vs zs) (upd H1 a (exo a C none)) (fun v H2 => v = .non ∧ Q (.ref a) H2) (fun _ _ _ => False)
section
variable {X : Cx} {o e : Expr} {es : List Expr} {kws : List Keyword} {to te : TE} {t tk : TA} {f : Str} {p p' pos : Pos}
theorem ps_xs (ho : PE X o to) (he : PE X e te) (hs : swapsWith e (some (.Attribute o f p')) pos.line X.env = pure false := by rfl) : PS X (.Assign [.Attribute o f p'] e pos) (tXs X.K f to te) := by
  constructor
  intro pins s σ H D I h
  refine plainObj_wpAny_Assign_Attribute (thn (he.run pins s σ H _ I h) ?_) hs
  rintro v s1 ⟨y, H1, I1, r1, q1⟩
  refine thn (ho.run pins s1 σ H1 _ I1 q1) ?_
  rintro u s2 ⟨x, H2, I2, r2, a, C, rfl, T, no, q⟩
  cases r2
  rcases q with ⟨ea, q⟩ | ⟨dx, fs, ea, ed, few, q⟩
  · exact set_new T I2 ea no r1 fun dx s' n ne J => ⟨σ, _, J, q dx n ne⟩
  · exact set_more T I2 ea ed few no r1 fun s' J => ⟨σ, _, J, q⟩
/-- how positional values and keywords come to __init__'s parameters -/
structure XB (K : PySem.W.Frag) (fd : FuncData) (ps ks : List Str) (g : List Value → List Value → List Value) (gV : List V → List V → List V) : Prop where
  to : ∀ (s : Shared) (b : Value) (us ws : List Value), K.In s.heap → (b :: g us ws).length = ps.length → BindsTo s fd ⟨b :: us, ks.zip ws⟩ (ps.zip (b :: g us ws))
  rel : ∀ {vs : List V} {us : List Value} {zs : List V} {ws : List Value}, Vals vs us → Vals zs ws → Vals (gV vs zs) (g us ws)
variable {CX : CXT} {C fI : Addr} {k : Nat} {fd : FuncData} {ps ks : List Str} {sp : Sp} {g : List Value → List Value → List Value} {gV : List V → List V → List V} {x : Str}
theorem run_x {pins : List (Addr × Obj)} {σ : L2.St} {H : Hp} {s : Shared} {Q : VK} {us ws : List Value} {vs zs : List V} (T : XIn X.K C fI) (F : FnOk X.prog X.w X.K X.mg X.base CX k fI fd ps sp) (hr : Room (k + 1) X.A)
    (hb : XB X.K fd ps ks g gV) (hx : Passes CX X (fun _ _ _ => False)) (I : Inv X pins σ H s) (r : Vals vs us) (rz : Vals zs ws) (len : vs.length ≤ 1000)
    (h : ∀ a, H a = none → sp (.ref a :: gV vs zs) (upd H a (exo a C none)) (fun v H2 => v = .non ∧ Q (.ref a) H2) (fun _ _ _ => False)) :
    wpAny (model X.prog X.w) X.A (call (.ref C) us (ks.zip ws)) (EP X pins σ Q) X.xe s := by
  obtain ⟨B, nI, iI, bmB, BF, _, ii, _⟩ := T.base
  obtain ⟨nm, N', qn, bs, bm, hdct, sn, sub, ab, col, dd, k0, k1, k2, k3, k5, cl, hT⟩ := PySem.W.excInit_of I.kIn ii
  obtain ⟨hp, g', dr, tk', os⟩ := s
  have big : hp.objs.size ≤ hp.objs.size + 1 := Nat.le_succ _
  have hq := h (hp.objs.size + 1) (I.hok.fresh big)
  have keep : ∀ b o, hp.get? b = some o → ((hp.push (PySem.W.kdv_tup us)).push (PySem.PX.excO C hp.objs.size)).get? b = some o := fun b o e =>
    Heap.get?_push_of_some _ (Heap.get?_push_of_some _ e)
  have new : ((hp.push (PySem.W.kdv_tup us)).push (PySem.PX.excO C hp.objs.size)).get? (hp.objs.size + 1) = some (PySem.PX.excO C hp.objs.size) := by heap_get
  have I2 := I.laid (t' := tk') (a := hp.objs.size + 1) (o := exo (hp.objs.size + 1) C none) keep big (exo_ok new)
  have r2 : Vals (V.ref (hp.objs.size + 1) :: gV vs zs) (Value.ref (hp.objs.size + 1) :: g us ws) := .cons rfl (hb.rel r rz)
  have bl := hb.to ⟨_, g', dr, tk', os⟩ (Value.ref (hp.objs.size + 1)) us ws I2.kIn (by rw [← r2.length]; exact F.len _ _ _ _ hq)
  refine wpAny_call (PySem.Xg.kw_call BF hT cl (PySem.W.looks_findIn I.kIn T.ini) (fun self => PySem.W.bind_fn I.kIn self T.tf) ?_ (codeAny_mono (F.run _ X.stack _ _ _ _ _ _ _ (hr.make C us (ks.zip ws)) (I2.env0.make C us (ks.zip ws)) bl r2 hq) ?_))
  · rw [← r.length, sizeLine_eq]
    omega
  · rintro (er | (_ | _ | _ | u)) s' z
    · exact hx pins σ _ _ er s' I2 z
    · exact z.elim
    · exact z.elim
    · exact z.elim
    · obtain ⟨v, H', I3, rv, ev, q3⟩ := I2.after z
      subst ev
      exact ⟨rv, V.ref (hp.objs.size + 1), H', I3, rfl, q3⟩
theorem pe_xm (T : XIn X.K C fI) (F : FnOk X.prog X.w X.K X.mg X.base CX k fI fd ps sp) (hr : Room (k + 1) X.A) (hg : Gl X x) (hm : X.mg x = some (.ref C)) (hb : XB X.K fd ps [] g gV) (hx : Passes CX X (fun _ _ _ => False))
    (ha : PA X (e :: es) t) (hdb : (x == ("__debug__" : Str)) = false := by decide) (he : starEach (e :: es) X.env = (false, eval e X.env) :: starEach es X.env := by rfl)
    (hpl : (backTo pos (starEach es X.env)).any (·.1) = false := by rfl) : PE X (.Call (.Name x p) (e :: es) [] pos) (tXm C sp gV t tNil) := by
  constructor
  intro pins s σ H Q I h
  refine wpAny_Call_Name_kw (ld_glob I hg hm ?_ hdb)
  refine PySem.W.callWith_K (h₀ := X.base) I.ok.mod.kin T.kp (thn (ha.run pos pins s σ H _ I h) ?_) he hpl
  rintro us s1 ⟨vs, H1, I1, r, q⟩
  obtain ⟨len, q⟩ := q
  exact ⟨I1.kIn, run_x (ks := []) (ws := []) T F hr hb hx I1 r .nil len q⟩
theorem pe_xm0 (T : XIn X.K C fI) (F : FnOk X.prog X.w X.K X.mg X.base CX k fI fd ps sp) (hr : Room (k + 1) X.A) (hg : Gl X x) (hm : X.mg x = some (.ref C)) (hb : XB X.K fd ps [] g gV) (hx : Passes CX X (fun _ _ _ => False))
    (hdb : (x == ("__debug__" : Str)) = false := by decide) : PE X (.Call (.Name x p) [] [] pos) (tXm C sp gV tNil tNil) := by
  constructor
  intro pins s σ H Q I h
  obtain ⟨len, q⟩ := h
  refine wpAny_Call_Name_kw (ld_glob I hg hm ?_ hdb)
  exact PySem.W.callWith_K0 I.kIn T.kp (run_x (us := []) (ks := []) (ws := []) T F hr hb hx I .nil .nil len q)
theorem pe_xk (T : XIn X.K C fI) (F : FnOk X.prog X.w X.K X.mg X.base CX k fI fd ps sp) (hr : Room (k + 1) X.A) (hg : Gl X x) (hm : X.mg x = some (.ref C)) (hb : XB X.K fd ps ks g gV) (hx : Passes CX X (fun _ _ _ => False))
    (hkw : PK X kws tk) (hall : (backToKw pos (keywordEach kws X.env)).all (·.1.isSome) = true := by rfl) (hks : (backToKw pos (keywordEach kws X.env)).filterMap (·.1) = ks := by rfl)
    (hdb : (x == ("__debug__" : Str)) = false := by decide)
    (hpl : ((backTo pos (starEach [] X.env)).any (·.1) || (backToKw pos (keywordEach kws X.env)).any (·.1.isNone)) = false := by rfl) :
    PE X (.Call (.Name x p) [] kws pos) (tXm C sp gV tNil tk) := by
  constructor
  intro pins s σ H Q I h
  refine wpAny_Call_Name_kw (ld_glob I hg hm ?_ hdb)
  refine PySem.W.callWith_KW0 (h₀ := X.base) I.ok.mod.kin T.kp hall (thn (hkw.run pos pins s σ H _ I h) ?_) hpl
  rintro ws s2 ⟨zs, H2, I2, rz, len, q2⟩
  rw [hks]
  exact ⟨I2.kIn, run_x (us := []) T F hr hb hx I2 .nil rz len q2⟩
/-- an exception of the class C stands at a, its fields fs -/
def XAt (K : PySem.W.Frag) (H : Hp) (a C : Addr) (fs : List (Str × V)) : Prop := XCl K C ∧ ((fs = [] ∧ H a = some (exo a C none)) ∨ ∃ d, H a = some (exo a C (some d)) ∧ H d = some (exd d fs))
/-- e.f -/
def tXf1 (K : PySem.W.Frag) (f : Str) (te : TE) : TE := fun σ H Q => te σ H fun x H1 => ∃ (a C : Addr) (fs : List (Str × V)) (v : V), x = .ref a ∧ XAt K H1 a C fs ∧ PySem.W.findIn K (.ref C) f = some none ∧ fs.lookup f = some v ∧ Q v H1
theorem pe_xf1 {n : Str} (he : PE X e te) (hb : attributeBase e n X.env (eval e X.env) = eval e X.env := by rfl) : PE X (.Attribute e n pos) (tXf1 X.K n te) := by
  constructor
  intro pins s σ H Q I h
  refine attr_of hb (thn (he.run pins s σ H _ I h) ?_)
  rintro u s1 ⟨x, H1, I1, rx, a, C, fs, v, rfl, ⟨T, at_⟩, no, l, q⟩
  cases rx
  rcases at_ with ⟨rfl, _⟩ | ⟨d, ea, ed⟩
  · cases l
  · obtain ⟨t1, ga⟩ := exo_at I1.hok ea
    obtain ⟨mA, ns, rel⟩ := exd_at I1.hok ed
    obtain ⟨od, go, hl⟩ := lookIn_ns ns
    obtain ⟨u, hu, ru⟩ := RelO.some_of (v := v) (o := mA n) (by rw [← l]; exact rel n)
    exact PySem.PX.exc_get I1.kIn (od := some od) ⟨ga, rfl, rfl, go⟩ T.ga T.gg T.ex (PySem.W.findObj_own T.hd no rfl (by rw [hl, hu])) (handed_of ru) ⟨v, H1, I1.tok _, ru, q⟩
/-- isinstance(e, c) -/
def rIsX (K : PySem.W.Frag) : List V → Hp → VK → Prop := fun xs H Q => ∃ (a C : Addr) (fs : List (Str × V)) (c : V) (cv : Value) (b : Bool), xs = [.ref a, c] ∧ XAt K H a C fs ∧ ClsV c cv ∧ PySem.W.kitOne K (.ref C) cv = some b ∧ Q (.bl b) H
theorem call_isX (cg : PySem.W.specialIn X.K (.builtin "object.__class__") "__get__" = some (some (.builtin "getset_descriptor.__get__"))) (ct : PySem.W.takesIn X.K (.builtin "object.__class__") = some true) :
    CallR X (.builtin "isinstance") (rIsX X.K) := by
  intro pins s σ H xs us Q I r h
  obtain ⟨a, C, fs, c, cv, b, rfl, ⟨T, at_⟩, hc, e, q⟩ := h
  obtain ⟨u1, u2, rfl, r1, r2⟩ := vals2 r
  cases r1
  have e2 := hc.eq r2
  subst e2
  have cls : (PySem.W.clsIn X.K C).isSome = true := by
    obtain ⟨cd, z, _⟩ := PySem.W.any_some T.hd
    rw [z]
    rfl
  have inst : ∃ ox od, PySem.W.InstAt s.heap a ox C od := by
    rcases at_ with ⟨_, ea⟩ | ⟨d, ea, ed⟩
    · obtain ⟨t1, ga⟩ := exo_at I.hok ea
      exact ⟨_, none, ga, rfl, rfl, trivial⟩
    · obtain ⟨t1, ga⟩ := exo_at I.hok ea
      obtain ⟨mA, ns, rel⟩ := exd_at I.hok ed
      obtain ⟨od, go, hl⟩ := lookIn_ns ns
      exact ⟨_, some od, ga, rfl, rfl, go⟩
  obtain ⟨ox, od, J⟩ := inst
  exact PySem.W.kia_one (PySem.W.kitx_exc cls T.ga T.gg T.ex T.ca cg ct T.ob) I.kIn J e (fun z => nomatch z) fun tk => ⟨.bl b, H, I.tok tk, rfl, q⟩
/-- C(e, ..) of a class without an __init__ of its own -/
def tXb (C : Addr) (t : TA) : TE := fun σ H Q => t σ H fun vs H1 => vs.length ≤ 1000 ∧ ∀ a, H1 a = none → Q (.ref a) (upd H1 a (exo a C none))
theorem pe_xb (T : XCl X.K C) (hi : ∃ B newId initId bmB, ExcBaseFacts B newId initId bmB ∧ PySem.W.excInitIn X.K C bmB newId = true ∧ PySem.W.findIn X.K (.ref C) "__init__" = some (some (.builtin initId)))
    (hg : Gl X x) (hm : X.mg x = some (.ref C)) (ha : PA X (e :: es) t) (hdb : (x == ("__debug__" : Str)) = false := by decide)
    (he : starEach (e :: es) X.env = (false, eval e X.env) :: starEach es X.env := by rfl) (hpl : (backTo pos (starEach es X.env)).any (·.1) = false := by rfl) :
    PE X (.Call (.Name x p) (e :: es) [] pos) (tXb C t) := by
  constructor
  intro pins s σ H Q I h
  obtain ⟨B, nI, iI, bmB, BF, ii, fi⟩ := hi
  refine wpAny_Call_Name_kw (ld_glob I hg hm ?_ hdb)
  refine PySem.W.callWith_K (h₀ := X.base) I.ok.mod.kin T.kp (thn (ha.run pos pins s σ H _ I h) ?_) he hpl
  rintro us s1 ⟨vs, H1, I1, r, len, q⟩
  refine ⟨I1.kIn, ?_⟩
  obtain ⟨nm, N', qn, bs, bm, hdct, sn, sub, ab, col, dd, k0, k1, k2, k3, k5, cl, hT⟩ := PySem.W.excInit_of I1.kIn ii
  have lk := PySem.W.looks_findIn (M := model X.prog X.w) I1.kIn fi
  obtain ⟨hp, g', dr, tk', os⟩ := s1
  show wpAny _ _ (call (.ref C) us) _ _ _
  refine PySem.W.call_B BF hT cl lk (by rw [← r.length, sizeLine_eq]; omega) fun h' keep new _ => ?_
  exact ⟨V.ref (hp.objs.size + 1), _, I1.laid (t' := tk') keep (Nat.le_succ _) (exo_ok new), rfl, q _ (I1.hok.fresh (Nat.le_succ _))⟩
end
end Xl

namespace Gy
open PySem PySem.Spec PyProof.Rows L2
/-- data, or a dict without entries, or one whose only key is the text k and whose value is an int -/
inductive Dz (K : PySem.W.Frag) (H : Hp) : V → PyData → Prop
  | dat {v : V} {d : PyData} (h : Dp K H v d) (n : d.hasDict = false) : Dz K H v d
  | d0 {a : Addr} (h : H a = some (.dK [])) : Dz K H (.ref a) (.dict [])
  | d1 {a : Addr} {k : Str} {i : Int} (h : H a = some (.dK [(Sum.inr k, .int i)])) : Dz K H (.ref a) (.dict [(.str k, .int i)])
theorem Dz.reads {X : Cx} {pins : List (Addr × Obj)} {σ : L2.St} {H : Hp} {s : Shared} (I : Inv X pins σ H s) {v : V} {d : PyData} {u : Value} (h : Dz X.K H v d) (r : RelV v u) :
    ∃ as, Reads s.heap u d as ∧ (d.hasDict = true → sysModules ∉ as) := by
  cases h with
  | dat h n =>
    obtain ⟨as, z⟩ := Dp.reads I d v u h r
    exact ⟨as, z, fun q => by rw [n] at q; cases q⟩
  | @d0 a h =>
    cases r
    obtain ⟨_, ns, vs, kv, o, es, ep, g1, ex, g2, ks, ps, _⟩ := (show ObjOk X.prog X.w H s.heap a (.dK []) from I.hok a _ h)
    cases kv
    have e : es.toList = [] := by
      generalize es.toList = l at ps
      cases ps
      rfl
    refine ⟨_, .dict g1 ex.1 g2 (as := []) (bs := []) (by rw [e]; exact .nil) (by rw [e]; exact .nil), fun _ q => ?_⟩
    rw [List.append_nil, List.mem_singleton] at q
    rw [← q] at ns
    cases ns
  | @d1 a k i h =>
    cases r
    obtain ⟨_, ns, vs, kv, o, es, ep, g1, ex, g2, ks, ps, _⟩ := (show ObjOk X.prog X.w H s.heap a (.dK [(Sum.inr k, .int i)]) from I.hok a _ h)
    obtain ⟨t1, t2, e1, e2⟩ : ∃ t1 t2, es.toList.map (·.key) = [.str k t1] ∧ es.toList.map (·.val) = [.int i t2] := by
      generalize es.toList = l at ps
      cases kv with
      | cons hk hr =>
        cases hr
        obtain ⟨h1, h2⟩ := hk
        cases ps with
        | cons p1 p2 p3 =>
          cases p3
          rw [← h1] at p1
          rcases keyIs_shape (show keyIs (Sum.inr k) _ = true from p1) with ⟨j, t, q, _⟩ | ⟨x, t, q, q2⟩
          · cases q
          · cases q
            obtain ⟨t2, h2⟩ := h2
            refine ⟨t, t2, ?_, ?_⟩
            · rw [List.map_singleton, q2]
            · rw [List.map_singleton, p2, h2]
    refine ⟨_, .dict g1 ex.1 g2 (as := [] ++ []) (bs := [] ++ []) (by rw [e1]; exact .cons (.str k t1) .nil) (by rw [e2]; exact .cons (.int i t2) .nil), fun _ q => ?_⟩
    have q' : sysModules ∈ [a] := q
    rw [List.mem_singleton] at q'
    rw [← q'] at ns
    cases ns
/-- each of them shown -/
theorem shows_all {X : Cx} {pins : List (Addr × Obj)} {σ : L2.St} {H : Hp} {s : Shared} (I : Inv X pins σ H s) : ∀ {vs : List V} {ds : List PyData} {us : List Value}, Paired (Dz X.K H) vs ds → Vals vs us →
    PyData.showableAll ds = true → (∀ t ∈ PyData.shownAll ds, t.length ≤ sizeLine) →
    ∃ as bs, ReadsAll s.heap us ds as ∧ ReadAtMost s.heap (PyData.depthAll ds) bs ∧ ReprAllK X.prog X.w bs s.heap (PyData.depthAll ds) us (PyData.shownAll ds)
  | _, _, _, .nil, .nil, _, _ => ⟨[], [], .nil, (fun _ h => nomatch h), .nil⟩
  | _, _, _, .cons (b := d) (l₂ := ds) h hs, .cons r rs, sh, len => by
    have sh2 : d.showable = true ∧ PyData.showableAll ds = true := by simpa only [PyData.showableAll, Bool.and_eq_true] using sh
    obtain ⟨as, rd, no⟩ := h.reads I r
    obtain ⟨b1, m1, k1⟩ := ReprK.of_reads (prog := X.prog) (w := X.w) rd sh2.1 no (len _ List.mem_cons_self)
    obtain ⟨as2, b2, rd2, m2, k2⟩ := shows_all I hs rs sh2.2 fun t ht => len t (List.mem_cons_of_mem _ ht)
    have l1 : d.depth ≤ PyData.depthAll (d :: ds) := Nat.le_max_left _ _
    have l2 : PyData.depthAll ds ≤ PyData.depthAll (d :: ds) := Nat.le_max_right _ _
    refine ⟨as ++ as2, b1 ++ b2, .cons rd rd2, (m1.mono l1).append (m2.mono l2), ?_⟩
    exact .cons ((k1.more fun b hb => List.mem_append_left _ hb).level_le l1) (k2.more_le (fun b hb => List.mem_append_right _ hb) l2)
/-- repr of a list of such values -/
def rRepr (K : PySem.W.Frag) : List V → Hp → VK → Prop := fun xs H Q => ∃ l vs ds, xs = [.ref l] ∧ SqL K H l vs ∧ vs ≠ [] ∧ Paired (Dz K H) vs ds ∧ PyData.showableAll ds = true ∧ PyData.depthAll ds ≤ 60 ∧
  (listText (PyData.shownAll ds)).length ≤ sizeLine ∧ Q (.str (listText (PyData.shownAll ds))) H
theorem repr_dz {X : Cx} (hg : X.A.guards = some []) (hu : X.A.units + 70 < cLine) : CallR X (.builtin "repr") (rRepr X.K) := by
  intro pins s σ H xs us Q I r h
  obtain ⟨l, vs, ds, rfl, sq, nn, dz, sh, dp, len, q⟩ := h
  obtain ⟨u, rfl, ru⟩ := vals1 r
  cases ru
  obtain ⟨its, rv, ⟨o, n, g1, g2, _, g3⟩, _⟩ := I.list sq
  obtain ⟨as, bs, rd, at_, sw⟩ := shows_all I dz rv sh fun t ht => Nat.le_trans (listText_mem_le ht) len
  have out : l ∉ bs := not_mem_of_deeper (.list g1 g2 g3 rd) (by simp only [PyData.depth]; omega) at_
  match its, nn, rv, g3, rd, sw with
  | [], nn, rv, _, _, _ =>
    cases rv
    exact absurd rfl nn
  | x :: rest, _, _, g3, _, sw =>
    refine call_repr_slot (T := "list") (idr := "list.__repr__") (by omega) ⟨o, g1, g2⟩ F.slot_list_repr.toG ?_
    refine call_list_reprK g1 g2 g3 out (by simpa using sw.length_eq) (fun i y e => sw.item i y (by simpa using e)) (g := []) hg (fun b _ => Clear.nil b) (d := PyData.depthAll ds) ?_ (fun _ _ e => e) (fun h' u tk hk => ?_) len
    · show X.A.units + 1 + (PyData.depthAll ds + 1) < cLine
      omega
    · exact ⟨_, _, rfl, .str _, H, I.kept hk, ⟨u, rfl⟩, q⟩
end Gy

/-! Own exceptions over any base raised and caught: one field; several clauses with a name. -/
namespace Xl
open PySem PySem.Spec PyProof.Rows L2 Gy
/-- an __init__ of one field f -/
def spI1 (C : Addr) (f : Str) : Sp := fun vs H Q _ => ∃ (a : Addr) (v : V), vs = [.ref a, v] ∧ H a = some (exo a C none) ∧ ∀ dx, H dx = none → dx ≠ a → Q .non (upd (upd H dx (exd dx [(f, v)])) a (exo a C (some dx)))
theorem del_made {H : Hp} {a dx C : Addr} {f : Str} {v : V} (n : H a = none) (ne : dx ≠ a) :
    upd (del (upd (upd (upd H a (exo a C none)) dx (exd dx [(f, v)])) a (exo a C (some dx))) a) dx (.xd [(f, v)]) = upd H dx (.xd [(f, v)]) := by
  funext b
  by_cases h1 : b = dx
  · rw [h1, upd_same, upd_same]
  · rw [upd_ne h1, upd_ne h1]
    by_cases h2 : b = a
    · rw [h2, del_same, n]
    · rw [del_ne h2, upd_ne h2, upd_ne h1, upd_ne h2]
section
variable {X : Cx} {C fI : Addr} {fd : FuncData} {f x : Str} {e : Expr} {te : TE} {p pos : Pos} {CX' : CXT}
/-- C(e), to be raised -/
def tMk1 (C : Addr) (f : Str) (t : TA) : L2.St → Hp → XK → Prop := fun σ H Q => t σ H fun vs H1 => ∃ v, vs = [v] ∧ ∀ d, H1 d = none → Q (.ref C) (some d) (upd H1 d (.xd [(f, v)]))
theorem pmk_x1 {t : TA} (T : XIn X.K C fI) (ty : PySem.W.typeIn X.K (.ref C) = some (.type "type")) (F : FnOk X.prog X.w X.K X.mg X.base CX0 1 fI fd ["self", f] (spI1 C f)) (hr : Room 2 X.A)
    (hb : XB X.K fd ["self", f] [] (fun us _ => us) (fun vs _ => vs)) (hg : Gl X x) (hm : X.mg x = some (.ref C)) (ha : PA X [e] t)
    (hdb : (x == ("__debug__" : Str)) = false := by decide) (hst : starEach [e] X.env = (false, eval e X.env) :: starEach [] X.env := by rfl) :
    PMk X (.Call (.Name x p) [e] [] pos) (tMk1 C f t) := by
  intro pins s σ H Q I h
  refine wpAny_Call_Name_kw (ld_glob I hg hm ?_ hdb)
  refine PySem.W.callWith_K (h₀ := X.base) I.ok.mod.kin T.kp (thn (ha.run pos pins s σ H _ I h) ?_) hst rfl
  rintro us s1 ⟨vs, H1, I1, r1, v, rfl, q1⟩
  refine ⟨I1.kIn, ?_⟩
  show wpAny _ _ (call (.ref C) us) _ _ _
  obtain ⟨B, nI, iI, bmB, BF, _, ii, _⟩ := T.base
  obtain ⟨nm, N', qn, bs, bm, hdct, sn, sub, ab, col, dd, k0, k1, k2, k3, k5, cl, hT⟩ := PySem.W.excInit_of I1.kIn ii
  obtain ⟨hp, g', dr, tk', os⟩ := s1
  have big : hp.objs.size ≤ hp.objs.size + 1 := Nat.le_succ _
  have na : H1 (hp.objs.size + 1) = none := I1.hok.fresh big
  have keep : ∀ b o, hp.get? b = some o → ((hp.push (PySem.W.kdv_tup us)).push (PySem.PX.excO C hp.objs.size)).get? b = some o := fun b o e =>
    Heap.get?_push_of_some _ (Heap.get?_push_of_some _ e)
  have new : ((hp.push (PySem.W.kdv_tup us)).push (PySem.PX.excO C hp.objs.size)).get? (hp.objs.size + 1) = some (PySem.PX.excO C hp.objs.size) := by heap_get
  have I2 := I1.laid (t' := tk') (a := hp.objs.size + 1) (o := exo (hp.objs.size + 1) C none) keep big (exo_ok new)
  have r2 : Vals [V.ref (hp.objs.size + 1), v] (Value.ref (hp.objs.size + 1) :: us) := .cons rfl r1
  have hq : spI1 C f [V.ref (hp.objs.size + 1), v] (upd H1 (hp.objs.size + 1) (exo (hp.objs.size + 1) C none))
      (fun r H2 => r = .non ∧ ∃ dx, dx ≠ hp.objs.size + 1 ∧ upd H1 (hp.objs.size + 1) (exo (hp.objs.size + 1) C none) dx = none ∧
        H2 = upd (upd (upd H1 (hp.objs.size + 1) (exo (hp.objs.size + 1) C none)) dx (exd dx [(f, v)])) (hp.objs.size + 1) (exo (hp.objs.size + 1) C (some dx))) (fun _ _ _ => False) :=
    ⟨_, v, rfl, upd_same, fun dx nd ne => ⟨rfl, dx, ne, nd, rfl⟩⟩
  have bl := hb.to ⟨_, g', dr, tk', os⟩ (Value.ref (hp.objs.size + 1)) us [] I2.kIn (by rw [← r2.length]; rfl)
  refine wpAny_call (PySem.Xg.kw_call BF hT cl (PySem.W.looks_findIn I1.kIn T.ini) (fun self => PySem.W.bind_fn I1.kIn self T.tf) ?_ (codeAny_mono (F.run _ X.stack _ _ _ _ _ _ _ (hr.make C us []) (I2.env0.make C us []) bl r2 hq) ?_))
  · rw [← r1.length, sizeLine_eq]
    show 1 ≤ 16777216
    decide
  · rintro (er | (_ | _ | _ | u)) s' z
    · exact (show False from z).elim
    · exact z.elim
    · exact z.elim
    · exact z.elim
    · obtain ⟨r, H2, os2, bare2, un2, hok2, rv, er, dx, ne, nd, e2⟩ := z
      subst er
      obtain ⟨h2, g2, d2, t2, os'⟩ := s'
      subst e2
      refine ⟨rv, mk_end (raises_own T.ex ty) I1 big keep un2 hok2 os2 bare2 upd_same ((upd_ne ne).trans upd_same) ((upd_ne ne).symm.trans nd) ?_⟩
      rw [del_made na ne]
      exact q1 dx ((upd_ne ne).symm.trans nd)
/-- raise C(e) -/
theorem ps_raise1 {W : WX} {t : TA} {rp : Pos} (hc : X.calm = true) (tk : Takes X W) (T : XIn X.K C fI) (ty : PySem.W.typeIn X.K (.ref C) = some (.type "type")) (F : FnOk X.prog X.w X.K X.mg X.base CX0 1 fI fd ["self", f] (spI1 C f)) (hr : Room 2 X.A)
    (hb : XB X.K fd ["self", f] [] (fun us _ => us) (fun vs _ => vs)) (hg : Gl X x) (hm : X.mg x = some (.ref C)) (ha : PA X [e] t)
    (hdb : (x == ("__debug__" : Str)) = false := by decide) (hst : starEach [e] X.env = (false, eval e X.env) :: starEach [] X.env := by rfl) :
    PS X (.Raise (some (.Call (.Name x p) [e] [] pos)) none rp) (fun _ σ H => tMk1 C f t σ H fun cls d H' => W cls d σ H') :=
  ps_raise hc tk (pmk_x1 T ty F hr hb hg hm ha hdb hst)
end
section
variable {X : Cx}
/-- what several clauses 'except x as n' wish of an exception of the body, one after the other: slot i is n's -/
def wManyAs (K : PySem.W.Frag) (i : Nat) (Wout : WX) (D : Ends) : List (Value × (Addr → Value → Option Addr → TS)) → WX
  | [] => Wout
  | (c, ts) :: r => fun cls d σ H => ∃ b, PySem.W.exmOne K cls c = some b ∧
      (b = true → ∀ a, H a = none → ts a cls d { nx := fun σ' H' => D.nx (σ'.set i none) H', rt := D.rt, bk := fun σ' H' => D.bk (σ'.set i none) H', ct := fun σ' H' => D.ct (σ'.set i none) H' } (σ.set i (some (.ref a))) H) ∧
      (b = false → wManyAs K i Wout D r cls d σ H)
inductive HdsAs (X : Cx) (n : Str) : List ExceptHandler → List (Value × (Addr → Value → Option Addr → TS)) → Prop
  | nil : HdsAs X n [] []
  | cons {x : Str} {c : Value} {ts : Addr → Value → Option Addr → TS} {b₀ : Stmt} {suite : List Stmt} {np pos' : Pos} {hds : List ExceptHandler} {l : List (Value × (Addr → Value → Option Addr → TS))} (hc : Names X x c)
      (hsu : ∀ (a : Addr) (oe : Obj) (cls : Value) (d : Option Addr) (pn : List (Addr × Obj)), Zc cls d oe → (∃ vs, oe.data = .fields vs) → PSs (X.suite a ((a, oe) :: pn)) (b₀ :: suite) (ts a cls d)) (r : HdsAs X n hds l) :
      HdsAs X n (.ExceptHandler (some (.Name x np)) (some n) (b₀ :: suite) pos' :: hds) ((c, ts) :: l)
variable {body : List Stmt} {h₀ : ExceptHandler} {hds : List ExceptHandler} {l : List (Value × (Addr → Value → Option Addr → TS))} {n : Str} {i : Nat} {pos : Pos} {tb : WX → TS} {Wout : WX}
/-- try: body, several clauses 'except x as n' -/
theorem ps_try_manyAs (hs : X.stack = X.env :: X.outer) (hf : X.env.frame = some X.env.locals) (hN : X.N.Nodup) (hi : X.N[i]? = some n) (hln : X.env.kindOf n = some .local) (tk : Takes X Wout)
    (hb : ∀ (W : WX) (pn : List (Addr × Obj)) (xe : Value → Shared → Prop), Takes (X.tr pn xe) W → PassesOwn (model X.prog X.w) X.A X.env xe → PSs (X.tr pn xe) body (tb W))
    (hh : HdsAs X n (h₀ :: hds) l) : PS X (.Try body (h₀ :: hds) [] [] pos) (fun D σ H => tb (wManyAs X.K i Wout D l) D σ H) := by
  constructor
  intro pins s σ H D I h
  have ok := I.ok
  have fr : X.A.frames = some (X.env :: X.outer) := by
    rw [ok.frames, hs]
  refine wpAny_Try_except ?_
  have run := hb (wManyAs X.K i Wout D l) (X.pn ++ pins) (fun e s₁ => wpAny (model X.prog X.w) X.A (noteFrame e X.env) (fun _ s₂ => wpAny (model X.prog X.w) X.A (setFlight e none)
    (fun _ s₃ => wpAny (model X.prog X.w) X.A (handleBy e X.env (h₀ :: hds)) (SP X pins D) X.xe s₃) X.xe s₂) X.xe s₁) ?tk PassesOwn.looking
  case tk =>
    rintro u s' ⟨a, B, sI, pins', σ', H', cls, d, rfl, J', nb, up, sky, na, os, ag, wish⟩
    have J := J'.ofTry ok
    rw [show (X.tr (X.pn ++ pins) _).stack = X.env :: X.outer from hs] at sky
    refine Sky.land Zc.steady fr hf sky fun h3 fl3 up3 => ?_
    have J3 : Inv X pins σ' H' { s' with heap := h3 } := J.landed nb fl3.1 (up.trans up3) os ag
    obtain ⟨oe3, vs3, at3, z3, d3⟩ := fl3.there
    have out : a ∉ frs (X.env :: X.outer) := fun m => by
      obtain ⟨_, o', q', nf⟩ := fl3.2.2.1.mem m
      rw [at3] at q'
      cases q'
      exact nf _ d3
    have nL : a ≠ X.env.locals := fun z => out (List.mem_filterMap.mpr ⟨X.env, List.mem_cons_self, by rw [hf, z]⟩)
    have nF : a ∉ X.fs := fun m => by
      obtain ⟨e', he', q'⟩ := List.mem_filterMap.mp m
      exact out (List.mem_filterMap.mpr ⟨e', List.mem_cons_of_mem _ he', q'⟩)
    have S3 := J3.suite at3 d3 na nL nF
    have go : ∀ {hds' l'}, HdsAs X n hds' l' → wManyAs X.K i Wout D l' cls d σ' H' → wpAny (model X.prog X.w) X.A (handleBy (.ref a) X.env hds') (SP X pins D) X.xe { s' with heap := h3 } := by
      intro hds' l' hk
      induction hk with
      | nil =>
        intro wish
        refine wpAny_handleBy_nil ?_
        obtain ⟨k1, k2, k3, oe, vs, T, oT, ts', he, hz, hd, h1, hr⟩ := id fl3
        unfold PySem.passOn
        refine wpAny_bind (wpAny_field he hd h1 ?_)
        rw [if_neg (show ¬ ((Value.ref T == Value.none) = true) from by simp)]
        have fin : wpAny (model X.prog X.w) X.A (setFlight (.ref a) X.env.frame) (fun _ s4 => wpAny (model X.prog X.w) X.A (throw (.ref a) : Sem Flow) (SP X pins D) X.xe s4) X.xe { s' with heap := h3 } := by
          rw [hf]
          refine HandSPX.setFlight_upZ fl3 fun h4 hh4 up4 => wpAny_throw (tk _ _ ?_)
          refine ⟨a, B, sI, pins, σ', H', cls, d, rfl, J, nb, (up.trans up3).trans up4, .inr (.inr ?_), na, os, ag, wish⟩
          rw [hs]
          exact hh4
        first
          | exact wpAny_bind (wpAny_pure (wpAny_bind fin))
          | exact wpAny_bind fin
      | @cons x c ts b₀ suite np pos' hds2 l2 hc hsu r ih =>
        rintro ⟨b, hb1, yes, no⟩
        refine wpAny_handleBy_cons (codeAny_handlers_test ?_) (by intro q; cases q)
        have ty : PySem.W.Looks (model X.prog X.w) h3 (typeOf (.ref a)) cls := fun A Q E s k q => wpAny_typeOf_ref (k _ _ at3) (by rw [z3.1]; exact q)
        have look := PySem.W.exm_one (M := model X.prog X.w) J3.kIn ty hb1
        have name : ∀ {Q : Value → Shared → Prop} {E : Value → Shared → Prop}, Q c { s' with heap := h3 } → wpAny (model X.prog X.w) (X.A.mark (some (.ref a))) (eval (.Name x np) X.env) Q E { s' with heap := h3 } := by
          intro Q E q
          obtain ⟨hg, hdbg, hm | ⟨hm, hv, hnn⟩⟩ := hc
          · exact ld_glob (X := X.suite a ((a, oe3) :: (X.pn ++ pins))) S3 hg hm q hdbg
          · exact ld_blt (X := X.suite a ((a, oe3) :: (X.pn ++ pins))) S3 hg hm hv q hnn hdbg
        refine name (look.here ?_)
        cases b with
        | false =>
          show wpAny _ X.A (handleBy (.ref a) X.env hds2) _ _ _
          exact ih (no rfl)
        | true =>
          refine codeAny_handlers_suite_as ?_
          refine HandSPX.lands_againZ fl3 fun h4 fl4 up4 => ?_
          have J4 : Inv X pins σ' H' { s' with heap := h4 } := J.landed nb fl4.1 ((up.trans up3).trans up4) os ag
          obtain ⟨oe4, vs4, at4, z4, d4⟩ := fl4.there
          have S4 := J4.suite at4 d4 na nL nF
          refine store_ok (X := X.suite a ((a, oe4) :: (X.pn ++ pins))) (v := .ref a) S4 hN hi (.inl hln) rfl (fun s5 S5 => ?_) (.inr hln)
          refine wpAny_mono ((hsu a oe4 cls d (X.pn ++ pins) z4 ⟨_, d4⟩).run [] s5 _ H' _ S5 (yes rfl a na)) (fun f s6 sp => ?_) (fun _ _ z => False.elim z)
          have leave : ∀ {σ6 : L2.St} {H6 : Hp} {Q : Shared → Prop}, Inv (X.suite a ((a, oe4) :: (X.pn ++ pins))) [] σ6 H6 s6 → (∀ s7, Inv X pins (σ6.set i none) H6 s7 → Q s7) →
              wpAny (model X.prog X.w) X.A (do bindName X.env n .none; unbindBehindTheSuite X.env n pos') (fun _ s7 => Q s7) X.xe s6 := fun S6 hq => gone_ok (S6.unsuite ok) hN hi hln hq
          cases f with
          | ret u =>
            obtain ⟨v6, σ6, H6, S6, r6, q6⟩ := sp
            exact leave S6 fun s7 J7 => ⟨_, _, _, J7, r6, q6⟩
          | _ =>
            obtain ⟨σ6, H6, S6, q6⟩ := sp
            exact leave S6 fun s7 J7 => ⟨_, _, J7, q6⟩
    exact go hh wish
  refine wpAny_mono (run.run [] s σ H D (I.toTry _) h) (fun f s1 sp => ?_) (fun e s1 he => he)
  cases f with
  | next =>
    obtain ⟨σ', H', J', q⟩ := sp
    exact wpAny_execs_nil ⟨σ', H', J'.ofTry ok, q⟩
  | ret u =>
    obtain ⟨v, σ', H', J', r, q⟩ := sp
    exact ⟨v, σ', H', J'.ofTry ok, r, q⟩
  | _ =>
    obtain ⟨σ', H', J', q⟩ := sp
    exact ⟨σ', H', J'.ofTry ok, q⟩
end
end Xl

/-! In an except suite: isinstance of the caught error, whose fields stand in its dict. -/
namespace Xl
open PySem PySem.Spec PyProof.Rows L2 Gy
def rIsS (K : PySem.W.Frag) (a : Addr) (cls : Value) (d : Option Addr) : List V → Hp → VK → Prop := fun xs H Q => ∃ (D dd : Addr) (fs : List (Str × V)) (c : V) (cv : Value) (b : Bool),
  xs = [.ref a, c] ∧ cls = .ref D ∧ d = some dd ∧ H dd = some (.xd fs) ∧ XCl K D ∧ ClsV c cv ∧ PySem.W.kitOne K (.ref D) cv = some b ∧ Q (.bl b) H
theorem call_isS {X : Cx} {a : Addr} {oe : Obj} {cls : Value} {d : Option Addr} {pn : List (Addr × Obj)} (cg : PySem.W.specialIn X.K (.builtin "object.__class__") "__get__" = some (some (.builtin "getset_descriptor.__get__")))
    (ct : PySem.W.takesIn X.K (.builtin "object.__class__") = some true) (hz : Zc cls d oe) (hf : ∃ vs, oe.data = .fields vs) : CallR (X.suite a ((a, oe) :: pn)) (.builtin "isinstance") (rIsS X.K a cls d) := by
  intro pins s σ H xs us Q I r h
  obtain ⟨D, dd, fs, c, cv, b, rfl, rfl, rfl, hd, T, hc, e, q⟩ := h
  obtain ⟨u1, u2, rfl, r1, r2⟩ := vals2 r
  cases r1
  have e2 := hc.eq r2
  subst e2
  obtain ⟨ha, _⟩ := I.pin (a, oe) (List.mem_append_left _ List.mem_cons_self)
  obtain ⟨vs, hv⟩ := hf
  obtain ⟨mA, ns, _⟩ := (show ObjOk X.prog X.w H s.heap dd (.xd fs) from I.hok dd _ hd)
  obtain ⟨od, go, _⟩ := lookIn_ns ns
  have cl : (PySem.W.clsIn X.K D).isSome = true := by
    obtain ⟨cd, z, _⟩ := PySem.W.any_some T.hd
    rw [z]
    rfl
  have J : PySem.W.InstAt s.heap a oe D (some od) := by
    obtain ⟨oc, odd, oda, osl⟩ := oe
    obtain ⟨h1, h2⟩ := hz
    dsimp only at h1 h2 hv
    subst h1 h2 hv
    exact ⟨ha, rfl, rfl, go⟩
  exact PySem.W.kia_one (PySem.W.kitx_exc cl T.ga T.gg T.ex T.ca cg ct T.ob) I.kIn J e (fun z => nomatch z) fun tk => ⟨.bl b, H, I.tok tk, rfl, q⟩
end Xl

/-! Tuples that are made in the run, known to have no dict of their own: so their methods can be called. -/
namespace Xt
open PySem PySem.Spec PyProof.Rows L2
/-- a tuple that was made in the run -/
def Tz (H : Hp) (a : Addr) (xs : List V) : Prop := ∃ o : Obj, H a = some (.frz o (.tup xs)) ∧ o.cls = .type "tuple" ∧ o.dict = none
theorem Tz.sq {K : PySem.W.Frag} {H : Hp} {a : Addr} {xs : List V} (h : Tz H a xs) : SqT K H a xs := by
  obtain ⟨o, e, _⟩ := h
  exact .inl (.inr ⟨o, e⟩)
theorem Tz.same {H H' : Hp} {a : Addr} {xs : List V} (h : Tz H a xs) (s : Same H H') : Tz H' a xs := by
  obtain ⟨o, e, c⟩ := h
  exact ⟨o, s _ _ e, c⟩
theorem Tz.ty {K : PySem.W.Frag} {H : Hp} {a : Addr} {xs : List V} (h : Tz H a xs) : TyX K H (.ref a) (.type "tuple") := by
  obtain ⟨o, e, _⟩ := h
  exact .fTuple e
theorem Tz.ne {H : Hp} {a p : Addr} {xs : List V} (h : Tz H a xs) (n : H p = none) : a ≠ p := by
  obtain ⟨o, e, _⟩ := h
  exact ne_of_none e n
/-- the goal behind a new tuple -/
def NewT (xs : List V) (H : Hp) (Q : VK) : Prop := ∀ p o, H p = none → Same H (upd H p o) → Tz (upd H p o) p xs → Q (.ref p) (upd H p o)
section
variable {X : Cx} {pins : List (Addr × Obj)} {σ : L2.St} {H : Hp} {s : Shared} {Q : VK}
theorem lay_new (I : Inv X pins σ H s) {xs : List V} {us : List Value} {n : Nat} (z : xs.length ≤ sizeLine) (r : Vals xs us) (q : NewT xs H Q) :
    EP X pins σ Q (.ref s.heap.objs.size) { s with heap := s.heap.push { cls := .type "tuple", data := .seq us.toArray n } } := by
  have new : H s.heap.objs.size = none := I.hok.fresh (Nat.le_refl _)
  have got : (s.heap.push { cls := .type "tuple", data := .seq us.toArray n }).get? s.heap.objs.size = some { cls := .type "tuple", data := .seq us.toArray n } := Heap.get?_push_size _ rfl
  refine ⟨.ref s.heap.objs.size, upd H s.heap.objs.size (.frz { cls := .type "tuple", data := .seq us.toArray n } (.tup xs)), I.laid (t' := s.toks) (fun b u e => Heap.get?_push_of_some _ e) (Nat.le_refl _) ⟨got, z, us, r, _, got, rfl, n, rfl⟩, rfl, ?_⟩
  refine q _ _ new (fun b x e => ?_) ⟨_, upd_same, rfl, rfl⟩
  rw [upd_ne (ne_of_none e new)]
  exact e
/-- a written tuple -/
def tTupZ (t : TA) : TE := fun σ H Q => t σ H fun xs H1 => xs.length ≤ sizeLine ∧ NewT xs H1 Q
theorem pe_tupZ {es : List Expr} {t : TA} {x1} {pos : Pos} (h : PA X es t) : PE X (.Tuple es x1 pos) (tTupZ t) := by
  refine ⟨fun pins s σ H Q I hq => wpAny_Tuple_spliced (thn (h.run pos pins s σ H _ I hq) fun us s1 ⟨xs, H1, I1, r, z, q⟩ => ⟨by rw [← r.length]; exact z, ?_⟩)⟩
  exact lay_new I1 z r q
/-- tuple(xs), xs a list -/
def rTupOf (K : PySem.W.Frag) : List V → Hp → VK → Prop := fun xs H Q => ∃ p ys, xs = [.ref p] ∧ SqL K H p ys ∧ ys.length ≤ 1000 ∧ NewT ys H Q
theorem call_tupOf : CallR X (.type "tuple") (rTupOf X.K) := by
  intro pins s σ H xs us Q I r h
  obtain ⟨p, ys, rfl, sq, le, q⟩ := h
  obtain ⟨u, rfl, rx⟩ := vals1 r
  cases rx
  obtain ⟨its, rv, pl, z⟩ := I.list sq
  have el := rv.length
  refine call_tuple_list pl.isList (fun h2 keep => ?_) (by simp only [List.size_toArray]; omega)
  exact lay_new (n := 0) (I.kept (t' := s.toks) keep) z rv q
/-- t[a:b], not the whole -/
def rCut (K : PySem.W.Frag) : V → Option Int → Option Int → Hp → VK → Prop := fun x lo hi H Q => ∃ a xs, x = .ref a ∧ SqT K H a xs ∧ ¬ (HT.sIx xs.length 0 lo = 0 ∧ HT.sIx xs.length xs.length hi = xs.length) ∧ NewT (cutV xs lo hi) H Q
theorem sl_cut : SlR X (rCut X.K) := by
  intro pins s σ H x v vl vu lo hi sl Q I rx hs pl pu h
  obtain ⟨a, xs, rfl, sq, part, q⟩ := h
  cases rx
  obtain ⟨its, r, at_, z⟩ := I.tuple sq
  have el : its.toArray.size = xs.length := by rw [List.size_toArray]; exact r.length.symm
  refine ⟨"tuple", _, PyProof.Rows.slot_tuple_getitem.lookup, at_.typeIs, HT.getItem_tuple_cut at_ hs pl pu (by rw [el]; exact part) ?_ (by rw [el]; exact z)⟩
  rw [el]
  exact lay_new I (Nat.le_trans (cutV_length xs lo hi) z) ((r.drop (HT.sIx xs.length 0 lo)).take (HT.sIx xs.length xs.length hi - HT.sIx xs.length 0 lo)) q
/-- t[a:b] of any kind: the whole is t itself; what comes is told by a relation that both give -/
def rCutA (K : PySem.W.Frag) : V → Option Int → Option Int → Hp → VK → Prop := fun x lo hi H Q => ∃ a xs, x = .ref a ∧ Tz H a xs ∧ (cutV xs lo hi = xs → Q (.ref a) H) ∧ NewT (cutV xs lo hi) H Q
theorem cut_whole {xs : List V} {lo hi : Option Int} (h : HT.sIx xs.length 0 lo = 0 ∧ HT.sIx xs.length xs.length hi = xs.length) : cutV xs lo hi = xs := by
  unfold cutV
  rw [h.1, h.2, List.drop_zero, Nat.sub_zero, List.take_of_length_le (Nat.le_refl _)]
theorem sl_cutA : SlR X (rCutA X.K) := by
  intro pins s σ H x v vl vu lo hi sl Q I rx hs pl pu h
  obtain ⟨a, xs, rfl, tz, q1, q2⟩ := h
  by_cases w : HT.sIx xs.length 0 lo = 0 ∧ HT.sIx xs.length xs.length hi = xs.length
  · exact sl_tupA pins s σ H _ v vl vu lo hi sl Q I rx hs pl pu ⟨a, xs, rfl, tz.sq, fun _ => q1 (cut_whole w), fun z => absurd w z⟩
  · exact sl_cut pins s σ H _ v vl vu lo hi sl Q I rx hs pl pu ⟨a, xs, rfl, tz.sq, w, q2⟩
/-- t + u -/
def rSum (K : PySem.W.Frag) : R2 := fun x y H Q => ∃ a b xs ys, x = .ref a ∧ y = .ref b ∧ Tz H a xs ∧ Tz H b ys ∧ xs.length + ys.length ≤ sizeLine ∧ (xs = [] → Q (.ref b) H) ∧ (ys = [] → Q (.ref a) H) ∧ NewT (xs ++ ys) H Q
theorem op_sum : OpR X (binaryOp .Add) (rSum X.K) := by
  intro pins s σ H x y v u Q I rx ry h
  obtain ⟨a, b, xs, ys, rfl, rfl, ta, tb, z, q0, q1, q2⟩ := h
  cases rx
  cases ry
  obtain ⟨its, r1, p1, _⟩ := I.tuple ta.sq
  obtain ⟨its2, r2, p2, _⟩ := I.tuple tb.sq
  by_cases e : xs = []
  · subst e
    cases r1
    exact cat_tup0 p1 p2 ⟨.ref b, H, I, rfl, q0 rfl⟩
  · refine HT.cat_tup p1 p2 (fun w => e (r1.nil_iff.mp w)) (fun w => ⟨.ref a, H, I, rfl, q1 (r2.nil_iff.mp w)⟩) (fun _ => ?_) (by rw [← r1.length, ← r2.length]; exact z)
    exact lay_new I (by rw [List.length_append]; exact z) (r1.append r2) q2
/-- t.m(e, ..), t a tuple made in the run -/
def tTm (r : V → List V → Hp → VK → Prop) (to : TE) (t : TA) : TE := fun σ H Q => to σ H fun x H1 => (∃ a xs, x = .ref a ∧ Tz H1 a xs) ∧ t σ H1 fun ys H2 => r x ys H2 Q
theorem pe_tm {o e : Expr} {es : List Expr} {to : TE} {t : TA} {name : Str} {apos cpos : Pos} {id : String} {r : V → List V → Hp → VK → Prop} (slot : Slot "tuple" name id) (hty : typeOf (.builtin id) = pure (.type "method_descriptor")) (hm : MtR X id r) (ho : PE X o to) (ha : PA X (e :: es) t)
    (hbase : attributeBase o name X.env (eval o X.env) = eval o X.env := by rfl)
    (few : ((backTo cpos (starEach (e :: es) X.env)).all (fun x => !x.1) && (backToKw cpos (keywordEach [] X.env)).all (fun x => x.1.isSome) && decide ((e :: es).length + ([] : List Keyword).length + (if ([] : List Keyword).isEmpty then 0 else 1) < 30)) = true := by rfl)
    (hline : (apos.endLine == cpos.line) = true := by rfl) (hs : starEach (e :: es) X.env = (false, eval e X.env) :: starEach es X.env := by rfl) (hpl : (backTo cpos (starEach es X.env)).any (·.1) = false := by rfl) :
    PE X (.Call (.Attribute o name apos) (e :: es) [] cpos) (tTm r to t) := by
  refine ⟨fun pins s σ H Q I h => wpAny_Call_method_late hbase few hline rfl (thn (ho.run pins s σ H _ I h) fun v s1 ⟨x, H1, I1, r1, ty, q1⟩ => ?_)⟩
  obtain ⟨a, xs, rfl, ob, eo, oc, od⟩ := ty
  cases r1
  have got : s1.heap.get? a = some ob := (show ObjOk X.prog X.w H1 s1.heap a (.frz ob (.tup xs)) from I1.hok a _ eo).1
  refine ⟨"tuple", id, PySem.F.plainAttrs_tuple, slot, hty, ⟨ob, got, oc⟩, fun b eb => by cases eb; exact ⟨ob, got, od⟩, ?_⟩
  have args := ha.run cpos pins s1 σ H1 _ I1 q1
  rw [hs] at args ⊢
  refine Calls.callWith_builtin (by show (false || (backTo cpos (starEach es X.env)).any (·.1)) = false; rw [hpl]; rfl) (Calls.evalArgs_plain (thn args fun us s2 ⟨vs, H2, I2, r2, q2⟩ => ?_))
  exact hm pins s2 σ H2 (.ref a) vs (.ref a) us Q I2 rfl r2 q2
end
end Xt

/-! Data at any depth, with dicts without entries anywhere in it: how it is read and shown. -/
namespace Gy
open PySem PySem.Spec PyProof.Rows L2 Xt
mutual
inductive Dn (K : PySem.W.Frag) (H : Hp) : V → PyData → Prop
  | non : Dn K H .non .none
  | bl (b : Bool) : Dn K H (.bl b) (.bool b)
  | int (i : Int) : Dn K H (.int i) (.int i)
  | str (x : Str) : Dn K H (.str x) (.str x)
  | lst {a : Addr} {xs : List V} {ds : List PyData} (h : H a = some (.lst xs)) (t : Dns K H xs ds) : Dn K H (.ref a) (.list ds)
  | tup {a : Addr} {xs : List V} {ds : List PyData} (h : Tz H a xs) (t : Dns K H xs ds) : Dn K H (.ref a) (.tuple ds)
  | dic {a : Addr} (h : H a = some (.dK [])) : Dn K H (.ref a) (.dict [])
inductive Dns (K : PySem.W.Frag) (H : Hp) : List V → List PyData → Prop
  | nil : Dns K H [] []
  | cons {v : V} {vs : List V} {d : PyData} {ds : List PyData} (h : Dn K H v d) (t : Dns K H vs ds) : Dns K H (v :: vs) (d :: ds)
end
mutual
theorem Dn.same {K : PySem.W.Frag} {H H' : Hp} (s : Same H H') : ∀ {v : V} {d : PyData}, Dn K H v d → Dn K H' v d
  | _, _, .non => .non
  | _, _, .bl b => .bl b
  | _, _, .int i => .int i
  | _, _, .str x => .str x
  | _, _, .lst h a => .lst (s _ _ h) (Dns.same s a)
  | _, _, .tup h a => .tup (h.same s) (Dns.same s a)
  | _, _, .dic h => .dic (s _ _ h)
theorem Dns.same {K : PySem.W.Frag} {H H' : Hp} (s : Same H H') : ∀ {vs : List V} {ds : List PyData}, Dns K H vs ds → Dns K H' vs ds
  | _, _, .nil => .nil
  | _, _, .cons h t => .cons (Dn.same s h) (Dns.same s t)
end
/-- a dict without entries, as the model has it -/
theorem dict_at {X : Cx} {pins : List (Addr × Obj)} {σ : L2.St} {H : Hp} {s : Shared} (I : Inv X pins σ H s) {a : Addr} (h : H a = some (.dK [])) :
    (a == sysModules) = false ∧ ∃ o es ep, s.heap.get? a = some o ∧ o.cls = .type "dict" ∧ o.data = .dict es ep ∧ es.toList = [] ∧ Reads s.heap (.ref a) (.dict []) [a] := by
  obtain ⟨_, ns, vs, kv, o, es, ep, g1, ex, g2, ks, ps, _⟩ := (show ObjOk X.prog X.w H s.heap a (.dK []) from I.hok a _ h)
  cases kv
  have e : es.toList = [] := by
    generalize es.toList = l at ps
    cases ps
    rfl
  exact ⟨ns, o, es, ep, g1, ex.1, g2, e, .dict g1 ex.1 g2 (as := []) (bs := []) (by rw [e]; exact .nil) (by rw [e]; exact .nil)⟩
section
variable {X : Cx} {pins : List (Addr × Obj)} {σ : L2.St} {H : Hp} {s : Shared}
mutual
theorem Dn.shows (I : Inv X pins σ H s) : ∀ {v : V} {d : PyData} {u : Value}, Dn X.K H v d → RelV v u → d.showable = true → d.shown.length ≤ sizeLine →
    ∃ as bs, Reads s.heap u d as ∧ ReadAtMost s.heap d.depth bs ∧ ReprK X.prog X.w bs s.heap d.depth u d.shown
  | _, _, _, .non, r, hs, hz => by
    cases r
    obtain ⟨bs, h1, h2⟩ := ReprK.of_reads (prog := X.prog) (w := X.w) (h₀ := s.heap) Reads.none hs (fun z => nomatch z) hz
    exact ⟨_, bs, .none, h1, h2⟩
  | _, _, _, .bl b, r, hs, hz => by
    cases r
    obtain ⟨bs, h1, h2⟩ := ReprK.of_reads (prog := X.prog) (w := X.w) (h₀ := s.heap) (Reads.bool b) hs (fun z => nomatch z) hz
    exact ⟨_, bs, .bool b, h1, h2⟩
  | _, _, _, .int i, r, hs, hz => by
    obtain ⟨t, rfl⟩ := r
    obtain ⟨bs, h1, h2⟩ := ReprK.of_reads (prog := X.prog) (w := X.w) (h₀ := s.heap) (Reads.int i t) hs (fun z => nomatch z) hz
    exact ⟨_, bs, .int i t, h1, h2⟩
  | _, _, _, .str x, r, hs, hz => by
    obtain ⟨t, rfl⟩ := r
    obtain ⟨bs, h1, h2⟩ := ReprK.of_reads (prog := X.prog) (w := X.w) (h₀ := s.heap) (Reads.str x t) hs (fun z => nomatch z) hz
    exact ⟨_, bs, .str x t, h1, h2⟩
  | _, _, _, .lst (a := a) (ds := ds) h ha, r, hs, hz => by
    cases r
    have hz' : (listText (PyData.shownAll ds)).length ≤ sizeLine := by simpa only [PyData.shown] using hz
    obtain ⟨its, rv, ⟨o, n, ho, hc, _, hd⟩, _⟩ := I.list (SqL.of h)
    obtain ⟨as, bs, hr, hb, hk⟩ := Dns.shows I ha rv (by simpa [PyData.showable] using hs) (fun t ht => Nat.le_trans (listText_mem_le ht) hz')
    have q : Reads s.heap (.ref a) (.list ds) _ := .list ho hc hd hr
    have hna : a ∉ bs := not_mem_of_deeper q (by simp only [PyData.depth]; omega) hb
    refine ⟨_, a :: bs, q, ReadAtMost.cons q (by simp only [PyData.depth]; omega) hb, ?_⟩
    simp only [PyData.depth, PyData.shown]
    cases its with
    | nil =>
      cases hr
      simp only [PyData.shownAll, listText_nil]
      exact ReprK.listEmpty ho hc hd
    | cons x l => exact ReprK.list ho hc hd hna (by simpa using hk.length_eq) (fun i y e => hk.item i y (by simpa using e))
  | _, _, _, .tup (a := a) (ds := ds) h ha, r, hs, hz => by
    cases r
    have hz' : (tupleText (PyData.shownAll ds)).length ≤ sizeLine := by simpa only [PyData.shown] using hz
    obtain ⟨its, rv, ⟨o, ho, hc, n, hd⟩, _⟩ := I.tuple h.sq
    obtain ⟨as, bs, hr, hb, hk⟩ := Dns.shows I ha rv (by simpa [PyData.showable] using hs) (fun t ht => Nat.le_trans (tupleText_mem_le ht) hz')
    have q : Reads s.heap (.ref a) (.tuple ds) _ := .tuple ho hc hd hr
    have hna : a ∉ bs := not_mem_of_deeper q (by simp only [PyData.depth]; omega) hb
    refine ⟨_, a :: bs, q, ReadAtMost.cons q (by simp only [PyData.depth]; omega) hb, ?_⟩
    simp only [PyData.depth, PyData.shown]
    exact ReprK.tuple ho hc hd hna hk
  | _, _, _, .dic (a := a) h, r, hs, hz => by
    cases r
    obtain ⟨ns, o, es, ep, ho, hc, hd, he, q⟩ := dict_at I h
    refine ⟨_, [a], q, ReadAtMost.cons q (n := 0) (Nat.zero_le _) (fun _ z => nomatch z), ?_⟩
    exact ReprK.dict (as := []) (d := 0) (ps := []) ho hc hd ns (fun z => nomatch z) (by rw [he]; exact .nil)
theorem Dns.shows (I : Inv X pins σ H s) : ∀ {vs : List V} {ds : List PyData} {us : List Value}, Dns X.K H vs ds → Vals vs us → PyData.showableAll ds = true → (∀ t ∈ PyData.shownAll ds, t.length ≤ sizeLine) →
    ∃ as bs, ReadsAll s.heap us ds as ∧ ReadAtMost s.heap (PyData.depthAll ds) bs ∧ ReprAllK X.prog X.w bs s.heap (PyData.depthAll ds) us (PyData.shownAll ds)
  | _, _, _, .nil, .nil, _, _ => ⟨[], [], .nil, (fun _ h => nomatch h), .nil⟩
  | _, _, _, .cons (d := d) (ds := ds) h hs, .cons r rs, sh, len => by
    have sh2 : d.showable = true ∧ PyData.showableAll ds = true := by simpa only [PyData.showableAll, Bool.and_eq_true] using sh
    obtain ⟨as, b1, rd, m1, k1⟩ := Dn.shows I h r sh2.1 (len _ List.mem_cons_self)
    obtain ⟨as2, b2, rd2, m2, k2⟩ := Dns.shows I hs rs sh2.2 fun t ht => len t (List.mem_cons_of_mem _ ht)
    have l1 : d.depth ≤ PyData.depthAll (d :: ds) := Nat.le_max_left _ _
    have l2 : PyData.depthAll ds ≤ PyData.depthAll (d :: ds) := Nat.le_max_right _ _
    refine ⟨as ++ as2, b1 ++ b2, .cons rd rd2, (m1.mono l1).append (m2.mono l2), ?_⟩
    exact .cons ((k1.more fun b hb => List.mem_append_left _ hb).level_le l1) (k2.more_le (fun b hb => List.mem_append_right _ hb) l2)
end
end
/-- repr of any such value -/
def rReprN (K : PySem.W.Frag) : List V → Hp → VK → Prop := fun xs H Q => ∃ v d, xs = [v] ∧ Dn K H v d ∧ d.showable = true ∧ d.depth ≤ 60 ∧ d.shown.length ≤ sizeLine ∧ Q (.str d.shown) H
theorem repr_dn {X : Cx} (hg : X.A.guards = some []) (hu : X.A.units + 70 < cLine) : CallR X (.builtin "repr") (rReprN X.K) := by
  intro pins s σ H xs us Q I r h
  obtain ⟨v, d, rfl, dn, sh, dp, len, q⟩ := h
  obtain ⟨u, rfl, ru⟩ := vals1 r
  have fin : ∀ (h' : Heap) (x : Tok) (tk : Nat), (∀ b o, s.heap.get? b = some o → h'.get? b = some o) → ∃ y H', Inv X pins σ H' { s with heap := h', toks := tk } ∧ RelV y (.str d.shown x) ∧ Q y H' := fun h' x tk hk => ⟨.str d.shown, H, I.kept hk, ⟨x, rfl⟩, q⟩
  cases dn with
  | non =>
    cases ru
    exact P.repr_of_none ⟨.str "None", H, I.tok _, ⟨_, rfl⟩, q⟩
  | bl b =>
    cases ru
    exact P.repr_of_bool ⟨.str (PyData.shown (.bool b)), H, I.tok _, ⟨_, by cases b <;> rfl⟩, q⟩
  | int i =>
    obtain ⟨t, rfl⟩ := ru
    exact P.repr_of_int (by simpa [PyData.showable] using sh) ⟨.str (toString i), H, I.tok _, ⟨_, rfl⟩, q⟩
  | str x =>
    obtain ⟨t, rfl⟩ := ru
    exact P.repr_of_str ⟨.str (reprText x), H, I.tok _, ⟨_, rfl⟩, q⟩ len
  | @lst a ys ds h ha =>
    cases ru
    have len' : (listText (PyData.shownAll ds)).length ≤ sizeLine := by simpa only [PyData.shown] using len
    obtain ⟨its, rv, ⟨o, n, g1, g2, _, g3⟩, _⟩ := I.list (SqL.of h)
    obtain ⟨as, bs, rd, at_, sw⟩ := Dns.shows I ha rv (by simpa [PyData.showable] using sh) fun t ht => Nat.le_trans (listText_mem_le ht) len'
    have out : a ∉ bs := not_mem_of_deeper (.list g1 g2 g3 rd) (by simp only [PyData.depth]; omega) at_
    refine call_repr_slot (T := "list") (idr := "list.__repr__") (by omega) ⟨o, g1, g2⟩ F.slot_list_repr.toG ?_
    match its, rv, g3, rd, sw with
    | [], rv, g3, rd, _ =>
      cases rd
      exact call_list_repr_empty ⟨o, g1, g2⟩ g1 g3 ⟨_, _, rfl, .str "[]", H, I.tok _, ⟨_, rfl⟩, by simpa only [PyData.shown, PyData.shownAll, listText_nil] using q⟩
    | x :: rest, _, g3, _, sw =>
      refine call_list_reprK g1 g2 g3 out (by simpa using sw.length_eq) (fun i y e => sw.item i y (by simpa using e)) (g := []) hg (fun b _ => Clear.nil b) (d := PyData.depthAll ds) ?_ (fun _ _ e => e) (fun h' u tk hk => ⟨_, _, rfl, fin h' u tk hk⟩) len'
      simp only [PyData.depth] at dp
      show X.A.units + 1 + (PyData.depthAll ds + 1) < cLine
      omega
  | @tup a ys ds h ha =>
    cases ru
    have len' : (tupleText (PyData.shownAll ds)).length ≤ sizeLine := by simpa only [PyData.shown] using len
    obtain ⟨its, rv, ⟨o, g1, g2, n, g3⟩, _⟩ := I.tuple h.sq
    obtain ⟨as, bs, rd, at_, sw⟩ := Dns.shows I ha rv (by simpa [PyData.showable] using sh) fun t ht => Nat.le_trans (tupleText_mem_le ht) len'
    have out : a ∉ bs := not_mem_of_deeper (.tuple g1 g2 g3 rd) (by simp only [PyData.depth]; omega) at_
    refine call_repr_slot (T := "tuple") (idr := "tuple.__repr__") (by omega) ⟨o, g1, g2⟩ F.slot_tuple_repr ?_
    refine call_tuple_reprK g1 g2 g3 out sw (g := []) hg (fun b _ => Clear.nil b) (d := PyData.depthAll ds) ?_ (fun _ _ e => e) (fun h' u tk hk => ⟨_, _, rfl, fin h' u tk hk⟩) len'
    simp only [PyData.depth] at dp
    show X.A.units + 1 + (PyData.depthAll ds + 1) < cLine
    omega
  | @dic a h =>
    cases ru
    obtain ⟨ns, o, es, ep, g1, g2, g3, he, _⟩ := dict_at I h
    refine call_repr_slot (T := "dict") (idr := "dict.__repr__") (by omega) ⟨o, g1, g2⟩ F.slot_dict_repr ?_
    refine call_dict_reprK (as := []) (d := 0) (ps := []) g1 g2 g3 ns (fun z => nomatch z) (by rw [he]; exact .nil) (g := []) hg (fun b _ => Clear.nil b) ?_ (fun _ _ e => e) (fun h' u tk hk => ⟨_, _, rfl, fin h' u tk hk⟩) len
    show X.A.units + 1 + (0 + 1) < cLine
    omega
end Gy

/-! len(set(t)) of a tuple of texts, of any number of them. -/
namespace Xs
open PySem PySem.Spec PyProof.Rows L2
/-- how many different ones the first i are -/
def numd (xs : List Str) : Nat → Nat
  | 0 => 0
  | i + 1 => if xs.getD i Str.empty ∈ xs.take i then numd xs i else numd xs i + 1
theorem numd_le (xs : List Str) : ∀ i, numd xs i ≤ i
  | 0 => Nat.le_refl _
  | i + 1 => by
    have := numd_le xs i
    unfold numd
    split <;> omega
theorem numd_full (xs : List Str) : ∀ i, i ≤ xs.length → (numd xs i = i ↔ (xs.take i).Nodup)
  | 0, _ => by simp [numd]
  | i + 1, hi => by
    have lt : i < xs.length := hi
    have ih := numd_full xs i (Nat.le_of_lt lt)
    have le := numd_le xs i
    have e : xs.getD i Str.empty = xs[i] := by rw [List.getD_eq_getElem?_getD, List.getElem?_eq_getElem lt]; rfl
    have t : xs.take (i + 1) = xs.take i ++ [xs[i]] := by rw [List.take_add_one, List.getElem?_eq_getElem lt]; rfl
    unfold numd
    rw [e, t]
    by_cases m : xs[i] ∈ xs.take i
    · rw [if_pos m]
      refine ⟨fun z => by omega, fun z => ?_⟩
      rw [List.nodup_append] at z
      exact absurd rfl (z.2.2 _ m _ List.mem_cons_self)
    · rw [if_neg m]
      refine ⟨fun z => ?_, fun z => ?_⟩
      · rw [List.nodup_append]
        refine ⟨ih.mp (by omega), by simp, fun a ha b hb ab => ?_⟩
        rw [List.mem_singleton.mp hb] at ab
        exact m (ab ▸ ha)
      · rw [List.nodup_append] at z
        rw [ih.mpr z.1]
section
variable {P : Program} {w : World} {A : Around} {R : Result → Shared → Prop} {J : Addr} {fp wr : List Addr} {G : Array GenState → Array GenState → Prop} {n : Nat} {Y : Nat → Value → Prop} {Z : Nat → Shared → Prop}
/-- the set takes text after text -/
theorem take_texts (W : WalksS P w A.in1 J fp wr G n Y Z) (S : Addr) (out : S ∉ fp) (xs : List Str) (len : xs.length = n) (room : n + 1 < scanBound) (val : ∀ i v, Y i v → ∃ t, v = .str (xs.getD i Str.empty) t) :
    ∀ (k i : Nat) (s : Shared), n - i = k → i ≤ n → Z i s → s.heap.SetOf (strKind P w) S (fun x => decide (x ∈ xs.take i)) (numd xs i) →
      (∀ s2, Moved (S :: wr) G s s2 → s2.heap.SetOf (strKind P w) S (fun x => decide (x ∈ xs.take n)) (numd xs n) → R (.ok (.ret .none)) s2) →
      codeAny (model P w) A (.builtin "set.update.loop" ⟨[.ref S, .ref J], []⟩) R s := by
  have out2 : S ∉ wr := fun h => out (W.sub _ h)
  have more : ∀ b ∈ wr, b ∈ S :: wr := fun b hb => List.mem_cons_of_mem _ hb
  intro k
  induction k with
  | zero =>
    intro i s ek le z hS fin
    obtain rfl : i = n := by omega
    refine codeAny_builtin PyProof.Rows.F.entry_set_update_loop ?_; rw [Around.under_plainId PyProof.Rows.F.plain_set_update_loop _]
    show wpAny _ A.in1 (pyNext (.ref J) >>= _) _ _ s
    refine wpAny_bind (W.done s _ _ z fun s2 mv => ?_)
    obtain ⟨o, es, ep, t, ho, rest⟩ := hS
    exact wpAny_pure (fin s2 (mv.mono more) ⟨o, es, ep, t, mv.heap S _ out2 ho, rest⟩)
  | succ k ih =>
    intro i s ek le z hS fin
    have lt : i < n := by omega
    refine codeAny_builtin PyProof.Rows.F.entry_set_update_loop ?_; rw [Around.under_plainId PyProof.Rows.F.plain_set_update_loop _]
    show wpAny _ A.in1 (pyNext (.ref J) >>= _) _ _ s
    refine wpAny_bind (W.item i s _ _ lt z fun v s2 hY z2 mv => ?_)
    obtain ⟨t, rfl⟩ := val i v hY
    have hS2 : s2.heap.SetOf (strKind P w) S (fun x => decide (x ∈ xs.take i)) (numd xs i) := by
      obtain ⟨o, es, ep, tb, ho, rest⟩ := hS
      exact ⟨o, es, ep, tb, mv.heap S _ out2 ho, rest⟩
    show wpAny _ A.in1 (holding [Value.str (xs.getD i Str.empty) t] (setAdd S (.str (xs.getD i Str.empty) t)) >>= _) _ _ s2
    refine wpAny_bind (wpAny_holding ?_); unfold setAdd; refine wpAny_holding ?_
    refine wpAny_bind ((strKind P w).pyHash (k := xs.getD i Str.empty) (strKind_is _ _ _ _) ?_)
    have nl := numd_le xs i
    refine wpAny_setAddHashed_of (knd := strKind P w) (s := { s2 with toks := s2.toks + 1 }) (strKind_is _ _ _ _) rfl hS2 (by omega) fun h3 sb hS3 => ?_
    have hS4 : h3.SetOf (strKind P w) S (fun x => decide (x ∈ xs.take (i + 1))) (numd xs (i + 1)) := by
      have lt' : i < xs.length := by omega
      have e : xs.getD i Str.empty = xs[i] := by rw [List.getD_eq_getElem?_getD, List.getElem?_eq_getElem lt']; rfl
      have t : xs.take (i + 1) = xs.take i ++ [xs[i]] := by rw [List.take_add_one, List.getElem?_eq_getElem lt']; rfl
      refine SetOf_congr hS3 (fun x => ?_) ?_
      · show (decide (x ∈ xs.take i) || decide (x = xs.getD i Str.empty)) = decide (x ∈ xs.take (i + 1))
        rw [e, ← Bool.decide_or]
        congr 1
        rw [t, List.mem_append, List.mem_singleton]
      · show _ = if xs.getD i Str.empty ∈ xs.take i then numd xs i else numd xs i + 1
        simp only [decide_eq_true_eq]
    refine wpAny_pure ⟨plainId_quiet PyProof.Rows.F.plain_set_update_loop _, ih (i + 1) _ (by omega) lt (W.frame _ s2 _ _ z2 (Nat.le_succ _) fun b hb o e => ?_) hS4 fun s4 mv4 hS5 => ?_⟩
    · rw [sb.2 b (fun h : b = S => out (h ▸ hb))]
      exact e
    · refine fin s4 (Moved.trans W.gtrans ((mv.mono more).then_heap (Nat.le_succ _) fun b o hb e => ?_) mv4) hS5
      rw [sb.2 b (fun h : b = S => hb (h ▸ List.mem_cons_self))]
      exact e
end
/-- the set before anything is in it -/
def set0 (b : Bool) : Obj := { cls := .type "set", dict := none, data := .set #[] 0 (.fresh 0 0 b) }
section
variable {P : Program} {w : World} {A : Around} {E : Value → Shared → Prop} {s : Shared}
set_option maxHeartbeats 3200000 in
theorem set_of_texts {l : Addr} {its : Array Value} {xs : List Str} {Q : Value → Shared → Prop} (calm : A.handled = none) (at_ : s.heap.IsTuple l its) (are : StrsAre its.toList xs) (room : xs.length + 1 < scanBound)
    (fin : ∀ (h2 : Heap) (tk : Nat), h2.SetOf (strKind P w) s.heap.objs.size (fun x => decide (x ∈ xs)) (numd xs xs.length) → (∀ b o, b < s.heap.objs.size → s.heap.get? b = some o → h2.get? b = some o) → Q (.ref s.heap.objs.size) { s with heap := h2, toks := tk }) :
    wpAny (model P w) A (call (.type "set") [.ref l]) Q E s := by
  have sz : xs.length = its.size := by rw [← StrsAre.len_eq are, Array.length_toList]
  obtain ⟨_, _, m0⟩ := PySem.F.called_set.mro
  have m1 := PySem.F.called_set.made; have m2 := PySem.F.called_set.sub
  refine wpAny_call (codeAny_of_tree ?_); show wpAny _ _ (callAny (.type "set") _) _ _ _
  refine wpAny_pure ⟨Code.quiet_builtin _ (by decide +kernel), codeAny_builtin PySem.F.entry_type_call ?_⟩; rw [Around.under_plain (weight_type_call_type "set" [.ref l] []) rfl]
  have m3 := PySem.F.called_set.notType; have m4 := PySem.F.called_set.canCreate; have m5 := PySem.F.typeCall_set_1 (.ref l)
  repeat (any_goals (first | assumption | wp_step))
  refine codeAny_mono (code_set_new_1 (.ref l) (E := E) (Q₁ := fun ob s1 => ∃ led : Bool, ob = .ref s.heap.objs.size ∧ s1 = { s with heap := s.heap.push (set0 led) }) fun led => ⟨led, rfl, rfl⟩) fun r s1 hr => ?_
  rcases r with e | (_ | _ | _ | ob)
  · exact hr
  · exact hr.elim
  · exact hr.elim
  · exact hr.elim
  obtain ⟨led, rfl, rfl⟩ := hr
  have got : (s.heap.push (set0 led)).get? s.heap.objs.size = some (set0 led) := Heap.get?_push_size _ rfl
  have ty : Shared.TypeIs { s with heap := s.heap.push (set0 led) } (.ref s.heap.objs.size) "set" := ⟨_, got, rfl⟩
  have m6 := PySem.F.called_set.init.lookup; have m7 := PySem.F.called_set.init.bind (.ref s.heap.objs.size)
  repeat (any_goals (first | assumption | wp_step))
  refine codeAny_mono (codeAny_call_builtin (R := wants (fun r s2 => r = .none ∧ ∃ h2 tk, s2 = { s with heap := h2, toks := tk } ∧ h2.SetOf (strKind P w) s.heap.objs.size (fun x => decide (x ∈ xs)) (numd xs xs.length) ∧
      (∀ b o, b < s.heap.objs.size → s.heap.get? b = some o → h2.get? b = some o)) E) PySem.F.called_set.init.plain PySem.F.entry_set_init (check_set_init_1 ty ?_)) fun r2 s2 hr2 => ?_
  · obtain ⟨ol, go, co, nl, dl⟩ := at_
    obtain ⟨ocls, odict, odata, oslots⟩ := ol
    simp only at co dl
    subst co dl
    have go2 : (s.heap.push (set0 led)).get? l = some { cls := .type "tuple", dict := odict, data := .seq its nl, slots := oslots } := Heap.get?_push_of_some _ go
    have m8 := PySem.F.sub_tuple_set; have m9 := PySem.F.sub_tuple_frozenset
    have m10 : (Value.type "tuple" == Value.type "dict") = false := by decide
    have at2 : (s.heap.push (set0 led)).IsTuple l its := ⟨_, go2, rfl, nl, rfl⟩
    unfold Builtin.«set.__init__» noKeywords Builtin.Frozenset.updateFrom; generalize ePI : pyIter = PI
    wp_walk
    subst ePI
    refine wpAny_pyIter_tuple at2 (wpAny_bind (wpAny_runValue ?_))
    have low : l < s.heap.objs.size := Heap.lt_size go
    have calm3 : A.in1.in1.in1.handled = none := by simp [calm]
    have far : l ≠ (s.heap.push (set0 led)).objs.size := by rw [Heap.size_push]; exact Nat.ne_of_lt (Nat.lt_succ_of_lt low)
    have out : s.heap.objs.size ∉ [(s.heap.push (set0 led)).objs.size, l] := by
      rw [Heap.size_push]
      simp only [List.mem_cons, List.not_mem_nil, or_false, not_or]
      exact ⟨Nat.ne_of_lt (Nat.lt_succ_self _), Nat.ne_of_gt low⟩
    refine take_texts ((Walks.tuple calm3 _ l far its).toS) s.heap.objs.size out xs sz (by rw [← sz]; exact room) (fun i v hv => SS.strs_at are i v (by rw [Array.getElem?_toList]; exact hv)) (its.size - 0) 0 _ (by omega) (Nat.zero_le _)
      ⟨⟨_, Heap.get?_push_size _ rfl, rfl, rfl⟩, at2.push _⟩ ?first ?last
    case first =>
      have got2 : ((s.heap.push (set0 led)).push { cls := .type "tuple_iterator", data := .fields #[.ref l, .int 0 0] }).get? s.heap.objs.size = some (set0 led) := Heap.get?_push_of_some _ got
      exact SetOf_congr ((setObjOf_fresh (knd := strKind P w) led).setOf got2 (by unfold scanBound; omega)) (fun _ => rfl) rfl
    case last =>
      intro s2 mv hS
      obtain ⟨h2, g2, d2, tk2, os2⟩ := s2
      obtain rfl : g2 = s.gens := mv.gens
      obtain rfl : d2 = s.drawn := mv.drawn
      obtain rfl : os2 = s.os := mv.os
      rw [← sz, List.take_of_length_le (Nat.le_refl _)] at hS
      show wpAny _ _ _ _ _ _
      refine wpAny_pure (wpAny_pure ⟨rfl, h2, tk2, rfl, hS, fun b o lb e => ?_⟩)
      refine mv.heap b o ?_ (Heap.get?_push_of_some _ (Heap.get?_push_of_some _ e))
      rw [Heap.size_push]
      simp only [List.mem_cons, List.not_mem_nil, or_false, not_or]
      exact ⟨Nat.ne_of_lt lb, Nat.ne_of_lt (Nat.lt_succ_of_lt lb)⟩
  · rcases r2 with e | (_ | _ | _ | r)
    · exact hr2
    · exact hr2.elim
    · exact hr2.elim
    · exact hr2.elim
    obtain ⟨rfl, h2, tk, rfl, hS, keep⟩ := hr2
    repeat (any_goals (first | assumption | wp_step))
    exact fin _ _ hS keep
end
section
variable {X : Cx}
/-- len(set(t)), t a tuple of texts -/
def tLenTexts (K : PySem.W.Frag) (ta : TE) : TE := fun σ H Q => ta σ H fun x H1 => ∃ (l : Addr) (xs : List Str), x = .ref l ∧ SqT K H1 l (xs.map V.str) ∧ xs.length ≤ 4000 ∧ Q (.int (numd xs xs.length : Nat)) H1
theorem pe_lenTexts {a : Expr} {ta : TE} {p p2 q pos : Pos} (hg : Gl X "len") (hm : X.mg "len" = none) (hg2 : Gl X "set") (hm2 : X.mg "set" = none) (ha : PE X a ta) (calm : X.calm = true := by rfl)
    (na : starEach [a] X.env = (false, eval a X.env) :: starEach [] X.env := by rfl) : PE X (.Call (.Name "len" p) [.Call (.Name "set" p2) [a] [] q] [] pos) (tLenTexts X.K ta) := by
  refine ⟨fun pins s σ H Q I h => Call_ (ld_blt I hg hm boot_len ?_)⟩
  refine PyProof.Rows.callWith_builtin1 (PyProof.Rows.args_cons (Call_ (ld_blt I hg2 hm2 boot_set ?_)) rfl) rfl rfl
  refine PyProof.Rows.callWith_type1 (PyProof.Rows.args_cons (thn (ha.run pins s σ H _ I h) fun v s1 ⟨x, H1, I1, r1, q1⟩ => PyProof.Rows.args_nil ?_) na) na rfl
  obtain ⟨l, xs, rfl, sq, le, q1⟩ := q1
  cases r1
  obtain ⟨its, r, pl, _⟩ := I1.tuple sq
  refine set_of_texts (I1.ok.hd calm) pl (by simpa using strsAre_of r) (by unfold scanBound; omega) fun h2 tk hS keep => ?_
  refine PyProof.Rows.args_nil ?_
  obtain ⟨o, es, ep, t, ho, ex, hd, _, _, _, hf, hn⟩ := hS
  have I2 : Inv X pins σ H1 { s1 with heap := h2, toks := tk } := I1.kept fun b o e => keep b o (Heap.lt_size e) e
  have nl := numd_le xs xs.length
  exact call_len_set ho ex hd hf (by rw [hn]; omega) ⟨.int (numd xs xs.length : Nat), H1, I2.tok _, ⟨_, by rw [hn]⟩, q1⟩
end
end Xs

/-! A tuple turned about: t[::-1]. Tuples, and any value, compared. -/
namespace Xt
open PySem PySem.Spec PyProof.Rows L2 Gy
theorem back_ends (n : Nat) : Builtin.Slice.sliceAdjust none none (-1) (n : Int) = ((n : Int) - 1, -1) := rfl
theorem back_places (n : Nat) : Builtin.Slice.slicePlaces ((n : Int) - 1) (-1) (-1) = n := by
  unfold Builtin.Slice.slicePlaces
  rw [if_neg (by decide)]
  by_cases h : n = 0
  · subst h
    rfl
  · rw [if_pos (by omega), show (- -1 : Int) = 1 from rfl, Int.ediv_one]
    omega
theorem back_pick (xs : Array Value) : ((List.range xs.size).filterMap fun (m : Nat) => xs[(((xs.size : Int) - 1) + (m : Int) * (-1)).toNat]?).toArray = xs.toList.reverse.toArray := by
  congr 1
  refine List.ext_getElem? fun i => ?_
  have key : ∀ k, k ≤ xs.size → (List.range k).filterMap (fun (m : Nat) => xs[(((xs.size : Int) - 1) + (m : Int) * (-1)).toNat]?) = xs.toList.reverse.take k := by
    intro k
    induction k with
    | zero => intro _; rfl
    | succ k ih =>
      intro hk
      have lt : xs.size - 1 - k < xs.size := by omega
      have e : (((xs.size : Int) - 1) + (k : Int) * (-1)).toNat = xs.size - 1 - k := by omega
      have g : xs.toList.reverse[k]? = some xs[xs.size - 1 - k] := by
        have l : k < xs.toList.reverse.length := by
          rw [List.length_reverse, Array.length_toList]
          omega
        rw [List.getElem?_eq_getElem l, List.getElem_reverse]
        simp
      rw [List.range_succ, List.filterMap_append, ih (by omega), List.take_add_one, g]
      congr 1
      rw [List.filterMap_cons_some (b := xs[xs.size - 1 - k]) (by rw [e]; exact Array.getElem?_eq_getElem lt)]
      rfl
  rw [key xs.size (Nat.le_refl _), List.take_of_length_le (by rw [List.length_reverse, Array.length_toList]; exact Nat.le_refl _)]
section
variable {prog : Program} {w : World} {A : Around} {E : Value → Shared → Prop} {s : Shared}
theorem applied_back {sl : Addr} {vl vu vs : Value} {n : Nat} {Q : Int × Int × Nat → Shared → Prop} (hs : s.heap.IsSliceOf sl vl vu vs) (pl : IsPart vl none) (pu : IsPart vu none) (ps : IsPart vs (some (-1)))
    (h : Q ((n : Int) - 1, -1, n) s) : wpAny (model prog w) A (Builtin.Slice.sliceApplied (.ref sl) (pure (n : Int))) Q E s := by
  obtain ⟨o, e1, e2, e3⟩ := id hs
  unfold Builtin.Slice.sliceApplied Builtin.Slice.sliceFields
  refine wpAny_bind (wpAny_bind (wpAny_field e1 e3 (x := vl) rfl ?_))
  refine wpAny_bind (wpAny_field e1 e3 (x := vu) rfl ?_)
  refine wpAny_bind (wpAny_field e1 e3 (x := vs) rfl (wpAny_pure ?_))
  refine wpAny_bind (HT.slicePart_ ps ?_)
  show wpAny _ _ (if ((-1 : Int) == 0) = true then _ else _) _ _ s
  rw [if_neg (by decide)]
  refine wpAny_bind (HT.slicePart_ pl ?_)
  refine wpAny_bind (HT.slicePart_ pu ?_)
  refine wpAny_bind (wpAny_pure ?_)
  show wpAny _ _ (pure ((Builtin.Slice.sliceAdjust none none (-1) (n : Int)).1, (-1 : Int), Builtin.Slice.slicePlaces (Builtin.Slice.sliceAdjust none none (-1) (n : Int)).1 (Builtin.Slice.sliceAdjust none none (-1) (n : Int)).2 (-1))) _ _ s
  rw [back_ends, back_places]
  exact wpAny_pure h
theorem item_back {t sl : Addr} {items : Array Value} {vl vu vs : Value} {Q : Value → Shared → Prop} (ht : IsTup s.heap t items) (hs : s.heap.IsSliceOf sl vl vu vs) (pl : IsPart vl none) (pu : IsPart vu none) (ps : IsPart vs (some (-1)))
    (h : Q (.ref s.heap.objs.size) { s with heap := s.heap.push { cls := .type "tuple", data := .seq items.toList.reverse.toArray } }) (hz : items.size ≤ sizeLine) : wpAny (model prog w) A (getItem (.ref t) (.ref sl)) Q E s := by
  have fits : sizeOk (.seq items.toList.reverse.toArray) := by
    show items.toList.reverse.toArray.size ≤ sizeLine
    rw [List.size_toArray, List.length_reverse, Array.length_toList]
    exact hz
  obtain ⟨o, e1, e2, e3⟩ := id hs
  have ty : s.TypeIs (.ref sl) "slice" := ⟨o, e1, e2⟩
  unfold getItem
  try with_reducible refine wpAny_holding ?_
  first
    | refine wpAny_bind (wpAny_pure ?_)
    | skip
  refine wpAny_bind (wpAny_sequenceKey ht.typeIs (by decide) ?_)
  refine wpAny_bind (wpAny_callSpecial?_slot (name := Str.ofString "__getitem__") ht.typeIs PyProof.Rows.slot_tuple_getitem (wpAny_call_entry PyProof.Rows.slot_tuple_getitem ht.typeIs entry_tuple_getitem ?_ (args_tuple_getitem _ _)))
  refine (?_ : wpAny _ _ (Builtin.Tuple.tupleItemsOf (.ref t) >>= _) _ _ s)
  refine wpAny_bind (tupleItemsOf_ ht ?_)
  refine wpAny_bind (wpAny_typeOf ty ?_)
  rw [if_pos (by decide)]
  refine wpAny_bind (applied_back hs pl pu ps ?_)
  have no : ¬ ((((items.size : Int) - 1) == 0 && (-1 : Int) == 1 && items.size == items.size) = true) := fun q => by
    rw [Bool.and_eq_true, Bool.and_eq_true] at q
    exact absurd q.1.2 (by decide)
  refine (?_ : wpAny _ _ (if (((items.size : Int) - 1) == 0 && (-1 : Int) == 1 && items.size == items.size) = true then _ else _) _ _ s)
  rw [if_neg no, back_pick]
  first
    | exact wpAny_bind (m := Builtin.Tuple.tupleExact _) (wpAny_newObj_type (wpAny_pure ⟨_, rfl, wpAny_pure h⟩) fits)
    | exact wpAny_bind (wpAny_bind (m := Builtin.Tuple.tupleExact _) (wpAny_newObj_type (wpAny_pure (wpAny_pure ⟨_, rfl, wpAny_pure h⟩)) fits))
    | exact wpAny_bind (wpAny_bind (m := Builtin.Tuple.tupleExact _) (wpAny_newObj_type (wpAny_pure ⟨_, rfl, wpAny_pure h⟩) fits))
end
section
variable {X : Cx}
/-- t[::-1] -/
def tRevT (K : PySem.W.Frag) (te : TE) : TE := fun σ H Q => te σ H fun x H1 => ∃ a xs, x = .ref a ∧ SqT K H1 a xs ∧ NewT xs.reverse H1 Q
theorem pe_revT {e : Expr} {te : TE} {k : Nat} {p1 p2 p3 pos : Pos} (he : PE X e te) : PE X (.Subscript e (.Slice none none (some (.UnaryOp .USub (.Constant (.int 1) k p1) p2)) p3) pos) (tRevT X.K te) := by
  constructor
  intro pins s σ H Q I h
  refine Subscript_ (thn (he.run pins s σ H _ I h) ?_)
  rintro v s1 ⟨x, H1, I1, r1, a, xs, rfl, hx, q⟩
  cases r1
  have hst : PO X (some (.UnaryOp .USub (.Constant (.int 1) k p1) p2)) (tPart (tUn (rU fun i => .int (-i)) (tC (.int 1)))) := po_some (pe_un un_neg pe_int)
  refine wpAny_Slice (thn (po_none.run pins s1 σ H1 (fun o H2 => o = none ∧ H2 = H1) I1 ⟨rfl, rfl⟩) ?_)
  rintro vl s2 ⟨l, H2, I2, pl, rfl, rfl⟩
  refine thn (po_none.run pins s2 σ H2 (fun o H3 => o = none ∧ H3 = H2) I2 ⟨rfl, rfl⟩) ?_
  rintro vu s3 ⟨u, H3, I3, pu, rfl, rfl⟩
  refine thn (hst.run pins s3 σ H3 (fun o H4 => o = some (-1) ∧ H4 = H3) I3 ⟨1, rfl, -1, rfl, rfl, rfl⟩) ?_
  rintro vs s4 ⟨o, H4, I4, ps, rfl, rfl⟩
  have I5 : Inv X pins σ H4 { s4 with heap := s4.heap.push { cls := .type "slice", data := .fields #[vl, vu, vs] } } := I4.kept (t' := s4.toks) fun b ob z => Heap.get?_push_of_some _ z
  obtain ⟨its, r, ht, hz⟩ := I5.tuple hx
  have len := r.length
  refine (?_ : wpAny (model X.prog X.w) X.A (subscriptTail e _ (.ref a) (.ref s4.heap.objs.size)) (EP X pins σ Q) X.xe _)
  refine tail_any (ops := [.ref a, .ref s4.heap.objs.size]) ht.typeIs (PyProof.Rows.slot_tuple_getitem.lookup) ?_ (by with_unfolding_all rfl)
  refine item_back ht (Heap.IsSliceOf.new _ vl vu vs) pl pu ps ?_ (by rw [List.size_toArray]; omega)
  exact lay_new (n := 0) I5 (by rw [List.length_reverse]; exact hz) r.reverse q
/-- t == u, t != u: one of them has no items -/
def rEmT (K : PySem.W.Frag) (f : Bool → Bool) : R2 := fun x y H Q => ∃ a b xs, x = .ref a ∧ y = .ref b ∧ SqT K H a xs ∧ SqT K H b [] ∧ Q (.bl (f xs.isEmpty)) H
theorem op_eqEmT (hu : X.A.units < cLine) : OpR X (compareOp .Eq) (rEmT X.K id) := by
  intro pins s σ H x y v u Q I rx ry h
  obtain ⟨a, b, xs, rfl, rfl, ha, hb, q⟩ := h
  cases rx
  cases ry
  obtain ⟨i1, r1, t1, _⟩ := I.tuple ha
  obtain ⟨i2, r2, t2, _⟩ := I.tuple hb
  cases r2
  refine SeqAt.eq_tupleAt (e := fun _ => true) t1 t2 hu (fun j h1 h2 => absurd h2 (Nat.not_lt_zero j)) ?_
  refine ⟨.bl (id xs.isEmpty), H, I, ?_, q⟩
  have l := r1.length
  cases xs with
  | nil =>
    cases r1
    rfl
  | cons y ys =>
    cases i1 with
    | nil => cases l
    | cons z zs => rfl
theorem op_neEmT (hu : X.A.units < cLine) : OpR X (compareOp .NotEq) (rEmT X.K not) := by
  intro pins s σ H x y v u Q I rx ry h
  obtain ⟨a, b, xs, rfl, rfl, ha, hb, q⟩ := h
  cases rx
  cases ry
  obtain ⟨i1, r1, t1, _⟩ := I.tuple ha
  obtain ⟨i2, r2, t2, _⟩ := I.tuple hb
  cases r2
  refine SeqAt.RcNeAt.tuples (e := fun _ => true) t1 t2 hu (fun j h1 h2 => absurd h2 (Nat.not_lt_zero j)) _ _ _ _ ?_
  refine ⟨.bl (not xs.isEmpty), H, I, ?_, q⟩
  have l := r1.length
  cases xs with
  | nil =>
    cases r1
    rfl
  | cons y ys =>
    cases i1 with
    | nil => cases l
    | cons z zs => rfl
end
end Xt
namespace Xt
open PySem PySem.Spec PyProof.Rows L2 Gy
/-- l == []: a list and one without items -/
def rEmL (K : PySem.W.Frag) : R2 := fun x y H Q => ∃ a b xs, x = .ref a ∧ y = .ref b ∧ SqL K H a xs ∧ SqL K H b [] ∧ Q (.bl xs.isEmpty) H
theorem op_eqEmL {X : Cx} (hu : X.A.units < cLine) : OpR X (compareOp .Eq) (rEmL X.K) := by
  intro pins s σ H x y v u Q I rx ry h
  obtain ⟨a, b, xs, rfl, rfl, ha, hb, q⟩ := h
  cases rx
  cases ry
  obtain ⟨i1, r1, t1, _⟩ := I.list ha
  obtain ⟨i2, r2, t2, _⟩ := I.list hb
  cases r2
  cases xs with
  | nil =>
    cases r1
    exact SeqAt.eq_listAt (e := fun _ => true) t1.isList t2.isList rfl hu (fun j h1 h2 => absurd h2 (Nat.not_lt_zero j)) ⟨.bl true, H, I, rfl, q⟩
  | cons y ys =>
    cases r1 with
    | cons h t =>
      exact SeqAt.eq_list_lengthsAt t1.isList t2.isList (by simp) hu ⟨.bl false, H, I, rfl, q⟩
end Xt

/-! v == text, for any value of data. -/
namespace Gy
open PySem PySem.Spec PyProof.Rows L2 Xt
theorem dict_no_str (l : Addr) (es : Array DictEntry) (ep : Nat) (dd : Option Addr) (sl : Array (Option Value)) (b : Str) (u : Tok) :
    Meets (Builtin.«dict.__eq__» ⟨[.ref l, .str b u], []⟩) (fun _ R s => s.heap.get? l = some ⟨.type "dict", dd, .dict es ep, sl⟩ ∧ R (.ok (.ret .notImplemented)) s) := by
  refine .of_wp fun prog w A R s h => ?_
  obtain ⟨hp, g, d, tk, os⟩ := s
  obtain ⟨hl, h⟩ := h
  have f1 : isSubtype (.type "str") (.type "dict") = pure false := by rw [isSubtype_type]; kernel_rfl
  wp_walk using wpAny_loadPart' hl, wpAny_load hl
  exact ⟨_, rfl, h⟩
theorem str_no_dict (l : Addr) (es : Array DictEntry) (ep : Nat) (dd : Option Addr) (sl : Array (Option Value)) (b : Str) (u : Tok) :
    Meets (Builtin.«str.__eq__» ⟨[.str b u, .ref l], []⟩) (fun _ R s => s.heap.get? l = some ⟨.type "dict", dd, .dict es ep, sl⟩ ∧ R (.ok (.ret .notImplemented)) s) := by
  refine .of_wp fun prog w A R s h => ?_
  obtain ⟨hp, g, d, tk, os⟩ := s
  obtain ⟨hl, h⟩ := h
  wp_walk using wpAny_loadPart' hl, wpAny_load hl
  exact ⟨_, rfl, h⟩
theorem rc_dict_str {A : Around} {s : Shared} {l : Addr} {o : Obj} {es : Array DictEntry} {ep : Nat} (b : Str) (u : Tok) (ho : s.heap.get? l = some o) (hc : o.cls = .type "dict") (hd : o.data = .dict es ep) (hu : A.units < cLine)
    {prog : Program} {w : World} {E Q : Value → Shared → Prop} (h : Q (.bool false) s) : wpAny (model prog w) A (richCompare .Eq (.ref l) (.str b u)) Q E s := by
  obtain ⟨cls, dd, dat, sl⟩ := o
  dsimp only at hc hd
  subst hc hd
  refine SeqAt.rc_eq_decline_or (k := false) ⟨_, ho, rfl⟩ (typeIs_str s b u) (by decide) F.sub_str_dict F.slot_dict_eq F.slot_str_eq_refl ?_ ?_ ?_ (.inr hu) h
  · exact fun _ q => call_meets F.slot_dict_eq ⟨_, ho, rfl⟩ F.entry_dict_eq (F.args_dict_eq_2 _ _) (dict_no_str l es ep dd sl b u) ⟨ho, q⟩
  · exact fun _ q => call_meets F.slot_str_eq_refl (typeIs_str s b u) F.entry_str_eq (F.args_str_eq_2 _ _) (str_no_dict l es ep dd sl b u) ⟨ho, q⟩
  · exact fun _ q => wpAny_of_eq (rfl : isSame (.ref l) (.str b u) = pure false) q
/-- whether it is this text -/
def isTx (x : Str) : PyData → Bool
  | .str y => decide (V.str y = V.str x)
  | _ => false
def rEqS (K : PySem.W.Frag) : R2 := fun a b H Q => ∃ (d : PyData) (x : Str), b = .str x ∧ Dn K H a d ∧ Q (.bl (isTx x d)) H
theorem op_eqS {X : Cx} (hu : X.A.units < cLine) : OpR X (compareOp .Eq) (rEqS X.K) := by
  intro pins s σ H a b v u Q I rx ry h
  obtain ⟨d, x, rfl, dn, q⟩ := h
  cases dn with
  | non => exact op_eq pins s σ H _ _ v u Q I rx ry ⟨rfl, q⟩
  | bl c => exact op_eq pins s σ H _ _ v u Q I rx ry ⟨rfl, q⟩
  | int i => exact op_eq pins s σ H _ _ v u Q I rx ry ⟨rfl, q⟩
  | str y => exact op_eq pins s σ H _ _ v u Q I rx ry ⟨rfl, q⟩
  | lst h1 _ =>
    cases rx
    obtain ⟨t, rfl⟩ := ry
    obtain ⟨its, _, hl, _⟩ := I.list (SqL.of h1)
    exact SeqAt.RcAt.list_str x t hl.isList hu _ _ _ _ ⟨.bl false, H, I, rfl, q⟩
  | tup h1 _ =>
    cases rx
    obtain ⟨t, rfl⟩ := ry
    obtain ⟨its, _, ht, _⟩ := I.tuple h1.sq
    exact SeqAt.RcAt.tuple_str x t ht hu _ _ _ _ ⟨.bl false, H, I, rfl, q⟩
  | dic h1 =>
    cases rx
    obtain ⟨t, rfl⟩ := ry
    obtain ⟨_, o, es, ep, g1, g2, g3, _, _⟩ := dict_at I h1
    exact rc_dict_str x t g1 g2 g3 hu ⟨.bl false, H, I, rfl, q⟩
end Gy

/-! Own __len__, own __repr__, a list in an f-string by !r; dict comprehensions over any walk; pairs of texts sorted. -/
namespace Xo
open PySem PySem.Spec PyProof.Rows L2 Gy Xt
section
variable {X : Cx} {pins : List (Addr × Obj)} {σ : L2.St} {H : Hp} {s : Shared}
theorem env_in1 (I : Inv X pins σ H s) : Env0 X.prog X.w X.K X.mg X.base X.A.in1 X.stack s H := by
  have e := I.env0
  exact ⟨e.frames, e.mod, e.bs, e.bsz, e.funs, e.frf, e.hok, e.bare⟩
/-- len(o), o of an own class with a __len__ -/
def rLenO (C : Addr) (sp : Sp) (E : XK) : List V → Hp → VK → Prop := fun xs H Q => ∃ a dx fs, xs = [.ref a] ∧ H a = some (.ins C dx fs) ∧ sp [.ref a] H (fun v H' => ∃ n : Nat, v = .int (n : Int) ∧ n < 9223372036854775808 ∧ Q (.int (n : Int)) H') E
theorem call_lenO {CX : CXT} {k : Nat} {C f : Addr} {fd : FuncData} {ps : List Str} {sp : Sp} {E : XK} (F : FnOk X.prog X.w X.K X.mg X.base CX k f fd ps sp) (hr : Room (k + 1) X.A)
    (hm : Meth X.K C "__len__" f) (hb : Binds X.K fd ps []) (hx : Passes CX X E) : CallR X (.builtin "len") (rLenO C sp E) := by
  intro pins s σ H xs us Q I r h
  obtain ⟨a, dx, fs, rfl, ha, q⟩ := h
  obtain ⟨u, rfl, ru⟩ := vals1 r
  cases ru
  obtain ⟨mA, J, _⟩ := ins_get I.hok ha
  obtain ⟨od, J, _⟩ := J.look
  refine Calls.call_function_entry kind_len plain_len entry_len (args_len1 _) ?_
  unfold Builtin.«len»
  refine wpAny_bind (m := oneArg "len" _) (wpAny_pure ?_)
  refine wpAny_bind (m := callSpecial? (.ref a) (Str.ofString "__len__")) (PySem.W.special_fn I.kIn J hm.at_ (beq_iff_eq.mp hm.fn) ?_)
  have hl := F.len _ _ _ _ q
  refine wpAny_call (codeAny_mono (F.run X.A.in1 X.stack s H ⟨[.ref a], []⟩ [.ref a] [.ref a] _ E hr.in1 (env_in1 I) (by
    have := hb s [.ref a] I.kIn (by simpa using hl)
    simpa using this) (.cons rfl .nil) q) fun r s' hq => ?_)
  cases r with
  | error e => exact hx pins σ H s e s' I hq
  | ok fl =>
    cases fl with
    | ret w =>
      obtain ⟨z, H', I', rz, n, rfl, hn, qq⟩ := I.after hq
      obtain ⟨t, rfl⟩ := rz
      refine wpAny_bind (wpAny_holding (wpAny_pure ?_))
      refine wpAny_bind (wpAny_letGo ?_)
      show wpAny _ _ (if (n : Int) < 0 then _ else _) _ _ _
      rw [if_neg (by omega)]
      show wpAny _ _ (if (n : Int) ≥ 2 ^ 63 then _ else _) _ _ _
      rw [if_neg (by omega)]
      exact wpAny_bind (wpAny_mkInt (wpAny_pure ⟨_, rfl, .int n, H', I'.tok _, ⟨_, rfl⟩, qq⟩))
    | next => exact False.elim hq
    | brk => exact False.elim hq
    | cont => exact False.elim hq
/-- repr(o), o of an own class with a __repr__ -/
def rReprO (C : Addr) (sp : Sp) (E : XK) : List V → Hp → VK → Prop := fun xs H Q => ∃ a dx fs, xs = [.ref a] ∧ H a = some (.ins C dx fs) ∧ sp [.ref a] H (fun v H' => ∃ t : Str, v = .str t ∧ Q (.str t) H') E
theorem call_reprO {CX : CXT} {k : Nat} {C f : Addr} {fd : FuncData} {ps : List Str} {sp : Sp} {E : XK} (F : FnG X.prog X.w X.K X.mg X.base CX k f fd ps sp) (gd : X.A.guards = some []) (hr : Room (k + 1) X.A)
    (hm : Meth X.K C "__repr__" f) (hb : Binds X.K fd ps []) (hx : Passes CX X E) : CallR X (.builtin "repr") (rReprO C sp E) := by
  intro pins s σ H xs us Q I r h
  obtain ⟨a, dx, fs, rfl, ha, q⟩ := h
  obtain ⟨u, rfl, ru⟩ := vals1 r
  cases ru
  obtain ⟨mA, J, _⟩ := ins_get I.hok ha
  obtain ⟨od, J, _⟩ := J.look
  refine Calls.call_function_entry PySem.F.kind_repr PySem.F.plain_repr PySem.F.entry_repr (PySem.F.args_repr1 _) ?_
  unfold Builtin.«repr»
  refine wpAny_bind (m := oneArg "repr" _) (wpAny_pure ?_)
  refine wpAny_bind (m := cRoomFor _ _) (wpAny_cRoomFor hr.in1.units0 ?_)
  refine wpAny_bind (m := specialOf (.ref a) (Str.ofString "__repr__")) (wpAny_bind (J.type.here ((PySem.W.looks_findIn I.kIn hm.at_).here ?_)))
  show wpAny _ _ (if (some (Value.ref f)).isNone = true then _ else _) _ _ _
  rw [if_neg (by simp)]
  refine wpAny_bind (m := callSpecialIfBound? (.ref a) (Str.ofString "__repr__") _) (PySem.W.ifBound_K I.kIn J hm.at_ hm.fn ?_)
  have hl := F.ln q
  refine wpAny_call (codeAny_mono (F.go (A := X.A.in1) (outer := X.stack) (s := s) (args := ⟨[.ref a], []⟩) (us := [.ref a]) (vs := [.ref a]) gd hr.in1 (env_in1 I) (by
    have := hb s [.ref a] I.kIn (by simpa using hl)
    simpa using this) (.cons rfl .nil) q) fun r s' hq => ?_)
  cases r with
  | error e => exact hx pins σ H s e s' I hq
  | ok fl =>
    cases fl with
    | ret w =>
      obtain ⟨z, H', I', rz, n, rfl, qq⟩ := I.after hq
      obtain ⟨t, rfl⟩ := rz
      refine wpAny_bind (wpAny_isInstance (T := "str") (b := true) (typeIs_str _ _ _) isSubtype_str_str ?_)
      first
        | exact wpAny_pure ⟨_, rfl, .str n, H', I', ⟨_, rfl⟩, qq⟩
        | (rw [if_pos rfl]; exact wpAny_pure ⟨_, rfl, .str n, H', I', ⟨_, rfl⟩, qq⟩)
        | (simp only [if_true]; exact wpAny_pure ⟨_, rfl, .str n, H', I', ⟨_, rfl⟩, qq⟩)
    | next => exact False.elim hq
    | brk => exact False.elim hq
    | cont => exact False.elim hq
/-- {e!r}, a list of data -/
def tFmtL (K : PySem.W.Frag) (te : TE) : TE := fun σ H Q => te σ H fun x H1 => ∃ a xs ds, x = .ref a ∧ H1 a = some (.lst xs) ∧ Dns K H1 xs ds ∧ PyData.showableAll ds = true ∧ PyData.depthAll ds ≤ 50 ∧ (PyData.shown (.list ds)).length ≤ sizeLine ∧ Q (.str (PyData.shown (.list ds))) H1
theorem pe_fmtL {e : Expr} {te : TE} {pos : Pos} (hg : X.A.guards = some []) (hu : X.A.units + 70 < cLine) (he : PE X e te) : PE X (.FormattedValue e 114 none pos) (tFmtL X.K te) := by
  refine ⟨fun pins s σ H Q I h => ?_⟩
  refine wpAny_FormattedValue_repr (thn (he.run pins s σ H _ I h) fun v s1 hv => ?_)
  obtain ⟨x, H1, I1, r1, a, ys, ds, rfl, h, ha, sh, dp, len, q⟩ := hv
  cases r1
  have len' : (listText (PyData.shownAll ds)).length ≤ sizeLine := by simpa only [PyData.shown] using len
  have fin : ∀ (h' : Heap) (x : Tok) (tk : Nat), (∀ b o, s1.heap.get? b = some o → h'.get? b = some o) → wpAny (model X.prog X.w) X.A (formatField (.str (PyData.shown (.list ds)) x) Str.empty) (EP X pins σ Q) X.xe { s1 with heap := h', toks := tk } := fun h' x tk hk =>
    wpAny_formatField_str ⟨.str _, H1, I1.kept hk, ⟨x, rfl⟩, q⟩ ⟨.str _, H1, (I1.kept hk).tok _, ⟨_, rfl⟩, q⟩ len
  obtain ⟨its, rv, ⟨o, n, g1, g2, _, g3⟩, _⟩ := I1.list (SqL.of h)
  obtain ⟨as, bs, rd, at_, sw⟩ := Dns.shows I1 ha rv sh fun t ht => Nat.le_trans (listText_mem_le ht) len'
  have out : a ∉ bs := not_mem_of_deeper (.list g1 g2 g3 rd) (by simp only [PyData.depth]; omega) at_
  match its, rv, g3, rd, sw with
  | [], rv, g3, rd, _ =>
    cases rd
    refine wpAny_pyReprObj_list_empty ⟨o, g1, g2⟩ (by omega) g1 g3 ?_
    have z := fin s1.heap s1.toks (s1.toks + 1) (fun _ _ e => e)
    simpa only [PyData.shown, PyData.shownAll, listText_nil] using z
  | x :: rest, _, g3, _, sw =>
    refine wpAny_pyReprObj_listK g1 g2 g3 out (by simpa using sw.length_eq) (fun i y e => sw.item i y (by simpa using e)) (g := []) hg (fun b _ => Clear.nil b) (d := PyData.depthAll ds) ?_ (fun _ _ e => e) (fun h' u tk hk => fin h' u tk hk) len'
    omega
end
/-- a dict comprehension over a walk -/
theorem dc_it {J : It} {n : Nat} {G : Hp → Prop} {Y : Nat → Hp → V → Hp → Prop} (w : Walk J n G Y) {g : TG} {tt : TT} {tk tv : TE} {vs : List Nat} {σ : L2.St} {H1 : Hp} {D : Addr} {Qd : Hp → Prop} (Pv : Nat → Hp → Prop) (h0 : Pv 0 (upd H1 D (.dK []))) (hG : ∀ i H, i ≤ n → Pv i H → G H)
    (hs : ∀ i x H H', i < n → Pv i H → Y i H x H' → g x (wipe σ vs) H' fun σ2 H2 => wipe σ2 vs = wipe σ vs ∧ tt σ2 H2 fun b H3 =>
      if b = true then tk σ2 H3 fun y H4 => tv σ2 H4 fun z H5 => ∃ kvs k, y = kV k ∧ H5 D = some (.dK kvs) ∧ kvs.length < sizeLine ∧ Pv (i + 1) (upd H5 D (.dK (putK kvs k z))) else Pv (i + 1) H3) (hd : ∀ H, Pv n H → Qd H) :
    ∃ W : Nat → Nat → Hp → Prop, (∃ m, W 0 m (upd H1 D (.dK []))) ∧ ∀ i m H, W i m H →
      (J.stop i H ∧ Qd H) ∨ (J.go i H ∧ ∃ Nx : Hp → Prop, (∀ H', Nx H' → ∃ m', m' < m ∧ W (i + 1) m' H') ∧ ∀ x H', J.yld i H x H' → g x (wipe σ vs) H' fun σ2 H2 => wipe σ2 vs = wipe σ vs ∧ tt σ2 H2 fun b H3 =>
        if b = true then tk σ2 H3 fun y H4 => tv σ2 H4 fun z H5 => ∃ kvs k, y = kV k ∧ H5 D = some (.dK kvs) ∧ kvs.length < sizeLine ∧ Nx (upd H5 D (.dK (putK kvs k z))) else Nx H3) := by
  refine ⟨fun i m H => m = n - i ∧ i ≤ n ∧ Pv i H, ⟨n, by simp, Nat.zero_le _, h0⟩, ?_⟩
  rintro i m H ⟨rfl, hi, p⟩
  have q := hG i H hi p
  by_cases hlt : i < n
  · refine .inr ⟨w.goes i H hlt q, Pv (i + 1), fun H' p' => ⟨n - (i + 1), by omega, rfl, hlt, p'⟩, fun x H' y => hs i x H H' hlt p (w.yields i H x H' hlt q y)⟩
  · have e : i = n := by omega
    subst e
    exact .inl ⟨w.stops H q, hd H p⟩
/-- the inner walk of a comprehension with two -/
theorem lc_in {J1 : It} {n : Nat} {G : Hp → Prop} {Y : Nat → Hp → V → Hp → Prop} (w : Walk J1 n G Y) {g1 : TG} {tt1 : TT} {te : TE} {vs1 : List Nat} {σ2 : L2.St} {H4 : Hp} {D : Addr} {Nx : Hp → Prop} (Pv : Nat → Hp → Prop) (h0 : Pv 0 H4) (hG : ∀ i H, i ≤ n → Pv i H → G H)
    (hs : ∀ i x H H', i < n → Pv i H → Y i H x H' → g1 x (wipe σ2 vs1) H' fun σ3 H5 => wipe σ3 vs1 = wipe σ2 vs1 ∧ tt1 σ3 H5 fun b H6 =>
      if b = true then te σ3 H6 fun y H7 => ∃ acc, H7 D = some (.lst acc) ∧ acc.length < sizeLine ∧ Pv (i + 1) (upd H7 D (.lst (acc ++ [y]))) else Pv (i + 1) H6) (hd : ∀ H, Pv n H → Nx H) :
    ∃ W1 : Nat → Nat → Hp → Prop, (∃ m, W1 0 m H4) ∧ ∀ j k H, W1 j k H →
      (J1.stop j H ∧ Nx H) ∨ (J1.go j H ∧ ∃ Nx1 : Hp → Prop, (∀ H', Nx1 H' → ∃ k', k' < k ∧ W1 (j + 1) k' H') ∧ ∀ x H', J1.yld j H x H' → g1 x (wipe σ2 vs1) H' fun σ3 H5 => wipe σ3 vs1 = wipe σ2 vs1 ∧ tt1 σ3 H5 fun b H6 =>
        if b = true then te σ3 H6 fun y H7 => ∃ acc, H7 D = some (.lst acc) ∧ acc.length < sizeLine ∧ Nx1 (upd H7 D (.lst (acc ++ [y]))) else Nx1 H6) := by
  refine ⟨fun i m H => m = n - i ∧ i ≤ n ∧ Pv i H, ⟨n, by simp, Nat.zero_le _, h0⟩, ?_⟩
  rintro i m H ⟨rfl, hi, p⟩
  have q := hG i H hi p
  by_cases hlt : i < n
  · refine .inr ⟨w.goes i H hlt q, Pv (i + 1), fun H' p' => ⟨n - (i + 1), by omega, rfl, hlt, p'⟩, fun x H' y => hs i x H H' hlt p (w.yields i H x H' hlt q y)⟩
  · have e : i = n := by omega
    subst e
    exact .inl ⟨w.stops H q, hd H p⟩
/-- the outer walk -/
theorem lc_out {J : It} {n : Nat} {G : Hp → Prop} {Y : Nat → Hp → V → Hp → Prop} (w : Walk J n G Y) {g g1 : TG} {tt tt1 : TT} {wi1 : TI} {te : TE} {vs vs1 : List Nat} {σ : L2.St} {H1 : Hp} {D : Addr} {Qd : Hp → Prop} (Pv : Nat → Hp → Prop) (h0 : Pv 0 (upd H1 D (.lst []))) (hG : ∀ i H, i ≤ n → Pv i H → G H)
    (hs : ∀ i x H H', i < n → Pv i H → Y i H x H' → g x (wipe σ vs) H' fun σ2 H2 => wipe σ2 vs = wipe σ vs ∧ tt σ2 H2 fun b H3 =>
      if b = true then wi1 σ2 H3 fun J1 H4 => ∃ W1 : Nat → Nat → Hp → Prop, (∃ m, W1 0 m H4) ∧ ∀ j k H, W1 j k H →
        (J1.stop j H ∧ Pv (i + 1) H) ∨ (J1.go j H ∧ ∃ Nx1 : Hp → Prop, (∀ H', Nx1 H' → ∃ k', k' < k ∧ W1 (j + 1) k' H') ∧ ∀ x H', J1.yld j H x H' → g1 x (wipe σ2 vs1) H' fun σ3 H5 => wipe σ3 vs1 = wipe σ2 vs1 ∧ tt1 σ3 H5 fun b H6 =>
          if b = true then te σ3 H6 fun y H7 => ∃ acc, H7 D = some (.lst acc) ∧ acc.length < sizeLine ∧ Nx1 (upd H7 D (.lst (acc ++ [y]))) else Nx1 H6)
      else Pv (i + 1) H3) (hd : ∀ H, Pv n H → Qd H) :
    ∃ W : Nat → Nat → Hp → Prop, (∃ m, W 0 m (upd H1 D (.lst []))) ∧ ∀ i m H, W i m H →
      (J.stop i H ∧ Qd H) ∨ (J.go i H ∧ ∃ Nx : Hp → Prop, (∀ H', Nx H' → ∃ m', m' < m ∧ W (i + 1) m' H') ∧ ∀ x H', J.yld i H x H' → g x (wipe σ vs) H' fun σ2 H2 => wipe σ2 vs = wipe σ vs ∧ tt σ2 H2 fun b H3 =>
        if b = true then wi1 σ2 H3 fun J1 H4 => ∃ W1 : Nat → Nat → Hp → Prop, (∃ m, W1 0 m H4) ∧ ∀ j k H, W1 j k H →
          (J1.stop j H ∧ Nx H) ∨ (J1.go j H ∧ ∃ Nx1 : Hp → Prop, (∀ H', Nx1 H' → ∃ k', k' < k ∧ W1 (j + 1) k' H') ∧ ∀ x H', J1.yld j H x H' → g1 x (wipe σ2 vs1) H' fun σ3 H5 => wipe σ3 vs1 = wipe σ2 vs1 ∧ tt1 σ3 H5 fun b H6 =>
            if b = true then te σ3 H6 fun y H7 => ∃ acc, H7 D = some (.lst acc) ∧ acc.length < sizeLine ∧ Nx1 (upd H7 D (.lst (acc ++ [y]))) else Nx1 H6)
        else Nx H3) := by
  refine ⟨fun i m H => m = n - i ∧ i ≤ n ∧ Pv i H, ⟨n, by simp, Nat.zero_le _, h0⟩, ?_⟩
  rintro i m H ⟨rfl, hi, p⟩
  have q := hG i H hi p
  by_cases hlt : i < n
  · refine .inr ⟨w.goes i H hlt q, Pv (i + 1), fun H' p' => ⟨n - (i + 1), by omega, rfl, hlt, p'⟩, fun x H' y => hs i x H H' hlt p (w.yields i H x H' hlt q y)⟩
  · have e : i = n := by omega
    subst e
    exact .inl ⟨w.stops H q, hd H p⟩
end Xo
/-! ### pairs of texts sorted -/
namespace Xp
open PySem PyProof.Rows Srt SrtO
def ltS (x y : Str) : Bool := decide (x.cps.toList < y.cps.toList)
theorem ltS_tri {x y : Str} (h1 : ltS x y = false) (h2 : ltS y x = false) : x = y := by
  have e : x.cps.toList = y.cps.toList := List.le_antisymm (List.not_lt.mp (of_decide_eq_false h2)) (List.not_lt.mp (of_decide_eq_false h1))
  cases x with
  | mk a =>
    cases y with
    | mk b =>
      have e' : a.toList = b.toList := e
      rw [Array.toList_inj.mp e']
theorem ltS_irr (x : Str) : ltS x x = false := decide_eq_false (List.lt_irrefl _)
theorem ltS_asym {x y : Str} (h : ltS x y = true) : ltS y x = false := decide_eq_false fun z => List.lt_irrefl _ (List.lt_trans (of_decide_eq_true h) z)
theorem ltS_trans {x y z : Str} (h1 : ltS x y = true) (h2 : ltS y z = true) : ltS x z = true := decide_eq_true (List.lt_trans (of_decide_eq_true h1) (of_decide_eq_true h2))
theorem ltS_ntr {x y z : Str} (h1 : ltS y x = false) (h2 : ltS z y = false) : ltS z x = false := by
  cases h : ltS z x with
  | false => rfl
  | true =>
    cases h3 : ltS x y with
    | true =>
      rw [ltS_trans h h3] at h2
      cases h2
    | false =>
      have := ltS_tri h1 h3
      subst this
      rw [h] at h2
      cases h2
/-- by the first, then by the second -/
def lexS (p q : Str × Str) : Bool := if p.1 = q.1 then ltS p.2 q.2 else ltS p.1 q.1
theorem lexS_swo {α : Type} (k : α → Str × Str) : Swo fun v u => lexS (k v) (k u) := by
  refine ⟨fun x y h => ?_, fun x y z h1 h2 => ?_⟩
  · skip
    unfold lexS at h ⊢
    by_cases e : (k x).1 = (k y).1
    · rw [if_pos e] at h
      rw [if_pos e.symm]
      exact ltS_asym h
    · rw [if_neg e] at h
      rw [if_neg fun z => e z.symm]
      exact ltS_asym h
  · skip
    unfold lexS at h1 h2 ⊢
    by_cases e1 : (k y).1 = (k x).1
    · by_cases e2 : (k z).1 = (k y).1
      · rw [if_pos e1] at h1
        rw [if_pos e2] at h2
        rw [if_pos (e2.trans e1)]
        exact ltS_ntr h1 h2
      · rw [if_neg e2] at h2
        rw [if_neg fun w => e2 (w.trans e1.symm), ← e1]
        exact h2
    · rw [if_neg e1] at h1
      by_cases e2 : (k z).1 = (k y).1
      · rw [if_neg fun w => e1 (e2.symm.trans w), e2]
        exact h1
      · rw [if_neg e2] at h2
        have h3 := ltS_ntr h1 h2
        by_cases e3 : (k z).1 = (k x).1
        · rw [e3] at h2
          exact absurd (ltS_tri h1 h2) e1
        · rw [if_neg e3]
          exact h3
def IsPr (h : Heap) (v : Value) (x y : Str) : Prop := ∃ a o t u n, v = .ref a ∧ h.get? a = some o ∧ o.cls = .type "tuple" ∧ o.data = .seq #[.str x t, .str y u] n
theorem IsPr.keeps {h h' : Heap} {v : Value} {x y : Str} (p : IsPr h v x y) (k : ∀ b o, h.get? b = some o → o.cls = .type "tuple" → h'.get? b = some o) : IsPr h' v x y := by
  obtain ⟨a, o, t, u, n, e, ho, hc, hd⟩ := p
  exact ⟨a, o, t, u, n, e, k a o ho hc, hc, hd⟩
theorem pr_firsts {h : Heap} : ∀ {vs : List Value}, (∀ v ∈ vs, ∃ x y, IsPr h v x y) → ∃ fs : List Value, PySem.W.KatTups h vs fs ∧ fs.length = vs.length ∧ ∀ f ∈ fs, ∃ x t, f = Value.str x t
  | [], _ => ⟨[], PySem.W.KatTups.nil, rfl, fun f hf => by simp at hf⟩
  | v :: vs, x => by
    obtain ⟨fs, k, hl, hi⟩ := pr_firsts (vs := vs) fun u hu => x u (List.mem_cons_of_mem _ hu)
    obtain ⟨y, z, a, o, t, u, n, rfl, ho, hc, hd⟩ := x v List.mem_cons_self
    refine ⟨.str y t :: fs, PySem.W.KatTups.cons ho hc hd rfl k, by rw [List.length_cons, List.length_cons, hl], fun f hf => ?_⟩
    rcases List.mem_cons.mp hf with rfl | hf
    · exact ⟨y, t, rfl⟩
    · exact hi f hf
section
variable {prog : Program} {w : World} {A : Around} {E : Value → Shared → Prop} {s : Shared}
theorem pr_cmp {vs : List Value} {k : Value → Str × Str} (hp : ∀ v ∈ vs, IsPr s.heap v (k v).1 (k v).2) : Cmp prog w A s (tuples' true) (fun p => p.1 ∈ vs) (lt2 fun v u => lexS (k v) (k u)) := by
  intro p q hm hm'
  have h1 := hp _ hm
  have h2 := hp _ hm'
  show wpAny (model prog w) A (keyLt' (tuples' true) p.1 q.1) (fun r s' => s' = s ∧ r = lexS (k p.1) (k q.1)) (fun _ _ => False) s
  unfold lexS
  generalize (k p.1).1 = x at h1 ⊢
  generalize (k p.1).2 = y at h1 ⊢
  generalize (k q.1).1 = x' at h2 ⊢
  generalize (k q.1).2 = y' at h2 ⊢
  obtain ⟨a, o, t, u, n, e, ho, hc, hd⟩ := h1
  obtain ⟨a', o', t', u', n', e', ho', hc', hd'⟩ := h2
  rw [e, e']
  refine PySem.W.kat_lt ho hd ho' hd' ?_
  show PySem.W.KatLex prog w A true (decide (2 < 2)) _ [(.str x t, .str x' t'), (.str y u, .str y' u')] 0 s
  refine PySem.W.kat_cons (SeqAt.EqAt.str_str x t x' t' prog w _ _ ?_)
  refine PySem.W.kat_go (fun e1 => ?_) (fun e1 => ?_)
  · have ex : x = x' := by simpa using e1
    refine PySem.W.kat_yes (PySem.W.kat_cons (SeqAt.EqAt.str_str y u y' u' prog w _ _ ?_))
    refine PySem.W.kat_go (fun e2 => ?_) (fun e2 => ?_)
    · have ey : y = y' := by simpa using e2
      have e3 : (if x = x' then ltS y y' else ltS x x') = false := by
        rw [if_pos ex, ey]
        exact ltS_irr _
      exact PySem.W.kat_yes (PySem.W.kat_nil ⟨rfl, e3.symm⟩)
    · have e3 : (if x = x' then ltS y y' else ltS x x') = ltS y y' := if_pos ex
      refine PySem.W.kat_no (PySem.W.kat_one _ _ (PyProof.Rows.lt_str ?_))
      exact (show s = s ∧ decide (y.cps.toList < y'.cps.toList) = (if x = x' then ltS y y' else ltS x x') from ⟨rfl, e3.symm⟩)
  · have ex : ¬ x = x' := by simpa using e1
    have e3 : (if x = x' then ltS y y' else ltS x x') = ltS x x' := if_neg ex
    exact PySem.W.kat_no (oneLt_str ⟨rfl, e3.symm⟩)
theorem pr_sortable {a : Addr} {vs : List Value} {k : Value → Str × Str} (h0 : 0 < vs.length) (hp : ∀ v ∈ vs, IsPr s.heap v (k v).1 (k v).2) (ha : ∀ o, s.heap.get? a = some o → o.cls ≠ .type "tuple") : SortableO prog w A s a vs fun v u => lexS (k v) (k u) := by
  intro h' keep
  have hp' : ∀ v ∈ vs, IsPr h' v (k v).1 (k v).2 := fun v hm => (hp v hm).keeps fun b o e c => keep b o (fun z => by subst z; exact ha o e c) e
  obtain ⟨fs, h1, h2, h3⟩ := pr_firsts fun v hm => ⟨_, _, hp' v hm⟩
  refine ⟨tuples' true, fun Q E hq => ?_, pr_cmp hp'⟩
  refine PySem.W.kat_kind (T := .type "str") h1 (by omega) (fun f hm => ?_) (by rfl) ?_
  · obtain ⟨x, t, rfl⟩ := h3 f hm
    exact PySem.W.Looks.now
  · have e : (Value.type "str" != Value.type "tuple") = true := by first | decide +kernel | rfl | decide
    rw [e]
    exact hq
theorem sorted_prs {l : Addr} {vs : List Value} {k : Value → Str × Str} {Q : Value → Shared → Prop} (hl : s.heap.IsList l vs.toArray) (hz : vs.length ≤ sizeLine) (hp : ∀ v ∈ vs, IsPr s.heap v (k v).1 (k v).2)
    (h : ∀ (h' : Heap) (d : Addr) (out : List Value), Srtd (fun v u => lexS (k v) (k u)) out → Stb (fun v u => lexS (k v) (k u)) out vs → (∀ b o, s.heap.get? b = some o → h'.get? b = some o) → s.heap.objs.size ≤ d → (∃ n, h'.get? d = some (seqObj "list" out.toArray n)) → Q (.ref d) { s with heap := h' }) :
    wpAny (model prog w) A (call (.builtin "sorted") [.ref l]) Q E s := by
  refine sorted_ord (lexS_swo k) hl hz (fun h2 h₁ a ha kk => ?_) fun out hs hb => ?_
  · refine pr_sortable (s := { s with heap := h₁ }) (by omega) (fun v hm => (hp v hm).keeps fun b o e _ => (kk b o e).2) fun o e => ?_
    have e' : some o = some (seqObj "list" vs.toArray 0) := e.symm.trans ha
    cases e'
    intro c
    exact absurd (Value.type.inj c) (by decide)
  · exact h _ _ out hs hb (fun b o e => sortedAll_old e) (Nat.le_succ _) (sortedAll_at s.heap vs out.toArray)
end
end Xp
namespace Xp
open PySem PySem.Spec PyProof.Rows L2 Gy Xt
/-- the pair of texts at a place -/
def prOf (H : Hp) : V → Str × Str
  | .ref t => match H t with
    | some (.frz _ (.tup [.str a, .str b])) => (a, b)
    | _ => ("", "")
  | _ => ("", "")
theorem prOf_of {H : Hp} {t : Addr} {a b : Str} (h : Tz H t [.str a, .str b]) : prOf H (.ref t) = (a, b) := by
  obtain ⟨o, e, _⟩ := h
  simp only [prOf, e]
/-- v is the pair p -/
def Pr (H : Hp) (v : V) (p : Str × Str) : Prop := ∃ t, v = .ref t ∧ Tz H t [.str p.1, .str p.2]
theorem Pr.of {H : Hp} {v : V} {p : Str × Str} (h : Pr H v p) : prOf H v = p := by
  obtain ⟨t, rfl, z⟩ := h
  exact prOf_of z
theorem Pr.same {H H' : Hp} {v : V} {p : Str × Str} (h : Pr H v p) (s : Same H H') : Pr H' v p := by
  obtain ⟨t, e, z⟩ := h
  exact ⟨t, e, z.same s⟩
inductive Prs (H : Hp) : List V → List (Str × Str) → Prop
  | nil : Prs H [] []
  | cons {v : V} {p : Str × Str} {vs : List V} {ps : List (Str × Str)} (h : Pr H v p) (t : Prs H vs ps) : Prs H (v :: vs) (p :: ps)
theorem Prs.same {H H' : Hp} {vs : List V} {ps : List (Str × Str)} (h : Prs H vs ps) (s : Same H H') : Prs H' vs ps := by
  induction h with
  | nil => exact .nil
  | cons h t ih => exact .cons (h.same s) ih
theorem Prs.map {H : Hp} {vs : List V} {ps : List (Str × Str)} (h : Prs H vs ps) : ps = vs.map (prOf H) := by
  induction h with
  | nil => rfl
  | cons h t ih => rw [List.map_cons, h.of, ← ih]
theorem Prs.mem {H : Hp} {vs : List V} {ps : List (Str × Str)} (h : Prs H vs ps) : ∀ v ∈ vs, Pr H v (prOf H v) := by
  induction h with
  | nil => exact fun v z => nomatch z
  | @cons v p vs ps h t ih =>
    intro x hx
    rcases List.mem_cons.mp hx with rfl | hx
    · rw [h.of]
      exact h
    · exact ih x hx
theorem Prs.of {H : Hp} : ∀ {vs : List V}, (∀ v ∈ vs, Pr H v (prOf H v)) → Prs H vs (vs.map (prOf H))
  | [], _ => .nil
  | v :: vs, h => .cons (h v List.mem_cons_self) (Prs.of fun x hx => h x (List.mem_cons_of_mem _ hx))
theorem Prs.length {H : Hp} {vs : List V} {ps : List (Str × Str)} (h : Prs H vs ps) : vs.length = ps.length := by
  rw [h.map, List.length_map]
theorem Prs.snoc {H : Hp} {vs : List V} {ps : List (Str × Str)} {v : V} {p : Str × Str} (h : Prs H vs ps) (g : Pr H v p) : Prs H (vs ++ [v]) (ps ++ [p]) := by
  induction h with
  | nil => exact .cons g .nil
  | cons h t ih => exact .cons h ih
theorem Prs.get {H : Hp} {vs : List V} {ps : List (Str × Str)} (h : Prs H vs ps) {i : Nat} {v : V} (e : vs[i]? = some v) : ∃ p, ps[i]? = some p ∧ Pr H v p := by
  induction h generalizing i with
  | nil => simp at e
  | @cons w p vs ps h t ih =>
    cases i with
    | zero =>
      simp only [List.getElem?_cons_zero, Option.some.injEq] at e
      subst e
      exact ⟨p, rfl, h⟩
    | succ i =>
      simp only [List.getElem?_cons_succ] at e
      exact ih e
def prD (p : Str × Str) : PyData := .tuple [.str p.1, .str p.2]
theorem Prs.dns {K : PySem.W.Frag} {H : Hp} {vs : List V} {ps : List (Str × Str)} (h : Prs H vs ps) : Dns K H vs (ps.map prD) := by
  induction h with
  | nil => exact .nil
  | cons h t ih =>
    obtain ⟨t, rfl, z⟩ := h
    exact .cons (.tup z (.cons (.str _) (.cons (.str _) .nil))) ih
def leQ (p q : Str × Str) : Prop := lexS q p = false
/-- sorted(xs), xs a list of pairs of texts -/
def rSortQ (K : PySem.W.Frag) : List V → Hp → VK → Prop := fun vs H Q => ∃ (a : Addr) (xs : List V) (ps : List (Str × Str)), vs = [.ref a] ∧ SqL K H a xs ∧ Prs H xs ps ∧
  ∀ (ys : List V) (qs : List (Str × Str)) (p : Addr), qs.Perm ps → qs.Pairwise leQ → Prs H ys qs → H p = none → Q (.ref p) (upd H p (.lst ys))
section
variable {X : Cx}
theorem cr_sortQ : CallR X (.builtin "sorted") (rSortQ X.K) := by
  intro pins s σ H vs us Q I r h
  obtain ⟨a, xs, ps, rfl, hs, hp, q⟩ := h
  obtain ⟨its, rv, hl, hz⟩ := I.list hs
  obtain ⟨u, rfl, ru⟩ := vals1 r
  obtain rfl : u = Value.ref a := ru
  have hx := hp.mem
  obtain ⟨e1, e2⟩ := refs_back rv fun x m => by
    obtain ⟨t, e, _⟩ := hx x m
    exact ⟨t, e⟩
  refine sorted_prs (k := fun u => prOf H (backV u)) hl.isList (by rw [← rv.length]; exact hz) (fun v hv => ?_) fun h' d out h1 h2 kp hd hn => ?_
  · obtain ⟨t, rfl⟩ := e2 v hv
    have hm : V.ref t ∈ xs := by rw [e1]; exact List.mem_map.mpr ⟨_, hv, rfl⟩
    obtain ⟨t', e, z⟩ := hx _ hm
    cases e
    obtain ⟨its2, r2, ⟨o, ho, hc, n, hd⟩, _⟩ := I.tuple z.sq
    obtain ⟨u1, u2, rfl, ri, rj⟩ := vals2 r2
    obtain ⟨t1, rfl⟩ := ri
    obtain ⟨t2, rfl⟩ := rj
    exact ⟨t, o, t1, t2, n, rfl, ho, hc, hd⟩
  · have h3 : ∀ u ∈ out, ∃ a, u = Value.ref a := fun u hu => e2 u (h2.perm.mem_iff.mp hu)
    obtain ⟨n, hn⟩ := hn
    have pm : (out.map backV).Perm xs := by
      rw [e1]
      exact h2.perm.map backV
    have hy : Prs H (out.map backV) ((out.map backV).map (prOf H)) := Prs.of fun v hv => hx v (pm.mem_iff.mp hv)
    have pm2 : ((out.map backV).map (prOf H)).Perm ps := by
      rw [hp.map]
      exact pm.map _
    refine ⟨.ref d, upd H d (.lst (out.map backV)), I.laid (t' := s.toks) kp hd ⟨?_, out, n, vals_back h3, hn⟩, rfl, q _ _ d pm2 ?_ hy (I.hok.fresh hd)⟩
    · rw [pm.length_eq]
      exact hz
    · rw [List.map_map]
      exact List.pairwise_map.mpr h1
end
/-- one sorted arrangement -/
theorem leQ_anti {p q : Str × Str} (h1 : leQ p q) (h2 : leQ q p) : p = q := by
  unfold leQ lexS at h1 h2
  by_cases e : p.1 = q.1
  · rw [if_pos e.symm] at h1
    rw [if_pos e] at h2
    exact Prod.ext e (ltS_tri h2 h1)
  · rw [if_neg fun z => e z.symm] at h1
    rw [if_neg e] at h2
    exact absurd (ltS_tri h2 h1) e
theorem sortQ_one : ∀ {ys zs : List (Str × Str)}, ys.Perm zs → ys.Pairwise leQ → zs.Pairwise leQ → ys = zs
  | [], zs, p, _, _ => (List.Perm.eq_nil p.symm).symm
  | y :: ys, [], p, _, _ => absurd (List.Perm.eq_nil p) (by simp)
  | y :: ys, z :: zs, p, h1, h2 => by
    have e : y = z := by
      have m1 : y ∈ z :: zs := p.mem_iff.mp List.mem_cons_self
      have m2 : z ∈ y :: ys := p.mem_iff.mpr List.mem_cons_self
      rcases List.mem_cons.mp m1 with e | m1
      · exact e
      · rcases List.mem_cons.mp m2 with e | m2
        · exact e.symm
        · exact leQ_anti ((List.pairwise_cons.mp h1).1 z m2) ((List.pairwise_cons.mp h2).1 y m1)
    subst e
    rw [sortQ_one (List.perm_cons y |>.mp p) (List.pairwise_cons.mp h1).2 (List.pairwise_cons.mp h2).2]
end Xp

/-! A method's call in a try: what is raised is wished for at the caller's slots. -/
namespace Xo
open PySem PySem.Spec PyProof.Rows L2 Gy Xt
section
variable {X : Cx} {CX : CXT} {k : Nat} {f C : Addr} {fd : FuncData} {ps : List Str} {sp : Sp} {E : L2.St → XK} {m : Str} {pos apos : Pos} {e o : Expr} {es : List Expr} {ta : TE} {t : TA}
def tMethT (C : Addr) (m : Str) (sp : Sp) (E : L2.St → XK) (ta : TE) (t : TA) : TE := fun σ H Q => ta σ H fun x H1 => ∃ a dx fs, x = .ref a ∧ H1 a = some (.ins C dx fs) ∧ fs.lookup m = none ∧ t σ H1 fun vs H2 => sp (x :: vs) H2 Q (E σ)
theorem pe_methT {pl : Sem Bool} (he : PE X o ta) (c : Cls X.K C) (hm : Meth X.K C m f) (F : FnOk X.prog X.w X.K X.mg X.base CX k f fd ps sp) (hr : Room k X.A) (hb : Binds X.K fd ps []) (hx : ∀ σ, PassesAt CX X σ (E σ)) (ha : PA X (e :: es) t)
    (h1 : starEach (e :: es) X.env = (false, eval e X.env) :: starEach es X.env := by rfl) (h2 : (backTo pos (starEach es X.env)).any (·.1) = false := by rfl)
    (h3 : eval (.Call (.Attribute o m apos) (e :: es) [] pos) X.env = (do let ov ← eval o X.env; standAt apos.atName; let (f, first) ← holding [ov] (getMethod ov m pl); callWith pos f first (backTo pos (starEach (e :: es) X.env)) (backToKw pos (keywordEach [] X.env))) := by rfl) :
    PE X (.Call (.Attribute o m apos) (e :: es) [] pos) (tMethT C m sp E ta t) := by
  constructor
  intro pins s σ H Q I h
  refine PySem.W.methodCall_KW (pl := pl) (thn (he.run pins s σ H _ I h) fun u s1 w1 => ?_) h3
  obtain ⟨x, H1, I1, rx, a, dx, fs, rfl, ea, l, q⟩ := w1
  obtain rfl : u = .ref a := rx
  refine getmeth_ok I1 ea c hm l (PySem.W.callWith_K (first := [.ref a]) (h₀ := X.base) I.ok.mod.kin hm.kp (thn (ha.run pos pins s1 σ H1 _ I1 q) fun us s2 w2 => ?_) h1 h2)
  obtain ⟨vs, H2, I2, r, q2⟩ := w2
  exact ⟨I2.kIn, run_fnS (us := .ref a :: us) (vs := .ref a :: vs) F hr hb (hx σ) I2 (.cons rfl r) q2⟩
def tMethK (C : Addr) (m : Str) (n : Nat) (sp : Sp) (gV : List V → List V → List V) (E : XK) (ta : TE) (tk : TA) : TE := fun σ H Q => ta σ H fun x H1 => ∃ a dx fs, x = .ref a ∧ H1 a = some (.ins C dx fs) ∧ fs.lookup m = none ∧ tk σ H1 fun zs H2 => zs.length = n ∧ sp (gV [x] zs) H2 Q E
/-- o.m(k = v, ..) -/
theorem pe_methK {pl : Sem Bool} {ks : List Str} {E : XK} {kws : List Keyword} {tk : TA} {g : List Value → List Value → List Value} {gV : List V → List V → List V} (he : PE X o ta) (c : Cls X.K C) (hm : Meth X.K C m f) (F : FnOk X.prog X.w X.K X.mg X.base CX k f fd ps sp) (hr : Room k X.A) (hb : KBn X.K fd ps 1 ks g gV) (hx : Passes CX X E) (hkw : PK X kws tk)
    (h1 : (backToKw pos (keywordEach kws X.env)).all (·.1.isSome) = true := by rfl) (h4 : (backToKw pos (keywordEach kws X.env)).filterMap (·.1) = ks := by rfl) (h2 : ((backTo pos (starEach [] X.env)).any (·.1) || (backToKw pos (keywordEach kws X.env)).any (·.1.isNone)) = false := by rfl)
    (h3 : eval (.Call (.Attribute o m apos) [] kws pos) X.env = (do let ov ← eval o X.env; standAt apos.atName; let (f, first) ← holding [ov] (getMethod ov m pl); callWith pos f first (backTo pos (starEach [] X.env)) (backToKw pos (keywordEach kws X.env))) := by rfl) :
    PE X (.Call (.Attribute o m apos) [] kws pos) (tMethK C m ks.length sp gV E ta tk) := by
  constructor
  intro pins s σ H Q I h
  refine PySem.W.methodCall_KW (pl := pl) (thn (he.run pins s σ H _ I h) fun u s1 w1 => ?_) h3
  obtain ⟨x, H1, I1, rx, a, dx, fs, rfl, ea, l, q⟩ := w1
  obtain rfl : u = .ref a := rx
  refine getmeth_ok I1 ea c hm l (PySem.W.callWith_KW0 (first := [.ref a]) (h₀ := X.base) I.ok.mod.kin hm.kp h1 (thn (hkw.run pos pins s1 σ H1 _ I1 q) fun us s2 w2 => ?_) h2)
  obtain ⟨zs, H2, I2, rz, l2, q2⟩ := w2
  rw [h4]
  exact ⟨I2.kIn, run_fnN (us := [.ref a]) (vs := [.ref a]) F hr hb hx I2 (.cons rfl .nil) rz rfl l2 q2⟩
end
end Xo

/-! d == e of dicts whose values are data: whatever comes of it. -/
namespace Gy
open PySem PySem.Spec PyProof.Rows L2 Xt
inductive HitB (F : V → V → Bool → Prop) (ls : List (Key × V)) : List (Key × V) → Bool → Prop
  | nil : HitB F ls [] true
  | miss {k : Key} {v : V} {r : List (Key × V)} : valV ls k = none → HitB F ls ((k, v) :: r) false
  | hit {k : Key} {v u : V} {r : List (Key × V)} {e b : Bool} : valV ls k = some u → F v u e → HitB F ls r b → HitB F ls ((k, v) :: r) (e && b)
theorem hitB_run {P : Program} {w : World} {A : Around} {s : Shared} {F : V → V → Bool → Prop} (ih : ∀ x y v u e, F x y e → RelV x v → RelV y u → SeqAt.EqP P w A s v u e) {ls : List (Key × V)} {vb : List (Key × Value)} (rb : KV ls vb) {ks : List (Key × V)} {r : Bool} (h : HitB F ls ks r) :
    ∀ {va : List (Key × Value)}, KV ks va → PySem.W.KeqHitsP P w A s vb va r := by
  induction h with
  | nil =>
    intro va ra
    cases ra
    exact .nil
  | @miss k v t n =>
    intro va ra
    cases ra with
    | @cons _ q _ qs h t =>
      obtain ⟨h1, h2⟩ := h
      obtain ⟨key, vv⟩ := q
      cases h1
      have rr : RelO none (valueAt vb k) := by rw [← n]; exact rb.val k
      exact .miss rr.none_of
  | @hit k v u t e b n f _ ihr =>
    intro va ra
    cases ra with
    | @cons _ q _ qs h t =>
      obtain ⟨h1, h2⟩ := h
      obtain ⟨key, vv⟩ := q
      cases h1
      have rr : RelO (some u) (valueAt vb k) := by rw [← n]; exact rb.val k
      obtain ⟨y, hy, ry⟩ := rr.some_of
      exact .hit hy (ih _ _ _ _ _ f h2 ry) (ihr t)
def FD (K : PySem.W.Frag) (H : Hp) : V → V → Bool → Prop := fun v u e => ∃ d1 d2, Dp K H v d1 ∧ Dp K H u d2 ∧ SeqAt.shaped d1 = true ∧ SeqAt.shaped d2 = true ∧ e = PyData.eqv d1 d2
def rEqDK (K : PySem.W.Frag) : R2 := fun x y H Q => ∃ a b ks ls r, x = .ref a ∧ y = .ref b ∧ H a = some (.dK ks) ∧ H b = some (.dK ls) ∧ (ks.length = ls.length → HitB (FD K H) ls ks r) ∧ Q (.bl (ks.length == ls.length && r)) H
theorem shaped_dep {d : PyData} (h : SeqAt.shaped d = true) : d.depth ≤ 64 := by
  unfold SeqAt.shaped at h
  rw [Bool.and_eq_true, decide_eq_true_eq] at h
  exact h.2
theorem op_eqDK {X : Cx} (hu : X.A.units + 65 < cLine) : OpR X (compareOp .Eq) (rEqDK X.K) := by
  intro pins s σ H x y v u Q I rx ry h
  obtain ⟨a, b, ks, ls, r, rfl, rfl, ha, hb, hit, q⟩ := h
  cases (show v = Value.ref a from rx)
  cases (show u = Value.ref b from ry)
  obtain ⟨_, ya, va, ra, da⟩ := (show ObjOk X.prog X.w H s.heap a (.dK ks) from I.hok a _ ha)
  obtain ⟨_, yb, vb, rb, db⟩ := (show ObjOk X.prog X.w H s.heap b (.dK ls) from I.hok b _ hb)
  have la : va.length = ks.length := ra.length.symm
  have lb : vb.length = ls.length := rb.length.symm
  show wpAny (model X.prog X.w) X.A (richCompare .Eq _ _) (EP X pins σ Q) X.xe s
  refine PySem.W.rcP_dicts (knd := mixKind X.prog X.w) (r := r) ya yb da db (by omega) (fun hl => hitB_run (fun x y v u e f r1 r2 => ?_) rb (hit (by omega)) ra) _ _ ?_
  · obtain ⟨d1, d2, h1, h2, s1, s2, rfl⟩ := f
    obtain ⟨as, e1⟩ := Dp.reads I d1 x v h1 r1
    obtain ⟨bs, e2⟩ := Dp.reads I d2 y u h2 r2
    have k := shaped_dep s1
    exact (SeqAt.eqAt_reads d1 d2 X.A.in1 s v u as bs e1 e2 (SeqAt.canLay_of_shaped s1) (SeqAt.canLay_of_shaped s2) (by show X.A.units + 1 + min d1.depth d2.depth < cLine; omega)).eqP
  · rw [la, lb]
    exact ⟨.bl _, H, I, rfl, q⟩
end Gy

/-! Dicts whose keys are pairs of texts: setdefault, pop of a key that is there, del. -/
namespace Xd
open PySem PySem.Spec PyProof.Rows L2 Gy Xt
section
variable {X : Cx}
theorem has_of {H : Hp} {kvs : List (List L2.Key × V)} {ys : List (List L2.Key × Addr × Value)} (rel : KT H kvs ys) {k : List L2.Key} {p : Addr × Value} (hp : atKey ys k = some p) : ∃ v, valV kvs k = some v ∧ RelV v p.2 := by
  have w := rel.val k
  rw [hp] at w
  cases ev : valV kvs k with
  | some v =>
    rw [ev] at w
    exact ⟨v, rfl, w⟩
  | none =>
    rw [ev] at w
    exact False.elim w
theorem no_of {H : Hp} {kvs : List (List L2.Key × V)} {ys : List (List L2.Key × Addr × Value)} (rel : KT H kvs ys) {k : List L2.Key} (hp : atKey ys k = none) : valV kvs k = none := by
  have w := rel.val k
  rw [hp] at w
  cases ev : valV kvs k with
  | none => rfl
  | some v =>
    rw [ev] at w
    exact False.elim w
theorem is_of {H : Hp} {kvs : List (List L2.Key × V)} {ys : List (List L2.Key × Addr × Value)} (rel : KT H kvs ys) {k : List L2.Key} {v : V} (e : valV kvs k = some v) : ∃ p, atKey ys k = some p ∧ RelV v p.2 := by
  cases h : atKey ys k with
  | some p =>
    obtain ⟨u, e2, r⟩ := has_of rel h
    rw [e] at e2
    cases e2
    exact ⟨p, rfl, r⟩
  | none =>
    rw [no_of rel h] at e
    cases e
/-- d.setdefault(k, x) -/
def rSetd : V → List V → Hp → VK → Prop := fun x xs H Q => ∃ (a b : Addr) (kvs : List (List L2.Key × V)) (k : List L2.Key) (y : V), x = .ref a ∧ xs = [.ref b, y] ∧ H a = some (.dT kvs) ∧ H b = some (.tup (k.map kV)) ∧ kvs.length < sizeLine ∧
  (∀ v, valV kvs k = some v → Q v H) ∧ (valV kvs k = none → Q y (upd H a (.dT (putK kvs k y))))
theorem mt_setd (hu : X.A.units + 1 < cLine) : MtR X "dict.setdefault" rSetd := by
  intro pn s sl G x ys v us Q inv rx rys h
  obtain ⟨a, b, kvs, k, y, rfl, rfl, ha, hb, lt, q1, q2⟩ := h
  cases rx
  obtain ⟨w1, w2, rfl, y1, y2⟩ := vals2 rys
  cases y1
  obtain ⟨z, nsys, zs, rel, dd⟩ := dt_of inv.hok ha
  refine call_setdefault_heap (knd := tupleKind (mixKind X.prog X.w)) (k := k) (tupleKind_room_in1 hu) (key_of inv.hok hb) nsys dd (fun p hp => ?_) (fun hn h' dd' sb => ?_) (by rw [← Paired.length rel]; exact z)
  · obtain ⟨v0, ev, rv⟩ := has_of rel hp
    exact ⟨v0, G, inv.tok _, rv, q1 v0 ev⟩
  · obtain ⟨o, es, ep, g1, g2, g3, g4, _, g5⟩ := dd'
    have ll := length_putK kvs k y
    refine ⟨y, upd G a (.dT (putK kvs k y)), d_write inv (by rw [ha]; exact True.intro) sb ⟨o, g1⟩ ⟨by omega, nsys, _, (rel.put k hb y2).keeps fun c ws ec => ?_, o, es, ep, g1, g2, g3, g4, g5⟩, y2, q2 (no_of rel hn)⟩
    rw [upd_ne (ne_of ec ha (fun w => nomatch w))]
    exact ec
/-- d.pop(k), k there -/
def rPop1 : V → List V → Hp → VK → Prop := fun x xs H Q => ∃ (a b : Addr) (kvs : List (List L2.Key × V)) (k : List L2.Key) (v : V), x = .ref a ∧ xs = [.ref b] ∧ H a = some (.dT kvs) ∧ H b = some (.tup (k.map kV)) ∧ valV kvs k = some v ∧ Q v (upd H a (.dT (dropK kvs k)))
theorem mt_pop1 (hu : X.A.units + 1 < cLine) : MtR X "dict.pop" rPop1 := by
  intro pn s sl G x ys v us Q inv rx rys h
  obtain ⟨a, b, kvs, k, v0, rfl, rfl, ha, hb, ev, q1⟩ := h
  cases rx
  obtain ⟨w1, rfl, y1⟩ := vals1 rys
  cases y1
  obtain ⟨z, nsys, zs, rel, dd⟩ := dt_of inv.hok ha
  obtain ⟨p, hp, rv⟩ := is_of rel ev
  refine call_pop_heap (knd := tupleKind (mixKind X.prog X.w)) (k := k) (.inl rfl) (PySem.F.args_dict_pop_2 _ _) (tupleKind_room_in1 hu) (key_of inv.hok hb) nsys dd hp (fun h' dd' sb => ?_) (by rw [← Paired.length rel]; exact z)
  obtain ⟨o, es, ep, g1, g2, g3, g4, _, g5⟩ := dd'
  refine ⟨v0, _, d_write inv (ob := .dT (dropK kvs k)) (by rw [ha]; exact True.intro) sb ⟨o, g1⟩ ⟨Nat.le_trans (dropK_le kvs k) z, nsys, _, (DX.KT_drop k rel).keeps fun c ws ec => ?_, o, es, ep, g1, g2, g3, g4, g5⟩, rv, q1⟩
  rw [upd_ne (ne_of ec ha (fun w => nomatch w))]
  exact ec
/-- del d[k] -/
def tDelT (to ti : TE) : TS := fun D σ H => to σ H fun x H1 => ti σ H1 fun y H2 => ∃ (a b : Addr) (kvs : List (List L2.Key × V)) (k : List L2.Key) (v : V), x = .ref a ∧ y = .ref b ∧ H2 a = some (.dT kvs) ∧ H2 b = some (.tup (k.map kV)) ∧ valV kvs k = some v ∧ D.nx σ (upd H2 a (.dT (dropK kvs k)))
theorem ps_delT {oe ie : Expr} {to ti : TE} {p1 p2 : Pos} (hu : X.A.units + 1 < cLine) (ho : PE X oe to) (hi : PE X ie ti) : PS X (.Delete [.Subscript oe ie p1] p2) (tDelT to ti) := by
  constructor
  intro pn z sl G en inv rd
  refine wpAny_Delete (wpAny_deleteEach_cons (wpAny_delete_Subscript (thn (ho.run pn z sl G _ inv rd) fun u z1 ⟨x, G1, inv1, rx, r1⟩ => ?_)))
  refine thn (hi.run pn z1 sl G1 _ inv1 r1) fun w z2 ⟨y, G2, inv2, ry, r2⟩ => ?_
  obtain ⟨a, b, kvs, k, v, rfl, rfl, ha, hb, ev, q⟩ := r2
  cases rx
  cases ry
  obtain ⟨z0, nsys, ys, rel, dd⟩ := dt_of inv2.hok ha
  obtain ⟨p, hp, rv⟩ := is_of rel ev
  refine wpAny_delItem_heap (knd := tupleKind (mixKind X.prog X.w)) (k := k) (tupleKind_room_in1 hu) (key_of inv2.hok hb) nsys dd hp (fun h' dd' sb => wpAny_deleteEach_nil ⟨sl, _, ?_, q⟩) (by rw [← Paired.length rel]; exact z0)
  obtain ⟨o, es, ep, g1, g2, g3, g4, _, g5⟩ := dd'
  refine d_write inv2 (ob := .dT (dropK kvs k)) (by rw [ha]; exact True.intro) sb ⟨o, g1⟩ ⟨Nat.le_trans (dropK_le kvs k) z0, nsys, _, (DX.KT_drop k rel).keeps fun c ws ec => ?_, o, es, ep, g1, g2, g3, g4, g5⟩
  rw [upd_ne (ne_of ec ha (fun w => nomatch w))]
  exact ec
end
end Xd

/-! sorted of a dict whose keys are pairs of texts. -/
namespace Xd
open PySem PySem.Spec PyProof.Rows L2 Gy Xt Xp Srt SrtO
/-- a pair of texts that is a key -/
def Kp (H : Hp) (v : V) (p : Str × Str) : Prop := ∃ t, v = .ref t ∧ H t = some (.tup [.str p.1, .str p.2])
def Kps (H : Hp) : List V → List (Str × Str) → Prop := Paired (Kp H)
def kq (p : Str × Str) : List L2.Key := [.inr p.1, .inr p.2]
theorem Kp.same {H H' : Hp} {v : V} {p : Str × Str} (h : Kp H v p) (s : Same H H') : Kp H' v p := by
  obtain ⟨t, e, a⟩ := h
  exact ⟨t, e, s _ _ a⟩
theorem Kps.same {H H' : Hp} {vs : List V} {ps : List (Str × Str)} (h : Kps H vs ps) (s : Same H H') : Kps H' vs ps := by
  unfold Kps at h ⊢
  induction h with
  | nil => exact .nil
  | cons a _ ih => exact .cons (a.same s) ih
theorem Kps.len {H : Hp} {vs : List V} {ps : List (Str × Str)} (h : Kps H vs ps) : vs.length = ps.length := Paired.length h
def kpOf (H : Hp) : V → Str × Str
  | .ref t => match H t with
    | some (.tup [.str a, .str b]) => (a, b)
    | _ => ("", "")
  | _ => ("", "")
theorem Kp.of {H : Hp} {v : V} {p : Str × Str} (h : Kp H v p) : kpOf H v = p := by
  obtain ⟨t, rfl, e⟩ := h
  show (match H t with
    | some (.tup [.str a, .str b]) => (a, b)
    | _ => ("", "")) = p
  rw [e]
theorem Kps.map {H : Hp} {vs : List V} {ps : List (Str × Str)} (h : Kps H vs ps) : ps = vs.map (kpOf H) := by
  unfold Kps at h
  induction h with
  | nil => rfl
  | cons a _ ih => rw [List.map_cons, a.of, ← ih]
theorem Kps.mem {H : Hp} {vs : List V} {ps : List (Str × Str)} (h : Kps H vs ps) : ∀ v ∈ vs, Kp H v (kpOf H v) := by
  unfold Kps at h
  induction h with
  | nil => exact fun _ z => nomatch z
  | cons a _ ih =>
    intro v hv
    rcases List.mem_cons.mp hv with rfl | hv
    · rw [a.of]
      exact a
    · exact ih v hv
theorem Kps.of {H : Hp} : ∀ {vs : List V}, (∀ v ∈ vs, Kp H v (kpOf H v)) → Kps H vs (vs.map (kpOf H))
  | [], _ => .nil
  | v :: vs, h => .cons (h v List.mem_cons_self) (Kps.of fun u hu => h u (List.mem_cons_of_mem _ hu))
theorem keys_kps {H : Hp} {g : Str × Str → V} : ∀ {ks : List (Str × Str)} {bs : List Addr}, IsKeys H (ks.map fun k => (kq k, g k)) bs → Kps H (bs.map V.ref) ks
  | [], _, h => by
    cases h
    exact .nil
  | k :: ks, _, h => by
    cases h with
    | cons a t => exact .cons ⟨_, rfl, a⟩ (keys_kps t)
def rSortD : List V → Hp → VK → Prop := fun vs H Q => ∃ (a : Addr) (ks : List (Str × Str)) (g : Str × Str → V), vs = [.ref a] ∧ H a = some (.dT (ks.map fun k => (kq k, g k))) ∧
  ∀ (ys : List V) (qs : List (Str × Str)) (p : Addr), qs.Perm ks → qs.Pairwise leQ → Kps H ys qs → H p = none → Q (.ref p) (upd H p (.lst ys))
section
variable {X : Cx}
theorem cr_sortD (calm : X.calm = true) : CallR X (.builtin "sorted") rSortD := by
  intro pn s sl G vs us Q inv rv h
  obtain ⟨a, ks, g, rfl, ha, q⟩ := h
  obtain ⟨u, rfl, ru⟩ := vals1 rv
  cases ru
  obtain ⟨z, nsys, zs, rel, o, es, ep, ho, hx, hdt, he, _, hn⟩ := dt_of inv.hok ha
  have l1 : es.size = zs.length := size_of_entries he
  have l2 : zs.length ≤ sizeLine := by rw [← Paired.length rel]; exact z
  refine Calls.call_function_entry kind_sorted plain_sorted entry_sorted (args_sorted1 _) ?_
  unfold Builtin.«sorted»
  refine wpAny_bind (m := checkCount "sorted" 1 1 _) (wpAny_pure ?_)
  refine wpAny_bind (PySem.W.kdu_collect (A := X.A.in1) (kdl_raw nsys hx hdt) (inv.ok.hd calm) ho (by omega) fun h' tk acc keep items => ?_)
  have ea : acc.toList = zs.map fun x => Value.ref x.2.1 := by
    apply List.ext_getElem?
    intro j
    rw [List.getElem?_map]
    cases hj : acc.toList[j]? with
    | none =>
      have k1 := List.getElem?_eq_none_iff.mp hj
      have k2 : acc.toList.length = zs.length := by rw [Array.length_toList, items.1]; exact l1
      rw [List.getElem?_eq_none (by omega)]
      rfl
    | some v =>
      obtain ⟨en, hen, hv⟩ := items.2 j v (by rw [← Array.getElem?_toList]; exact hj)
      have qe := entry_at he j
      rw [hen] at qe
      cases hb : zs[j]? with
      | none =>
        rw [hb] at qe
        cases qe
      | some b =>
        rw [hb] at qe
        injection qe with qe
        rw [hv, qe]
        rfl
  have kp := keys_kps (isKeys_of rel)
  have inv1 : Inv X pn sl G { s with heap := h', toks := tk } := inv.kept keep
  have eb : acc.toList = (zs.map fun x => x.2.1).map Value.ref := by
    rw [ea, List.map_map]
    rfl
  have lb : (zs.map fun x => x.2.1).length = zs.length := List.length_map ..
  generalize zs.map (fun x => x.2.1) = bs at kp eb lb
  have bk : ∀ cs : List Addr, (cs.map Value.ref).map backV = cs.map V.ref := fun cs => by
    rw [List.map_map]
    rfl
  have hm := kp.mem
  have lz : acc.toList.length ≤ sizeLine := by rw [eb, List.length_map, lb]; exact l2
  refine wpAny_bind (wpAny_newList ?_ lz)
  have oL : (h'.push (seqObj "list" acc.toList.toArray 0)).get? h'.objs.size = some (seqObj "list" acc.toList.toArray 0) := Heap.get?_push_size _ rfl
  show wpAny _ _ _ _ _ { s with heap := h'.push (seqObj "list" acc.toList.toArray 0), toks := tk }
  have isp : ∀ v ∈ acc.toList, IsPr (h'.push (seqObj "list" acc.toList.toArray 0)) v (kpOf G (backV v)).1 (kpOf G (backV v)).2 := fun v hv => by
    rw [eb] at hv
    obtain ⟨c, hc, rfl⟩ := List.mem_map.mp hv
    obtain ⟨t, et, gt⟩ := hm (.ref c) (List.mem_map_of_mem hc)
    cases et
    obtain ⟨_, its, r2, oo, g1, g2, n, g3⟩ := (show ObjOk X.prog X.w G h' c (.tup [.str (kpOf G (V.ref c)).1, .str (kpOf G (V.ref c)).2]) from inv1.hok c _ gt)
    obtain ⟨u1, u2, rfl, ri, rj⟩ := vals2 r2
    obtain ⟨t1, rfl⟩ := ri
    obtain ⟨t2, rfl⟩ := rj
    exact ⟨c, oo, t1, t2, n, rfl, Heap.get?_push_of_some _ g1, g2, g3⟩
  refine wpAny_bind (wpAny_holding (wpAny_call_entry slot_list_sort ⟨_, oL, rfl⟩ entry_list_sort (list_sort_ord (s := { s with heap := h'.push (seqObj "list" acc.toList.toArray 0), toks := tk }) (lexS_swo fun v => kpOf G (backV v)) oL lz (fun h2 => pr_sortable (by omega) isp fun oo eo c => by
    rw [oL] at eo
    cases eo
    exact absurd (Value.type.inj c) (by decide)) fun out s1 s2 => ⟨_, rfl, ?_⟩) (args_list_sort _)))
  obtain ⟨e', he'⟩ := sortedHeap_at (vs := acc.toList) (out := out.toArray) oL
  have rf : ∀ v ∈ out, ∃ c, v = Value.ref c := fun v hv => by
    have hv := s2.perm.mem_iff.mp hv
    rw [eb] at hv
    obtain ⟨c, _, rfl⟩ := List.mem_map.mp hv
    exact ⟨c, rfl⟩
  have pm : (out.map backV).Perm (bs.map V.ref) := by
    have w := s2.perm.map backV
    rw [eb, bk] at w
    exact w
  have ky : Kps G (out.map backV) ((out.map backV).map (kpOf G)) := Kps.of fun v hv => hm v (pm.mem_iff.mp hv)
  have pk : ((out.map backV).map (kpOf G)).Perm ks := by
    rw [kp.map]
    exact pm.map _
  refine wpAny_pure ⟨_, rfl, .ref h'.objs.size, upd G h'.objs.size (.lst (out.map backV)), inv1.laid (t' := tk) (fun b w e => ?_) (Nat.le_refl _) (show ObjOk X.prog X.w _ _ _ (.lst (out.map backV)) from ⟨?_, out, e', vals_back rf, he'⟩), rfl, q _ _ _ pk ?_ ky (inv1.hok.fresh (Nat.le_refl _))⟩
  · have hb : b < h'.objs.size := Heap.lt_size e
    rw [sortedHeap_old (Nat.ne_of_lt hb) (by rw [size_push']; exact Nat.lt_succ_of_lt hb)]
    exact Heap.get?_push_of_some _ e
  · rw [pm.length_eq, List.length_map, lb]
    exact l2
  · rw [List.map_map]
    exact List.pairwise_map.mpr s1
end
end Xd

/-! repr of a list of pairs of texts that are keys. -/
namespace Xd
open PySem PySem.Spec PyProof.Rows L2 Gy Xt Xp
section
variable {X : Cx} {pins : List (Addr × Obj)} {σ : L2.St} {H : Hp} {s : Shared}
theorem kp_shows (I : Inv X pins σ H s) {v : V} {p : Str × Str} {u : Value} (h : Kp H v p) (r : RelV v u) (hs : (prD p).showable = true) (hz : (prD p).shown.length ≤ sizeLine) :
    ∃ as bs, Reads s.heap u (prD p) as ∧ ReadAtMost s.heap (prD p).depth bs ∧ ReprK X.prog X.w bs s.heap (prD p).depth u (prD p).shown := by
  obtain ⟨t, rfl, ht⟩ := h
  cases r
  have hz' : (tupleText (PyData.shownAll [.str p.1, .str p.2])).length ≤ sizeLine := by
    simpa only [prD, PyData.shown] using hz
  obtain ⟨its, rv, ⟨o, ho, hc, n, hd⟩, _⟩ := I.tuple (.inl (.inl ht))
  obtain ⟨as, bs, hr, hb, hk⟩ := Dns.shows I (ds := [.str p.1, .str p.2]) (.cons (.str _) (.cons (.str _) .nil)) rv (by simpa [prD, PyData.showable] using hs) (fun t ht => Nat.le_trans (tupleText_mem_le ht) hz')
  have q : Reads s.heap (.ref t) (.tuple [.str p.1, .str p.2]) _ := .tuple ho hc hd hr
  have far : t ∉ bs := not_mem_of_deeper q (by simp only [PyData.depth]; omega) hb
  refine ⟨_, t :: bs, q, ReadAtMost.cons q (by simp only [PyData.depth, prD]; omega) hb, ?_⟩
  simp only [prD, PyData.depth, PyData.shown]
  exact ReprK.tuple ho hc hd far hk
theorem kps_shows (I : Inv X pins σ H s) : ∀ {vs : List V} {ps : List (Str × Str)} {us : List Value}, Kps H vs ps → Vals vs us → PyData.showableAll (ps.map prD) = true → (∀ t ∈ PyData.shownAll (ps.map prD), t.length ≤ sizeLine) →
    ∃ as bs, ReadsAll s.heap us (ps.map prD) as ∧ ReadAtMost s.heap (PyData.depthAll (ps.map prD)) bs ∧ ReprAllK X.prog X.w bs s.heap (PyData.depthAll (ps.map prD)) us (PyData.shownAll (ps.map prD))
  | [], _, _, h, r, _, _ => by
    cases h
    cases r
    exact ⟨[], [], .nil, (fun _ h => nomatch h), .nil⟩
  | v :: vs, _, _, h, r, sh, len => by
    cases h with
    | @cons _ p _ ps hp ht =>
    cases r with
    | cons r rs =>
    have sh2 : (prD p).showable = true ∧ PyData.showableAll (ps.map prD) = true := by simpa only [List.map_cons, PyData.showableAll, Bool.and_eq_true] using sh
    obtain ⟨as, b1, rd, m1, k1⟩ := kp_shows I hp r sh2.1 (len _ List.mem_cons_self)
    obtain ⟨as2, b2, rd2, m2, k2⟩ := kps_shows I ht rs sh2.2 fun t ht => len t (List.mem_cons_of_mem _ ht)
    have l1 : (prD p).depth ≤ PyData.depthAll (prD p :: ps.map prD) := Nat.le_max_left _ _
    have l2 : PyData.depthAll (ps.map prD) ≤ PyData.depthAll (prD p :: ps.map prD) := Nat.le_max_right _ _
    refine ⟨as ++ as2, b1 ++ b2, .cons rd rd2, (m1.mono l1).append (m2.mono l2), ?_⟩
    exact .cons ((k1.more fun b hb => List.mem_append_left _ hb).level_le l1) (k2.more_le (fun b hb => List.mem_append_right _ hb) l2)
end
def rReprP : List V → Hp → VK → Prop := fun xs H Q => ∃ (a : Addr) (ys : List V) (ps : List (Str × Str)), xs = [.ref a] ∧ H a = some (.lst ys) ∧ Kps H ys ps ∧ (PyData.list (ps.map prD)).showable = true ∧ (PyData.list (ps.map prD)).shown.length ≤ sizeLine ∧ Q (.str (PyData.list (ps.map prD)).shown) H
theorem deep_prs : ∀ ps : List (Str × Str), PyData.depthAll (ps.map prD) ≤ 1
  | [] => Nat.zero_le _
  | p :: ps => by
    show max 1 (PyData.depthAll (ps.map prD)) ≤ 1
    have := deep_prs ps
    omega
theorem repr_kps {X : Cx} (hg : X.A.guards = some []) (hu : X.A.units + 70 < cLine) : CallR X (.builtin "repr") rReprP := by
  intro pins s σ H xs us Q I r h
  obtain ⟨a, ys, ps, rfl, h, hk, sh, len, q⟩ := h
  obtain ⟨u, rfl, ru⟩ := vals1 r
  cases ru
  have fin : ∀ (h' : Heap) (x : Tok) (tk : Nat), (∀ b o, s.heap.get? b = some o → h'.get? b = some o) → ∃ y H', Inv X pins σ H' { s with heap := h', toks := tk } ∧ RelV y (.str (PyData.list (ps.map prD)).shown x) ∧ Q y H' := fun h' x tk hk => ⟨.str _, H, I.kept hk, ⟨x, rfl⟩, q⟩
  have len' : (listText (PyData.shownAll (ps.map prD))).length ≤ sizeLine := by simpa only [PyData.shown] using len
  obtain ⟨its, rv, ⟨o, n, g1, g2, _, g3⟩, _⟩ := I.list (SqL.of h)
  obtain ⟨as, bs, rd, at_, sw⟩ := kps_shows I hk rv (by simpa [PyData.showable] using sh) fun t ht => Nat.le_trans (listText_mem_le ht) len'
  have dp := deep_prs ps
  have out : a ∉ bs := not_mem_of_deeper (.list g1 g2 g3 rd) (by simp only [PyData.depth]; omega) at_
  refine call_repr_slot (T := "list") (idr := "list.__repr__") (by omega) ⟨o, g1, g2⟩ F.slot_list_repr.toG ?_
  match its, rv, g3, rd, sw with
  | [], rv, g3, rd, _ =>
    cases hps : ps.map prD with
    | nil =>
      rw [hps] at q
      exact call_list_repr_empty ⟨o, g1, g2⟩ g1 g3 ⟨_, _, rfl, .str "[]", H, I.tok _, ⟨_, rfl⟩, by simpa only [PyData.shown, PyData.shownAll, listText_nil] using q⟩
    | cons x xs =>
      rw [hps] at rd
      cases rd
  | x :: rest, _, g3, _, sw =>
    refine call_list_reprK g1 g2 g3 out (by simpa using sw.length_eq) (fun i y e => sw.item i y (by simpa using e)) (g := []) hg (fun b _ => Clear.nil b) (d := PyData.depthAll (ps.map prD)) ?_ (fun _ _ e => e) (fun h' u tk hk => ⟨_, _, rfl, fin h' u tk hk⟩) len'
    show X.A.units + 1 + (PyData.depthAll (ps.map prD) + 1) < cLine
    omega
end Xd

/-! {k: v for ..}, the keys pairs of texts. -/
namespace Xd
open PySem PySem.Spec PyProof.Rows L2 Gy Xt Xp
/-- a new pair of a key and a value is put into the dict that is being made -/
theorem put_dT {X : Cx} {pn : List (Addr × Obj)} {sl : L2.St} {G : Hp} {z : Shared} {E : Value → Shared → Prop} {D b : Addr} {kvs : List (List L2.Key × V)} {k : List L2.Key} {v : V} {r : Value} {Q : Unit → Shared → Prop} (hu : X.A.units + 1 < cLine) (inv : Inv X pn sl G z)
    (gD : G D = some (.dT kvs)) (lt : kvs.length < sizeLine) (gb : G b = some (.tup (k.map kV))) (rv : RelV v r) (go : ∀ z2, Inv X pn sl (upd G D (.dT (putK kvs k v))) z2 → Q () z2) : wpAny (model X.prog X.w) X.A (dictSet D (.ref b) r) Q E z := by
  obtain ⟨le, nsys, ys, rel, dd⟩ := dt_of inv.hok gD
  have ll := length_putK kvs k v
  refine wpAny_dictSet_heap (knd := tupleKind (mixKind X.prog X.w)) (k := k) (hsz := by rw [← Paired.length rel]; exact le) (show X.A.units < cLine by omega) (key_of inv.hok gb) dd fun h' dd' sb => go _ ?_
  obtain ⟨o, es, ep, g1, g2, g3, g4, _, g5⟩ := dd'
  refine d_write inv (ob := .dT (putK kvs k v)) (by rw [gD]; exact True.intro) sb ⟨o, g1⟩ ⟨by omega, nsys, _, (rel.put k gb rv).keeps fun c ws ec => ?_, o, es, ep, g1, g2, g3, g4, g5⟩
  rw [upd_ne (ne_of ec gD (fun w => nomatch w))]
  exact ec
section
variable {X : Cx}
/-- {k: v for x in it if ..}, D the new dict, its keys tuples of texts -/
def tDcT (jt : TI) (gt : TG) (tst : TT) (rk rv : TE) (is : List Nat) : TE := fun sl G Q => jt sl G fun J G1 => ∀ D, G1 D = none → ∃ W : Nat → Nat → Hp → Prop, (∃ m, W 0 m (upd G1 D (.dT []))) ∧ ∀ i m G2, W i m G2 →
  (J.stop i G2 ∧ Q (.ref D) G2) ∨ (J.go i G2 ∧ ∃ Nx : Hp → Prop, (∀ G3, Nx G3 → ∃ m', m' < m ∧ W (i + 1) m' G3) ∧ ∀ x G3, J.yld i G2 x G3 → gt x (wipe sl is) G3 fun sl2 G4 => wipe sl2 is = wipe sl is ∧ tst sl2 G4 fun c G5 =>
    if c = true then rk sl2 G5 fun y G6 => rv sl2 G6 fun w G7 => ∃ kvs k b, y = .ref b ∧ G7 b = some (.tup (k.map kV)) ∧ G7 D = some (.dT kvs) ∧ kvs.length < sizeLine ∧ Nx (upd G7 D (.dT (putK kvs k w))) else Nx G5)
theorem dcT_core {pn : List (Addr × Obj)} {z : Shared} {sl : L2.St} {G : Hp} {Q : VK} {ke ve tge ite : Expr} {fs : List Expr} {sco : Scope} {ow : List (Str × Nat)} {p1 p2 : Pos} {jt : TI} {gt : TG} {tst : TT} {rk rv : TE} {us : Option (Value → Sem Unit)} {Qf : Value → Shared → Prop}
    (calm : X.calm = true) (hu : X.A.units + 1 < cLine) (nd : X.N.Nodup) (inv : Inv X pn sl G z) (pit : PI X tge ite jt) (bk : BlkOk X.N X.env.scope sco ow)
    (q1 : ∀ (z : Shared) (G : Hp) (C : Addr) (cs : List (Str × Addr)) (fp : List Addr), PG (X.blk z G sco (compEnvC sco cs C X.env) fp) tge gt) (q2 : ∀ (z : Shared) (G : Hp) (C : Addr) (cs : List (Str × Addr)) (fp : List Addr), PTs (X.blk z G sco (compEnvC sco cs C X.env) fp) fs tst)
    (q3 : ∀ (z : Shared) (G : Hp) (C : Addr) (cs : List (Str × Addr)) (fp : List Addr), PE (X.blk z G sco (compEnvC sco cs C X.env) fp) ke rk) (q4 : ∀ (z : Shared) (G : Hp) (C : Addr) (cs : List (Str × Addr)) (fp : List Addr), PE (X.blk z G sco (compEnvC sco cs C X.env) fp) ve rv)
    (nf : ∀ u, foldedSetIterable ite X.env u = pure u) (rd : tDcT jt gt tst rk rv (ow.map (·.2)) sl G Q)
    (fin : ∀ D C y m G2, Inv X pn sl G2 y → Q (.ref D) G2 → y.heap.Ns C m → FpOk X pn G2 C → compPost (model X.prog X.w) X.A X.xe us Qf (.ref D) C (.ok .next) y) :
    wpAny (model X.prog X.w) X.A (comprehension (.DictComp ke ve [⟨tge, ite, fs, 0⟩] sco p1) sco X.env p2 newDict false (eval ite X.env) us) Qf X.xe z := by
  have free : ∀ y ∈ sco.names, y.2 = .free → ∃ c, X.env.cells.lookup y.1 = some c := fun y hy e => (bk.free y hy e).elim (fun w => inv.ok.has _ (.inl w)) fun w => inv.ok.has _ (.inr w)
  refine wpAny_comprehension_free (use := us) rfl nf (closure_ok free) bk.kind (fun y hy e => by rw [bk.uniq y hy, e]) (thn (pit.run pn z sl G _ inv rd) fun xv z1 hx => thn hx fun iv z2 h2 => ?_)
  obtain ⟨it, fp, tn, J, G2, rfl, inv2, T, at2, ok2, rest⟩ := h2
  refine wpAny_newObj_type (newEnv_comp ?_)
  have nD : G2 z2.heap.objs.size = none := inv2.hok.fresh (Nat.le_refl _)
  obtain ⟨W, ⟨m0, w0⟩, turn⟩ := rest _ nD
  have inv3 : Inv X pn sl (upd G2 z2.heap.objs.size (.dT [])) { z2 with heap := z2.heap.push { cls := .type "dict", data := .dict #[] } } :=
    inv2.laid (t' := z2.toks) (fun b o e => Heap.get?_push_of_some _ e) (Nat.le_refl _) (dt_empty z2.heap inv2.big)
  have below : ∀ b ∈ fp, b < z2.heap.objs.size := fun b hb => (T.obj _ _ at2 b hb).elim fun o e => Heap.lt_size e.1
  have ok3 : ∀ b ∈ fp, FpOk X pn (upd G2 z2.heap.objs.size (.dT [])) b ∧ b < (z2.heap.push { cls := .type "dict", data := .dict #[] }).objs.size := fun b hb => by
    have lt := below b hb
    refine ⟨⟨?_, (ok2 b hb).2⟩, by rw [Heap.size_push]; exact Nat.lt_succ_of_lt lt⟩
    rw [upd_ne (Nat.ne_of_lt lt)]
    exact (ok2 b hb).1
  have at3 : tn 0 (z2.heap.push { cls := .type "dict", data := .dict #[] }) := T.keep _ _ _ at2 fun b _ o e => Heap.get?_push_of_some _ e
  generalize eD : z2.heap.objs.size = D at *
  generalize upd G2 D (.dT []) = G3 at *
  obtain ⟨z3, ez3⟩ : ∃ z3 : Shared, z3 = { z2 with heap := z2.heap.push { cls := .type "dict", data := .dict #[] } } := ⟨_, rfl⟩
  have hz3 : z2.heap.push { cls := .type "dict", data := .dict #[] } = z3.heap := by rw [ez3]
  rw [← ez3] at inv3
  rw [hz3] at ok3 at3
  have start := block_start inv3 bk nd ok3
  have r1 := q1 z3 G3 z3.heap.objs.size (cellsFrom (z3.heap.objs.size + 1) sco.names (cloFrom X.env.cells sco.names [])) fp
  have r2 := q2 z3 G3 z3.heap.objs.size (cellsFrom (z3.heap.objs.size + 1) sco.names (cloFrom X.env.cells sco.names [])) fp
  have r3 := q3 z3 G3 z3.heap.objs.size (cellsFrom (z3.heap.objs.size + 1) sco.names (cloFrom X.env.cells sco.names [])) fp
  have r4 := q4 z3 G3 z3.heap.objs.size (cellsFrom (z3.heap.objs.size + 1) sco.names (cloFrom X.env.cells sco.names [])) fp
  show codeAny _ _ (.compStart (.DictComp ke ve [⟨tge, ite, fs, 0⟩] sco p1) 0 (.ref it) _ _) _ _
  rw [← ez3]
  show codeAny _ _ (.compStart (.DictComp ke ve [⟨tge, ite, fs, 0⟩] sco p1) 0 (.ref it) (.ref D) (compEnvC sco (cellsFrom (z3.heap.objs.size + 1) sco.names (cloFrom X.env.cells sco.names [])) z3.heap.objs.size X.env)) (compPost (model X.prog X.w) X.A X.xe us Qf (.ref D) z3.heap.objs.size) { z3 with heap := pushCells (z3.heap.push { cls := .type "dict", data := .dict #[] }) sco.names }
  have none3 : ∀ b ∈ fp, G3 b = none := fun b hb => (ok3 b hb).1.1
  generalize ece : compEnvC sco (cellsFrom (z3.heap.objs.size + 1) sco.names (cloFrom X.env.cells sco.names [])) z3.heap.objs.size X.env = ce at start r1 r2 r3 r4 ⊢
  have lce : ce.locals = z3.heap.objs.size := by rw [← ece]; rfl
  generalize ez4 : ({ z3 with heap := pushCells (z3.heap.push { cls := .type "dict", data := .dict #[] }) sco.names } : Shared) = z4 at start ⊢
  have at4 : tn 0 z4.heap := T.keep _ _ _ at3 fun b _ o e => by rw [← ez4]; exact pushCells_keeps _ _ _ _ (Heap.get?_push_of_some _ e)
  have stay : ∀ {sl' : L2.St} {G' : Hp} {y : Shared}, Inv (X.blk z3 G3 sco ce fp) [] sl' G' y → (∀ b ∈ fp, G' b = none) → ∀ b ∈ fp, FpOk (X.blk z3 G3 sco ce fp) [] G' b := fun {sl' G' y} j hn b hb =>
    ⟨hn b hb, (j.ok.exf b hb).1, j.ok.exfs b hb, .inl hb, fun x c e => (j.ok.exf b hb).2 x c e, fun p hp => absurd (show p ∈ ([] : List (Addr × Obj)) ++ [] from hp) (by simp)⟩
  refine (fun loop => codeAny_compStart_dict loop (T.self X.A 0 _ _ _ at4 loop)) ?_
  refine compLoop_anyD (fun m y => ∃ i G4, Inv (X.blk z3 G3 sco ce fp) [] (wipe sl (ow.map (·.2))) G4 y ∧ tn i y.heap ∧ (∀ b ∈ fp, G4 b = none) ∧ W i m G4) ?_ m0 ⟨0, G3, start, at4, none3, w0⟩
  rintro m z5 ⟨i, G5, inv5, at5, none5, w5⟩
  rcases turn i m G5 w5 with ⟨stop, dn⟩ | ⟨go, Nx, less, step⟩
  · refine thnF (T.done (X.blk z3 G3 sco ce fp) rfl rfl rfl calm i [] z5 _ G5 (fun _ _ => False) inv5 (stay inv5 none5) at5 stop) fun r z6 ⟨er, inv6⟩ => ?_
    subst er
    have inv7 : Inv X pn sl G5 z6 := inv3.call' (ch := fp) inv6.os inv6.base inv6.hok inv6.bare fun b hb => ⟨(ok3 b hb).1.2.2.2.1, (ok3 b hb).1.2.1, (ok3 b hb).1.2.2.2.2.1, (ok3 b hb).1.2.2.2.2.2⟩
    have nC : G5 ce.locals = none := inv6.free
    obtain ⟨ns, hns, _⟩ := inv6.loc
    have hns : z6.heap.Ns ce.locals ns := hns
    rw [lce] at nC hns
    exact fin D z3.heap.objs.size z6 ns G5 inv7 dn hns (inv3.fpOk (Nat.le_refl _) nC)
  · refine thnF (T.item (X.blk z3 G3 sco ce fp) rfl rfl rfl calm i [] z5 _ G5 (fun _ _ => False) inv5 (stay inv5 none5) at5 go) fun r z6 ⟨u, er, h6⟩ => ?_
    subst er
    refine thnF h6 fun _ z7 ⟨x, G7, inv7, rx, y7, at7, none7⟩ => ?_
    refine thnF (r1.run _ z7 _ G7 x u _ (inv7.pinned (stay inv7 none7) (T.obj _ _ at7)) rx (step x G7 y7)) fun _ z8 ⟨sl8, G8, inv8, ew8, d8⟩ => ?_
    refine thnF (r2.run _ z8 sl8 G8 _ inv8 d8) fun c z9 ⟨G9, inv9, d9⟩ => ?_
    have next : ∀ {y : Shared} {G' : Hp}, Inv (X.blk z3 G3 sco ce fp) ([] ++ pinsAt fp z7.heap) sl8 G' y → Nx G' → ∃ m', m' < m ∧ ∃ i G4, Inv (X.blk z3 G3 sco ce fp) [] (wipe sl (ow.map (·.2))) G4 y ∧ tn i y.heap ∧ (∀ b ∈ fp, G4 b = none) ∧ W i m' G4 := fun {y G'} j nx => by
      obtain ⟨m', lt, w'⟩ := less G' nx
      have pin : ∀ b ∈ fp, ∀ o, z7.heap.get? b = some o → y.heap.get? b = some o ∧ G' b = none := fun b hb o e => by
        have w := j.pin (b, o) (List.mem_append_right _ (List.mem_append_right _ (mem_pinsAt hb e)))
        exact ⟨w.1, w.2.1⟩
      refine ⟨m', lt, i + 1, G', (j.unpinned (pins := [])).weak (by rw [← ew8, wipe_length]) (fun l v e => ?_), T.keep _ _ _ at7 fun b hb o e => (pin b hb o e).1, fun b hb => ?_, w'⟩
      · rw [← ew8] at e
        exact (wipe_some e).1
      · obtain ⟨o, e, _⟩ := T.obj _ _ at7 b hb
        exact (pin b hb o e).2
    cases c with
    | false =>
      rw [if_neg Bool.false_ne_true] at d9
      rw [if_neg Bool.false_ne_true]
      exact next inv9 d9
    | true =>
      rw [if_pos rfl] at d9
      rw [if_pos rfl]
      refine thnF (r3.run _ z9 sl8 G9 _ inv9 d9) fun kv z10 ⟨yk, G10, inv10, rk10, d10⟩ => ?_
      refine thnF (r4.run _ z10 sl8 G10 _ inv10 d10) fun vv z11 ⟨yv, G11, inv11, rv11, kvs, k, b, ek, gb, gD, lt, nx⟩ => ?_
      subst ek
      cases rk10
      exact put_dT (X := X.blk z3 G3 sco ce fp) hu inv11 gD lt gb rv11 fun z12 inv12 => next inv12 nx
/-- as a value -/
theorem pe_dcT {ke ve tge ite : Expr} {fs : List Expr} {sco : Scope} {ow : List (Str × Nat)} {p1 : Pos} {jt : TI} {gt : TG} {tst : TT} {rk rv : TE} (calm : X.calm = true) (hu : X.A.units + 1 < cLine) (nd : X.N.Nodup) (pit : PI X tge ite jt) (bk : BlkOk X.N X.env.scope sco ow)
    (q1 : ∀ (z : Shared) (G : Hp) (C : Addr) (cs : List (Str × Addr)) (fp : List Addr), PG (X.blk z G sco (compEnvC sco cs C X.env) fp) tge gt) (q2 : ∀ (z : Shared) (G : Hp) (C : Addr) (cs : List (Str × Addr)) (fp : List Addr), PTs (X.blk z G sco (compEnvC sco cs C X.env) fp) fs tst)
    (q3 : ∀ (z : Shared) (G : Hp) (C : Addr) (cs : List (Str × Addr)) (fp : List Addr), PE (X.blk z G sco (compEnvC sco cs C X.env) fp) ke rk) (q4 : ∀ (z : Shared) (G : Hp) (C : Addr) (cs : List (Str × Addr)) (fp : List Addr), PE (X.blk z G sco (compEnvC sco cs C X.env) fp) ve rv)
    (nf : ∀ u, foldedSetIterable ite X.env u = pure u := by intro _; rfl) : PE X (.DictComp ke ve [⟨tge, ite, fs, 0⟩] sco p1) (tDcT jt gt tst rk rv (ow.map (·.2))) := by
  constructor
  intro pn z sl G Q inv rd
  rw [arm_eval_DictComp]
  refine dcT_core calm hu nd inv pit bk q1 q2 q3 q4 nf rd fun D C y m G2 j q hn f => ⟨m, hn, fun h2 sb => ⟨.ref D, G2, ?_, rfl, q⟩⟩
  exact j.turned (t' := y.toks) (fun b o hb e => (sb.2 b hb).trans e) f.1 f.2.1 f.2.2.2.1 f.2.2.2.2.1 f.2.2.2.2.2
end
/-- over any walk -/
theorem dcT_it {J : It} {n : Nat} {Gd : Hp → Prop} {Y : Nat → Hp → V → Hp → Prop} (w : Walk J n Gd Y) {gt : TG} {tst : TT} {rk rv : TE} {is : List Nat} {sl : L2.St} {G1 : Hp} {D : Addr} {Qd : Hp → Prop} (Pv : Nat → Hp → Prop) (h0 : Pv 0 (upd G1 D (.dT []))) (hG : ∀ i G2, i ≤ n → Pv i G2 → Gd G2)
    (hs : ∀ i x G2 G3, i < n → Pv i G2 → Y i G2 x G3 → gt x (wipe sl is) G3 fun sl2 G4 => wipe sl2 is = wipe sl is ∧ tst sl2 G4 fun c G5 =>
      if c = true then rk sl2 G5 fun y G6 => rv sl2 G6 fun u G7 => ∃ kvs k b, y = .ref b ∧ G7 b = some (.tup (k.map kV)) ∧ G7 D = some (.dT kvs) ∧ kvs.length < sizeLine ∧ Pv (i + 1) (upd G7 D (.dT (putK kvs k u))) else Pv (i + 1) G5) (hd : ∀ G2, Pv n G2 → Qd G2) :
    ∃ W : Nat → Nat → Hp → Prop, (∃ m, W 0 m (upd G1 D (.dT []))) ∧ ∀ i m G2, W i m G2 →
      (J.stop i G2 ∧ Qd G2) ∨ (J.go i G2 ∧ ∃ Nx : Hp → Prop, (∀ G3, Nx G3 → ∃ m', m' < m ∧ W (i + 1) m' G3) ∧ ∀ x G3, J.yld i G2 x G3 → gt x (wipe sl is) G3 fun sl2 G4 => wipe sl2 is = wipe sl is ∧ tst sl2 G4 fun c G5 =>
        if c = true then rk sl2 G5 fun y G6 => rv sl2 G6 fun u G7 => ∃ kvs k b, y = .ref b ∧ G7 b = some (.tup (k.map kV)) ∧ G7 D = some (.dT kvs) ∧ kvs.length < sizeLine ∧ Nx (upd G7 D (.dT (putK kvs k u))) else Nx G5) := by
  refine ⟨fun i m G2 => m = n - i ∧ i ≤ n ∧ Pv i G2, ⟨n, by simp, Nat.zero_le _, h0⟩, ?_⟩
  rintro i m G2 ⟨rfl, hi, pv⟩
  have gd := hG i G2 hi pv
  rcases Nat.lt_or_ge i n with lt | ge
  · exact .inr ⟨w.goes i G2 lt gd, Pv (i + 1), fun G3 pv2 => ⟨n - (i + 1), by omega, rfl, lt, pv2⟩, fun x G3 y => hs i x G2 G3 lt pv (w.yields i G2 x G3 lt gd y)⟩
  · obtain rfl : i = n := by omega
    exact .inl ⟨w.stops G2 gd, hd G2 pv⟩
end Xd

/-! == and != of dicts whose keys are pairs of texts. -/
namespace Xd
open PySem PySem.Spec PyProof.Rows L2 Gy Xt
section
variable {prog : Program} {w : World} {K : Type} [DecidableEq K] {knd : HeapKind prog w K} {A : Around} {E : Value → Shared → Prop} {s : Shared}
inductive HitsH {K : Type} [DecidableEq K] (prog : Program) (w : World) (A : Around) (s : Shared) (kb : List (K × Addr × Value)) : List (K × Addr × Value) → Bool → Prop
  | nil : HitsH prog w A s kb [] true
  | miss {k : K} {p : Addr × Value} {r : List (K × Addr × Value)} : atKey kb k = none → HitsH prog w A s kb ((k, p) :: r) false
  | hit {k : K} {p y : Addr × Value} {r : List (K × Addr × Value)} {e b : Bool} : atKey kb k = some y → SeqAt.EqP prog w A s p.2 y.2 e → HitsH prog w A s kb r b → HitsH prog w A s kb ((k, p) :: r) (e && b)
theorem HitsH.inv {kb : List (K × Addr × Value)} {k : K} {p : Addr × Value} {r : List (K × Addr × Value)} {b : Bool} (h : HitsH prog w A s kb ((k, p) :: r) b) :
    (atKey kb k = none ∧ b = false) ∨ ∃ y e b', atKey kb k = some y ∧ SeqAt.EqP prog w A s p.2 y.2 e ∧ HitsH prog w A s kb r b' ∧ b = (e && b') := by
  cases h with
  | miss hn => exact .inl ⟨hn, rfl⟩
  | hit hy he hr => exact .inr ⟨_, _, _, hy, he, hr, rfl⟩
theorem samePairsH {nm : String} {a b : Addr} {ka kb : List (K × Addr × Value)} {r : Bool} {Q : Bool → Shared → Prop} (hu : knd.room A) (ha : (a == sysModules) = false) (hb : (b == sysModules) = false)
    (da : s.heap.DictOfH knd a ka) (db : s.heap.DictOfH knd b kb) (hits : ka.length = kb.length → HitsH prog w A s kb ka r) (h : Q (ka.length == kb.length && r) s) :
    wpAny (model prog w) A (Builtin.Dict.samePairs nm a b) Q E s := by
  obtain ⟨oa, es, ep, hoa, _, hda, hka, hia, hna⟩ := da
  obtain ⟨ob, es', ep', hob, _, hdb, hkb, hib, hnb⟩ := db
  have hla : ka.length = es.size := (size_of_entries hka).symm
  have hlb : kb.length = es'.size := (size_of_entries hkb).symm
  rw [hla, hlb] at h
  unfold Builtin.Dict.samePairs Builtin.Dict.showsAll
  rw [if_neg (show ¬ (a == sysModules) = true by rw [ha]; exact Bool.false_ne_true), if_neg (show ¬ (b == sysModules) = true by rw [hb]; exact Bool.false_ne_true)]
  refine wpAny_bind (wpAny_pure (wpAny_bind (wpAny_pure ?_)))
  refine wpAny_bind (wpAny_dictEntries hoa hda ?_)
  dsimp only
  refine wpAny_bind (wpAny_dictEntries hob hdb ?_)
  by_cases hsz : es.size = es'.size
  case neg =>
    rw [if_pos (by simpa using hsz)]
    have hbf : (es.size == es'.size) = false := by simpa using hsz
    rw [hbf, Bool.false_and] at h
    exact wpAny_bind (wpAny_rule (wpAny_pure h))
  case pos =>
    have h' : Q r s := by simpa [hsz] using h
    have hits' := hits (by rw [hla, hlb]; exact hsz)
    rw [if_neg (by rw [hsz]; simp)]
    refine wpAny_bind (wpAny_dictEpoch hoa hda ?_)
    refine wpAny_bind ?_
    rw [Std.Legacy.Range.forIn_eq_forIn_range']
    simp only [Std.Legacy.Range.size, Nat.sub_zero, Nat.add_sub_cancel, Nat.div_one]
    refine wpAny_forIn_list _
      (fun rest q s' => s' = s ∧ q = (none, ()) ∧ ∃ i, rest = List.range' i (es.size - i) ∧ i ≤ es.size ∧ HitsH prog w A s kb (ka.drop i) r)
      _ ?_ ?_ _ _ ⟨rfl, rfl, 0, by simp, Nat.zero_le _, hits'⟩
    · rintro x rest q s' ⟨rfl, rfl, i, hr, hi, hpre⟩
      have hlt : i < es.size := by
        rcases Nat.lt_or_ge i es.size with h | h
        · exact h
        · rw [Nat.sub_eq_zero_of_le h] at hr; simp at hr
      obtain ⟨rfl, hrest⟩ : x = i ∧ rest = List.range' (i + 1) (es.size - (i + 1)) := by
        have e : es.size - i = (es.size - (i + 1)) + 1 := by omega
        rw [e, List.range'_succ] at hr
        injection hr with h1 h2
        exact ⟨h1, h2⟩
      refine wpAny_bind (wpAny_dictEntries hoa hda ?_)
      rw [Array.getElem?_eq_getElem hlt]
      have hlt' : x < ka.length := by rw [hla]; exact hlt
      obtain ⟨k, p, hkv⟩ : ∃ k p, ka[x] = (k, p) := ⟨_, _, rfl⟩
      have hdrop : ka.drop x = (k, p) :: ka.drop (x + 1) := by rw [← hkv]; exact List.drop_eq_getElem_cons hlt'
      have hent : es[x] = entryOfKey knd (k, p) := by
        have z := entry_at hka x
        rw [Array.getElem?_eq_getElem hlt, List.getElem?_eq_getElem hlt', hkv] at z
        exact Option.some.inj z
      have hkey : knd.is s'.heap k p.1 := by
        have z := hia ka[x] (List.getElem_mem hlt')
        rw [hkv] at z
        exact z
      rw [hdrop] at hpre
      rw [hent]
      show wpAny _ _ (holding [.ref p.1, p.2] _ >>= _) _ _ _
      refine wpAny_bind (wpAny_holding (wpAny_bind (wpAny_dictFind_heap hu hkey hob hdb hkb hib hnb (fun hno => ?_) (fun j y hj => ?_))))
      · have hn := atKey_none_of_get hno
        rcases hpre.inv with ⟨_, er⟩ | ⟨y, _, _, hy, _⟩
        · rw [er] at h'
          refine wpAny_pure ?_
          show wpAny _ _ (if (!false) = true then _ else _) _ _ _
          rw [if_pos (by decide)]
          exact wpAny_pure (wpAny_pure h')
        · rw [hn] at hy; exact nomatch hy
      · have hv' := atKey_of_get hnb hj
        have hjl : j < es'.size := by
          rw [← hlb]
          exact (List.getElem?_eq_some_iff.mp hj).1
        have hent2 : es'[j] = entryOfKey knd (k, y) := by
          have z := entry_at hkb j
          rw [Array.getElem?_eq_getElem hjl, hj] at z
          exact Option.some.inj z
        refine wpAny_bind (wpAny_dictEntries hob hdb ?_)
        rw [Array.getElem?_eq_getElem hjl, hent2]
        rcases hpre.inv with ⟨hn, _⟩ | ⟨y2, e, b', hy, he, hrr, er⟩
        · rw [hv'] at hn; exact nomatch hn
        · obtain rfl : y = y2 := Option.some.inj (hv'.symm.trans hy)
          refine wpAny_holding (he _ _ ?_)
          cases e with
          | false =>
            rw [er, Bool.false_and] at h'
            show wpAny _ _ (if (!false) = true then _ else _) _ _ _
            rw [if_pos (by decide)]
            exact wpAny_pure (wpAny_pure h')
          | true =>
            rw [Bool.true_and] at er
            rw [← er] at hrr
            show wpAny _ _ (if (!true) = true then _ else _) _ _ _
            rw [if_neg (by decide)]
            refine wpAny_bind (wpAny_dictEpoch hoa hda ?_)
            rw [if_neg (by simp)]
            exact wpAny_pure ⟨rfl, rfl, x + 1, hrest, hlt, hrr⟩
    · rintro q s' ⟨rfl, rfl, i, hr, hi, hpre⟩
      have hin : i = es.size := by
        rcases Nat.lt_or_ge i es.size with h | h
        · have e : es.size - i = (es.size - (i + 1)) + 1 := by omega
          rw [e, List.range'_succ] at hr; exact nomatch hr
        · exact Nat.le_antisymm hi h
      refine wpAny_pure ?_
      rw [hin, ← hla, List.drop_length] at hpre
      cases hpre
      exact h'
theorem rcH_eq {a b : Addr} {ka kb : List (K × Addr × Value)} {r : Bool} (hk : knd.room A.in1) (ha : (a == sysModules) = false) (hb : (b == sysModules) = false)
    (da : s.heap.DictOfH knd a ka) (db : s.heap.DictOfH knd b kb) (hu : A.units < cLine) (hits : ka.length = kb.length → HitsH prog w A.in1 s kb ka r) (E Q : Value → Shared → Prop) (h : Q (.bool (ka.length == kb.length && r)) s) : wpAny (model prog w) A (richCompare .Eq (.ref a) (.ref b)) Q E s := by
  refine wpAny_richCompare_same_room (op := .Eq) da.typeIs db.typeIs PySem.F.slot_dict_eq (wpAny_call_entry PySem.F.slot_dict_eq da.typeIs PySem.F.entry_dict_eq ?_ (PySem.F.args_dict_eq_2 _ _)) hu
  show wpAny _ _ (Builtin.Dict.dictSlotArgs "__eq__" ⟨[.ref a, .ref b], []⟩ >>= _) _ _ s
  refine wpAny_bind ?_
  unfold Builtin.Dict.dictSlotArgs
  refine wpAny_bind (wpAny_notOrdered_dict da.typeIs ?_)
  show wpAny _ _ (pure (Value.ref a, Value.ref b)) _ _ s
  refine wpAny_pure ?_
  refine wpAny_bind (wpAny_isInstance (T := "dict") db.typeIs PySem.F.sub_dict_dict ?_)
  simp only [Bool.not_true, Bool.false_eq_true, if_false]
  refine wpAny_bind (wpAny_pure (wpAny_bind (wpAny_pure ?_)))
  refine wpAny_bind (samePairsH hk ha hb da db hits ?_)
  refine wpAny_pure ⟨_, rfl, ?_, ?_⟩
  · exact fun x => nomatch x
  · simpa using h
theorem rcH_ne {a b : Addr} {ka kb : List (K × Addr × Value)} {r : Bool} (hk : knd.room A.in1) (ha : (a == sysModules) = false) (hb : (b == sysModules) = false)
    (da : s.heap.DictOfH knd a ka) (db : s.heap.DictOfH knd b kb) (hu : A.units < cLine) (hits : ka.length = kb.length → HitsH prog w A.in1 s kb ka r) (E Q : Value → Shared → Prop) (h : Q (.bool (!(ka.length == kb.length && r))) s) : wpAny (model prog w) A (richCompare .NotEq (.ref a) (.ref b)) Q E s := by
  refine wpAny_richCompare_same_room (op := .NotEq) da.typeIs db.typeIs PySem.F.slot_dict_ne (wpAny_call_entry PySem.F.slot_dict_ne da.typeIs PySem.F.entry_dict_ne ?_ (PySem.F.args_dict_ne_2 _ _)) hu
  show wpAny _ _ (Builtin.Dict.dictSlotArgs "__ne__" ⟨[.ref a, .ref b], []⟩ >>= _) _ _ s
  refine wpAny_bind ?_
  unfold Builtin.Dict.dictSlotArgs
  refine wpAny_bind (wpAny_notOrdered_dict da.typeIs ?_)
  show wpAny _ _ (pure (Value.ref a, Value.ref b)) _ _ s
  refine wpAny_pure ?_
  refine wpAny_bind (wpAny_isInstance (T := "dict") db.typeIs PySem.F.sub_dict_dict ?_)
  simp only [Bool.not_true, Bool.false_eq_true, if_false]
  refine wpAny_bind (wpAny_pure (wpAny_bind (wpAny_pure ?_)))
  refine wpAny_bind (samePairsH hk ha hb da db hits ?_)
  refine wpAny_pure ⟨_, rfl, ?_, ?_⟩
  · exact fun x => nomatch x
  · simpa using h
end
section
variable {X : Cx}
inductive HitT (F : V → V → Bool → Prop) (ls : List (List L2.Key × V)) : List (List L2.Key × V) → Bool → Prop
  | nil : HitT F ls [] true
  | miss {k : List L2.Key} {v : V} {r : List (List L2.Key × V)} : valV ls k = none → HitT F ls ((k, v) :: r) false
  | hit {k : List L2.Key} {v u : V} {r : List (List L2.Key × V)} {e b : Bool} : valV ls k = some u → F v u e → HitT F ls r b → HitT F ls ((k, v) :: r) (e && b)
theorem hitT_run {P : Program} {w : World} {A : Around} {s : Shared} {H : Hp} {F : V → V → Bool → Prop} (ih : ∀ x y v u e, F x y e → RelV x v → RelV y u → SeqAt.EqP P w A s v u e) {ls : List (List L2.Key × V)} {vb : List (List L2.Key × Addr × Value)} (rb : KT H ls vb) {ks : List (List L2.Key × V)} {r : Bool} (h : HitT F ls ks r) :
    ∀ {va : List (List L2.Key × Addr × Value)}, KT H ks va → HitsH P w A s vb va r := by
  induction h with
  | nil =>
    intro va ra
    cases ra
    exact .nil
  | @miss k v t n =>
    intro va ra
    cases ra with
    | @cons _ q _ qs h t =>
      obtain ⟨h1, _, h2⟩ := h
      obtain ⟨key, vv⟩ := q
      cases h1
      refine .miss ?_
      cases z : atKey vb k with
      | none => rfl
      | some p =>
        obtain ⟨_, e, _⟩ := has_of rb z
        rw [n] at e
        cases e
  | @hit k v u t e b n f _ ihr =>
    intro va ra
    cases ra with
    | @cons _ q _ qs h t =>
      obtain ⟨h1, _, h2⟩ := h
      obtain ⟨key, vv⟩ := q
      cases h1
      obtain ⟨p, hp, rp⟩ := is_of rb n
      exact .hit hp (ih _ _ _ _ _ f h2 rp) (ihr t)
/-- d == e -/
def rEqDT (K : PySem.W.Frag) : R2 := fun x y H Q => ∃ a b ks ls r, x = .ref a ∧ y = .ref b ∧ H a = some (.dT ks) ∧ H b = some (.dT ls) ∧ (ks.length = ls.length → HitT (FD K H) ls ks r) ∧ Q (.bl (ks.length == ls.length && r)) H
theorem op_eqDT (hu : X.A.units + 65 < cLine) : OpR X (compareOp .Eq) (rEqDT X.K) := by
  intro pins s σ H x y v u Q I rx ry h
  obtain ⟨a, b, ks, ls, r, rfl, rfl, ha, hb, hit, q⟩ := h
  cases (show v = Value.ref a from rx)
  cases (show u = Value.ref b from ry)
  obtain ⟨_, ya, va, ra, da⟩ := dt_of I.hok ha
  obtain ⟨_, yb, vb, rb, db⟩ := dt_of I.hok hb
  have la : va.length = ks.length := (Paired.length ra).symm
  have lb : vb.length = ls.length := (Paired.length rb).symm
  show wpAny (model X.prog X.w) X.A (richCompare .Eq _ _) (EP X pins σ Q) X.xe s
  refine rcH_eq (knd := tupleKind (mixKind X.prog X.w)) (r := r) (tupleKind_room_in1 (by omega)) ya yb da db (by omega) (fun hl => hitT_run (fun x y v u e f r1 r2 => ?_) rb (hit (by omega)) ra) _ _ ?_
  · obtain ⟨d1, d2, h1, h2, s1, s2, rfl⟩ := f
    obtain ⟨as, e1⟩ := Dp.reads I d1 x v h1 r1
    obtain ⟨bs, e2⟩ := Dp.reads I d2 y u h2 r2
    have k := shaped_dep s1
    exact (SeqAt.eqAt_reads d1 d2 X.A.in1 s v u as bs e1 e2 (SeqAt.canLay_of_shaped s1) (SeqAt.canLay_of_shaped s2) (by show X.A.units + 1 + min d1.depth d2.depth < cLine; omega)).eqP
  · rw [la, lb]
    exact ⟨.bl _, H, I, rfl, q⟩
/-- d != {} -/
def rNeDT0 : R2 := fun x y H Q => ∃ a b ks, x = .ref a ∧ y = .ref b ∧ H a = some (.dT ks) ∧ H b = some (.dT []) ∧ Q (.bl (!(ks.length == 0))) H
theorem op_neDT0 (hu : X.A.units + 1 < cLine) : OpR X (compareOp .NotEq) rNeDT0 := by
  intro pins s σ H x y v u Q I rx ry h
  obtain ⟨a, b, ks, rfl, rfl, ha, hb, q⟩ := h
  cases (show v = Value.ref a from rx)
  cases (show u = Value.ref b from ry)
  obtain ⟨_, ya, va, ra, da⟩ := dt_of I.hok ha
  obtain ⟨_, yb, vb, rb, db⟩ := dt_of I.hok hb
  have la : va.length = ks.length := (Paired.length ra).symm
  have lb : vb.length = 0 := (Paired.length rb).symm
  show wpAny (model X.prog X.w) X.A (richCompare .NotEq _ _) (EP X pins σ Q) X.xe s
  refine rcH_ne (knd := tupleKind (mixKind X.prog X.w)) (r := true) (tupleKind_room_in1 hu) ya yb da db (by omega) (fun hl => ?_) _ _ ?_
  · have z : va = [] := List.length_eq_zero_iff.mp (by omega)
    rw [z]
    exact .nil
  · rw [la, lb, Bool.and_true]
    exact ⟨.bl _, H, I, rfl, q⟩
end
end Xd

/-! Defs and what is known of them in one word; the built-in names that are not taken. -/
namespace My
open PySem PySem.Spec PyProof.Rows L2 Gy Xl Xs Xt
/-- no name of the module's own hides a built-in one -/
structure Bn (mg : Str → Option Value) : Prop where
  len : mg "len" = none
  range : mg "range" = none
  abs : mg "abs" = none
  max : mg "max" = none
  min : mg "min" = none
  divmod : mg "divmod" = none
  isinstance : mg "isinstance" = none
  str : mg "str" = none
  int : mg "int" = none
  bool : mg "bool" = none
  tuple : mg "tuple" = none
  list : mg "list" = none
  set : mg "set" = none
  dict : mg "dict" = none
  all : mg "all" = none
  any : mg "any" = none
  repr : mg "repr" = none
  sorted : mg "sorted" = none
  enumerate : mg "enumerate" = none
  zip : mg "zip" = none
/-- a def of the top, by its name, with its promise -/
structure Fk (P : Program) (w : World) (K : PySem.W.Frag) (mg : Str → Option Value) (base : Heap) (CX : CXT) (k : Nat) (nm : Str) (ps : List Str) (sp : Sp) : Prop where
  ex : ∃ (f : Addr) (fd : FuncData), mg nm = some (.ref f) ∧ PySem.W.keepIn K (.ref f) = true ∧ Binds K fd ps [] ∧ FnOk P w K mg base CX k f fd ps sp
/-- the same where no repr is under way -/
structure Fg (P : Program) (w : World) (K : PySem.W.Frag) (mg : Str → Option Value) (base : Heap) (CX : CXT) (k : Nat) (nm : Str) (ps : List Str) (sp : Sp) : Prop where
  ex : ∃ (f : Addr) (fd : FuncData), mg nm = some (.ref f) ∧ PySem.W.keepIn K (.ref f) = true ∧ Binds K fd ps [] ∧ FnG P w K mg base CX k f fd ps sp
section
variable {P : Program} {w : World} {K : PySem.W.Frag} {mg : Str → Option Value} {base : Heap} {CX : CXT} {k : Nat} {nm : Str} {ps : List Str} {sp : Sp}
theorem Fk.imp {sp' : Sp} (F : Fk P w K mg base CX k nm ps sp) (h : ∀ vs H Q E, sp' vs H Q E → sp vs H Q E) : Fk P w K mg base CX k nm ps sp' := by
  obtain ⟨f, fd, a, b, c, d⟩ := F.ex
  exact ⟨f, fd, a, b, c, d.imp h⟩
theorem Fk.g (F : Fk P w K mg base CX k nm ps sp) : Fg P w K mg base CX k nm ps sp := by
  obtain ⟨f, fd, a, b, c, d⟩ := F.ex
  exact ⟨f, fd, a, b, c, .of d⟩
/-- what is raised is never raised -/
theorem passN {X : Cx} : Passes (L2.CX X.prog X.w) X (fun _ _ _ => False) := by
  rintro pins σ H s e s' I ⟨a, B, H', cls, d, _, _, _, _, _, _, _, f⟩
  exact f.elim
end
section
variable {X : Cx} {CX : CXT} {k : Nat} {ps : List Str} {sp : Sp} {E : XK} {x : Str} {p pos : Pos} {e : Expr} {es : List Expr} {t : TA}
theorem pe_callF (F : Fk X.prog X.w X.K X.mg X.base CX k x ps sp) (hr : Room k X.A) (hg : Gl X x) (hx : Passes CX X E) (ha : PA X (e :: es) t)
    (hdb : (x == ("__debug__" : Str)) = false := by decide) (he : starEach (e :: es) X.env = (false, eval e X.env) :: starEach es X.env := by rfl)
    (hpl : (backTo pos (starEach es X.env)).any (·.1) = false := by rfl) : PE X (.Call (.Name x p) (e :: es) [] pos) (tCall sp [] E t) := by
  obtain ⟨f, fd, m, kp, b, G⟩ := F.ex
  exact pe_call G hr hg m kp b .nil hx ha hdb he hpl
theorem pe_callFg (F : Fg X.prog X.w X.K X.mg X.base CX k x ps sp) (gd : X.A.guards = some []) (hr : Room k X.A) (hg : Gl X x) (hx : Passes CX X E) (ha : PA X (e :: es) t)
    (hdb : (x == ("__debug__" : Str)) = false := by decide) (he : starEach (e :: es) X.env = (false, eval e X.env) :: starEach es X.env := by rfl)
    (hpl : (backTo pos (starEach es X.env)).any (·.1) = false := by rfl) : PE X (.Call (.Name x p) (e :: es) [] pos) (tG sp E t) := by
  obtain ⟨f, fd, m, kp, b, G⟩ := F.ex
  exact pe_callG G gd hr hg m kp b hx ha hdb he hpl
end
/-! ### heaps -/
theorem same_upd {H : Hp} {p : Addr} {o : HO} (h : H p = none) : Same H (upd H p o) := fun b x e => by
  rw [upd_ne (ne_of_none e h)]
  exact e
/-- a new object that is written once more: what stood before stands -/
theorem same_upd2 {H0 H : Hp} {p : Addr} {o : HO} (s : Same H0 H) (h : H0 p = none) : Same H0 (upd H p o) := fun b x e => by
  rw [upd_ne (ne_of_none e h)]
  exact s b x e
/-- all but r stands -/
def But (r : Addr) (H H' : Hp) : Prop := ∀ b o, b ≠ r → H b = some o → H' b = some o
theorem But.refl (r : Addr) (H : Hp) : But r H H := fun _ _ _ h => h
theorem But.trans {r : Addr} {H H1 H2 : Hp} (a : But r H H1) (b : But r H1 H2) : But r H H2 := fun c o n h => b c o n (a c o n h)
theorem But.of {r : Addr} {H H' : Hp} (s : Same H H') : But r H H' := fun c o _ h => s c o h
theorem But.upd {r L : Addr} {H H' : Hp} {o : HO} (h : But r H H') (n : H L = none) : But r H (L2.upd H' L o) := fun c u nc e => by
  rw [upd_ne (ne_of_none e n)]
  exact h c u nc e
theorem small200 {n : Nat} (h : n ≤ 10000) : n < sizeLine := Nat.lt_of_le_of_lt h (by decide)
theorem le200 {n : Nat} (h : n ≤ 10000) : n ≤ sizeLine := Nat.le_of_lt (small200 h)
/-- an item of a list of texts, by a number below its length -/
theorem at_in {α : Type} {xs : List α} {d : Int} (h0 : 0 ≤ d) (h1 : d < (xs.length : Int)) : ∃ v, atI xs d = some v ∧ v ∈ xs := by
  obtain ⟨j, rfl⟩ := Int.eq_ofNat_of_zero_le h0
  have hj : j < xs.length := by omega
  exact ⟨xs[j], atI_nat (List.getElem?_eq_getElem hj), List.getElem_mem hj⟩
theorem fun_g0 {P : Program} {w : World} {K : PySem.W.Frag} {mg : Str → Option Value} {base : Heap} {k : Nat} {f : Addr} {fd : FuncData} {ps N : List Str} {sp : Sp} {x qual : Str} {st : Stmt} (F : Fun K x qual st f fd) (S : FnScope N ps (defScope st)) (ln : ∀ {vs H Q E}, sp vs H Q E → vs.length = ps.length)
    (bd : ∀ (cdv : Value) (A : Around) (outer : List Env) (s : Shared) (H : Hp) (vs : List V) (Q : VK) (E : XK), A.guards = some [] →
      Room k (A.deeper (envOfC qual (defScope st) s.heap.objs.size f cdv)) → sp vs H Q E →
      ∃ t, PSs (cxOf CX0 P w K mg base N qual (defScope st) f cdv A outer s H E).nox (defBody st) t ∧
        t { nx := fun _ H' => Q .non H', rt := Q } (start N vs) H) : FnG P w K mg base CX0 (k + 1) f fd ps sp := by
  refine fun_g F S ln fun cdv A outer s H vs Q E g hr h => ?_
  obtain ⟨t, ht, hq⟩ := bd cdv A outer s H vs Q E g hr h
  exact ⟨t, ht.nox, hq⟩
theorem Room.units70 {k : Nat} {A : Around} (r : Room k A) : A.units + 70 < cLine := by
  have := r.un
  omega
theorem all_true {n : Nat} : ((List.replicate n true).all id) = true := by
  induction n with
  | zero => rfl
  | succ n ih => rw [List.replicate_succ, List.all_cons, ih]; rfl
end My

namespace My
open PySem PySem.Spec PyProof.Rows L2
def top (i : Nat) : Stmt := PySem.Challenge.pw_relinktree_k25_channels_refused_in_order.main.body.getD i (.Pass ⟨0, 0, 0, 0⟩)
abbrev s_wall : Stmt := top 0
theorem sc_wall : FnScope ["k"] ["k"] (defScope s_wall) := ⟨rfl, rfl, rfl, by decide +kernel, rfl, by decide +kernel, by decide +kernel⟩
abbrev s_is_host_name : Stmt := top 13
theorem sc_is_host_name : FnScope ["value"] ["value"] (defScope s_is_host_name) := ⟨rfl, rfl, rfl, by decide +kernel, rfl, by decide +kernel, by decide +kernel⟩
abbrev s_is_word : Stmt := top 14
theorem sc_is_word : FnScope ["value"] ["value"] (defScope s_is_word) := ⟨rfl, rfl, rfl, by decide +kernel, rfl, by decide +kernel, by decide +kernel⟩
abbrev s_is_text_of : Stmt := top 15
theorem sc_is_text_of : FnScope ["value", "characters", "longest", "character"] ["value", "characters", "longest"] (defScope s_is_text_of) := ⟨rfl, rfl, rfl, by decide +kernel, rfl, by decide +kernel, by decide +kernel⟩
abbrev s_is_integer_from : Stmt := top 17
theorem sc_is_integer_from : FnScope ["value", "least"] ["value", "least"] (defScope s_is_integer_from) := ⟨rfl, rfl, rfl, by decide +kernel, rfl, by decide +kernel, by decide +kernel⟩
abbrev s_is_index : Stmt := top 18
theorem sc_is_index : FnScope ["value", "size"] ["value", "size"] (defScope s_is_index) := ⟨rfl, rfl, rfl, by decide +kernel, rfl, by decide +kernel, by decide +kernel⟩
abbrev s_is_relink : Stmt := top 21
theorem sc_is_relink : FnScope ["value", "path", "cut"] ["value"] (defScope s_is_relink) := ⟨rfl, rfl, rfl, by decide +kernel, rfl, by decide +kernel, by decide +kernel⟩
abbrev s_is_relink_path : Stmt := top 22
theorem sc_is_relink_path : FnScope ["value", "host"] ["value"] (defScope s_is_relink_path) := ⟨rfl, rfl, rfl, by decide +kernel, rfl, by decide +kernel, by decide +kernel⟩
abbrev s_is_cut_of : Stmt := top 23
theorem sc_is_cut_of : FnScope ["path", "value"] ["path", "value"] (defScope s_is_cut_of) := ⟨rfl, rfl, rfl, by decide +kernel, rfl, by decide +kernel, by decide +kernel⟩
abbrev s_is_item : Stmt := top 29
theorem sc_is_item : FnScope ["value", "parts"] ["value"] (defScope s_is_item) := ⟨rfl, rfl, rfl, by decide +kernel, rfl, by decide +kernel, by decide +kernel⟩
abbrev s_are_message_parts : Stmt := top 30
theorem sc_are_message_parts : FnScope ["parts", "writer", "word", "bit"] ["parts"] (defScope s_are_message_parts) := ⟨rfl, rfl, rfl, by decide +kernel, rfl, by decide +kernel, by decide +kernel⟩
abbrev s_is_control_kind : Stmt := top 31
theorem sc_is_control_kind : FnScope ["value"] ["value"] (defScope s_is_control_kind) := ⟨rfl, rfl, rfl, by decide +kernel, rfl, by decide +kernel, by decide +kernel⟩
abbrev s_check_item : Stmt := top 32
theorem sc_check_item : FnScope ["value"] ["value"] (defScope s_check_item) := ⟨rfl, rfl, rfl, by decide +kernel, rfl, by decide +kernel, by decide +kernel⟩
abbrev s_law_pot : Stmt := top 36
theorem sc_law_pot : FnScope ["_law_script", "_law_k", "_law_seed"] ["_law_script", "_law_k"] (defScope s_law_pot) := ⟨rfl, rfl, rfl, by decide +kernel, rfl, by decide +kernel, by decide +kernel⟩
abbrev s_law_draw : Stmt := top 37
theorem sc_law_draw : FnScope ["_law_pot_here", "_law_many", "_law_digit"] ["_law_pot_here", "_law_many"] (defScope s_law_draw) := ⟨rfl, rfl, rfl, by decide +kernel, rfl, by decide +kernel, by decide +kernel⟩
abbrev s_law_name : Stmt := top 38
theorem sc_law_name : FnScope ["_law_pot_here", "_law_used", "_law_letters", "_law_size", "_law_name_here", "_law_others", "_law_k", "_law_letter", "_law_one"] ["_law_pot_here", "_law_used"] (defScope s_law_name) := ⟨rfl, rfl, rfl, by decide +kernel, rfl, by decide +kernel, by decide +kernel⟩
abbrev s_law_word : Stmt := top 39
theorem sc_law_word : FnScope ["_law_pot_here", "_law_signs", "_law_size", "_law_k"] ["_law_pot_here"] (defScope s_law_word) := ⟨rfl, rfl, rfl, by decide +kernel, rfl, by decide +kernel, by decide +kernel⟩
abbrev s_law_path : Stmt := top 40
theorem sc_law_path : FnScope ["_law_pot_here", "_law_hosts", "_law_k"] ["_law_pot_here"] (defScope s_law_path) := ⟨rfl, rfl, rfl, by decide +kernel, rfl, by decide +kernel, by decide +kernel⟩
abbrev s_law_entry : Stmt := top 41
theorem sc_law_entry : FnScope ["_law_pot_here", "_law_way", "_law_path_here", "_law_last", "_law_cut"] ["_law_pot_here"] (defScope s_law_entry) := ⟨rfl, rfl, rfl, by decide +kernel, rfl, by decide +kernel, by decide +kernel⟩
abbrev s_law_is_name : Stmt := top 42
theorem sc_law_is_name : FnScope ["_law_thing", "_law_letters", "_law_sign"] ["_law_thing"] (defScope s_law_is_name) := ⟨rfl, rfl, rfl, by decide +kernel, rfl, by decide +kernel, by decide +kernel⟩
abbrev s_law_is_word : Stmt := top 43
theorem sc_law_is_word : FnScope ["_law_thing", "_law_signs", "_law_sign"] ["_law_thing"] (defScope s_law_is_word) := ⟨rfl, rfl, rfl, by decide +kernel, rfl, by decide +kernel, by decide +kernel⟩
abbrev s_law_is_whole : Stmt := top 44
theorem sc_law_is_whole : FnScope ["_law_thing", "_law_least", "_law_most"] ["_law_thing", "_law_least", "_law_most"] (defScope s_law_is_whole) := ⟨rfl, rfl, rfl, by decide +kernel, rfl, by decide +kernel, by decide +kernel⟩
abbrev s_law_is_relink : Stmt := top 45
theorem sc_law_is_relink : FnScope ["_law_path_here", "_law_cut", "_law_one"] ["_law_path_here", "_law_cut"] (defScope s_law_is_relink) := ⟨rfl, rfl, rfl, by decide +kernel, rfl, by decide +kernel, by decide +kernel⟩
abbrev s_law_is_entry : Stmt := top 46
theorem sc_law_is_entry : FnScope ["_law_thing"] ["_law_thing"] (defScope s_law_is_entry) := ⟨rfl, rfl, rfl, by decide +kernel, rfl, by decide +kernel, by decide +kernel⟩
abbrev s_law_odd : Stmt := top 47
theorem sc_law_odd : FnScope ["_law_pot_here", "_law_some"] ["_law_pot_here"] (defScope s_law_odd) := ⟨rfl, rfl, rfl, by decide +kernel, rfl, by decide +kernel, by decide +kernel⟩
abbrev s_law_other_path : Stmt := top 48
theorem sc_law_other_path : FnScope ["_law_pot_here", "_law_path_here", "_law_at", "_law_other", "_law_some"] ["_law_pot_here", "_law_path_here"] (defScope s_law_other_path) := ⟨rfl, rfl, rfl, by decide +kernel, rfl, by decide +kernel, by decide +kernel⟩
abbrev s_law_spoilt : Stmt := top 49
theorem sc_law_spoilt : FnScope ["_law_pot_here", "_law_entry_here", "_law_way", "_law_at", "_law_size"] ["_law_pot_here", "_law_entry_here"] (defScope s_law_spoilt) := ⟨rfl, rfl, rfl, by decide +kernel, rfl, by decide +kernel, by decide +kernel⟩
abbrev s_law_held : Stmt := top 50
theorem sc_law_held : FnScope ["_law_rows", "_law_src", "_law_dst"] ["_law_rows", "_law_src", "_law_dst"] (defScope s_law_held) := ⟨rfl, rfl, rfl, by decide +kernel, rfl, by decide +kernel, by decide +kernel⟩
abbrev s_law_stands : Stmt := top 51
theorem sc_law_stands : FnScope ["_law_channels", "_law_rows", "_law_names_here", "_law_src", "_law_dst", "_law_pair"] ["_law_channels", "_law_rows", "_law_names_here"] (defScope s_law_stands) := ⟨rfl, rfl, rfl, by decide +kernel, rfl, by decide +kernel, by decide +kernel⟩
abbrev s_law_put_in : Stmt := top 52
theorem sc_law_put_in : FnScope ["_law_rows", "_law_src", "_law_dst", "_law_entry_here"] ["_law_rows", "_law_src", "_law_dst", "_law_entry_here"] (defScope s_law_put_in) := ⟨rfl, rfl, rfl, by decide +kernel, rfl, by decide +kernel, by decide +kernel⟩
abbrev s_law_taken : Stmt := top 53
theorem sc_law_taken : FnScope ["_law_rows", "_law_src", "_law_dst", "_law_entry_here"] ["_law_rows", "_law_src", "_law_dst"] (defScope s_law_taken) := ⟨rfl, rfl, rfl, by decide +kernel, rfl, by decide +kernel, by decide +kernel⟩
abbrev s_law_names : Stmt := top 54
theorem sc_law_names : FnScope ["_law_pot_here", "_law_many", "_law_found", "_law_k"] ["_law_pot_here", "_law_many"] (defScope s_law_names) := ⟨rfl, rfl, rfl, by decide +kernel, rfl, by decide +kernel, by decide +kernel⟩
abbrev s_law_ends : Stmt := top 55
theorem sc_law_ends : FnScope ["_law_pot_here", "_law_names_here", "_law_at"] ["_law_pot_here", "_law_names_here"] (defScope s_law_ends) := ⟨rfl, rfl, rfl, by decide +kernel, rfl, by decide +kernel, by decide +kernel⟩
abbrev s_law_result : Stmt := top 56
theorem sc_law_result : FnScope ["_law_call", "_law_result_here", "e", "_law_kinds", "_law_others"] ["_law_call"] (defScope s_law_result) := ⟨rfl, rfl, rfl, by decide +kernel, rfl, by decide +kernel, by decide +kernel⟩
abbrev s_law_due_put : Stmt := top 57
theorem sc_law_due_put : FnScope ["_law_src", "_law_dst", "_law_entry_here"] ["_law_src", "_law_dst", "_law_entry_here"] (defScope s_law_due_put) := ⟨rfl, rfl, rfl, by decide +kernel, rfl, by decide +kernel, by decide +kernel⟩
abbrev s_law_put_right : Stmt := top 58
theorem sc_law_put_right : FnScope ["_law_pot_here", "_law_channels", "_law_rows", "_law_names_here", "_law_pair", "_law_src", "_law_dst", "_law_entry_here", "_law_due", "_law_shown", "_law_results"] ["_law_pot_here", "_law_channels", "_law_rows", "_law_names_here"] (defScope s_law_put_right) := ⟨rfl, rfl, rfl, by decide +kernel, rfl, by decide +kernel, by decide +kernel⟩
abbrev s_law_take_right : Stmt := top 59
theorem sc_law_take_right : FnScope ["_law_pot_here", "_law_channels", "_law_rows", "_law_names_here", "_law_pair", "_law_src", "_law_dst", "_law_due", "_law_results"] ["_law_pot_here", "_law_channels", "_law_rows", "_law_names_here"] (defScope s_law_take_right) := ⟨rfl, rfl, rfl, by decide +kernel, rfl, by decide +kernel, by decide +kernel⟩
abbrev s_law : Stmt := top 60
theorem sc_law : FnScope ["_law_script", "_law_k", "_law_pot_here", "_law_names_here", "_law_channels", "_law_rows", "_law_turn", "_law_pair", "_law_entry_here"] ["_law_script"] (defScope s_law) := ⟨rfl, rfl, rfl, by decide +kernel, rfl, by decide +kernel, by decide +kernel⟩
abbrev m_init : Stmt := inClass (top 34) 0
theorem scm_init : FnScope ["self"] ["self"] (defScope m_init) := ⟨rfl, rfl, rfl, by decide +kernel, rfl, by decide +kernel, by decide +kernel⟩
abbrev m_eq : Stmt := inClass (top 34) 1
theorem scm_eq : FnScope ["self", "other"] ["self", "other"] (defScope m_eq) := ⟨rfl, rfl, rfl, by decide +kernel, rfl, by decide +kernel, by decide +kernel⟩
abbrev m_len : Stmt := inClass (top 34) 2
theorem scm_len : FnScope ["self", "pair", "item"] ["self"] (defScope m_len) := ⟨rfl, rfl, rfl, by decide +kernel, rfl, by decide +kernel, by decide +kernel⟩
abbrev m_put : Stmt := inClass (top 34) 3
theorem scm_put : FnScope ["self", "source", "goal", "item"] ["self", "source", "goal", "item"] (defScope m_put) := ⟨rfl, rfl, rfl, by decide +kernel, rfl, by decide +kernel, by decide +kernel⟩
abbrev m_take : Stmt := inClass (top 34) 4
theorem scm_take : FnScope ["self", "source", "goal", "items"] ["self", "source", "goal"] (defScope m_take) := ⟨rfl, rfl, rfl, by decide +kernel, rfl, by decide +kernel, by decide +kernel⟩
abbrev m_in_flight : Stmt := inClass (top 34) 5
theorem scm_in_flight : FnScope ["self", "source", "goal"] ["self", "source", "goal"] (defScope m_in_flight) := ⟨rfl, rfl, rfl, by decide +kernel, rfl, by decide +kernel, by decide +kernel⟩
abbrev m_busy : Stmt := inClass (top 34) 6
theorem scm_busy : FnScope ["self"] ["self"] (defScope m_busy) := ⟨rfl, rfl, rfl, by decide +kernel, rfl, by decide +kernel, by decide +kernel⟩
end My

namespace My
open PySem PySem.Spec PyProof.Rows L2 Gy Xl Xs Xt
/-! ### the law's numbers: the pot, a draw, a pick -/
/-- the list of two numbers that is drawn from -/
def Rng (H : Hp) (r : Addr) : Prop := ∃ x y : Int, H r = some (.lst [.int x, .int y]) ∧ 0 ≤ x ∧ 0 ≤ y ∧ y < 1099511627776
theorem Rng.ne {H : Hp} {r l : Addr} (h : Rng H r) (hl : H l = none) : l ≠ r := fun z => by
  obtain ⟨x, y, e, _⟩ := h
  rw [← z, hl] at e
  cases e
theorem Rng.upd {H : Hp} {r l : Addr} {o : HO} (h : Rng H r) (hl : H l = none) : Rng (upd H l o) r := by
  obtain ⟨x, y, e, h2⟩ := id h
  exact ⟨x, y, by rw [upd_ne (h.ne hl).symm]; exact e, h2⟩
theorem Rng.upd2 {H : Hp} {r l : Addr} {o : HO} (h : Rng H r) (hl : l ≠ r) : Rng (L2.upd H l o) r := by
  obtain ⟨x, y, e, h2⟩ := id h
  exact ⟨x, y, by rw [upd_ne hl.symm]; exact e, h2⟩
theorem Rng.same {H H' : Hp} {r : Addr} (h : Rng H r) (s : Same H H') : Rng H' r := by
  obtain ⟨x, y, e, h2⟩ := h
  exact ⟨x, y, s _ _ e, h2⟩
section
variable {P : Program} {w : World} {K : PySem.W.Frag} {mg : Str → Option Value} {base : Heap}
def spPot (K : PySem.W.Frag) : Sp := fun vs H Q _ => ∃ (a : Addr) (ns : List Int) (k : Nat), vs = [.ref a, .int (k : Int)] ∧ SqL K H a (ns.map V.int) ∧ k ≤ 100 ∧
  ∀ H' p, Same H H' → H p = none → Rng H' p → Q (.ref p) H'
theorem max_nn (j : Int) : 0 ≤ (if j > 0 then j else 0) := by
  split <;> omega
theorem y_lo (z : Int) (k : Nat) : 0 ≤ z % 2147483587 + 97 * (k : Int) + 5 := by
  have := Int.emod_nonneg z (by decide : (2147483587 : Int) ≠ 0)
  omega
theorem y_hi (z : Int) (k : Nat) (h : k ≤ 100) : z % 2147483587 + 97 * (k : Int) + 5 < 1099511627776 := by
  have := Int.emod_lt_of_pos z (by decide : (0 : Int) < 2147483587)
  omega
theorem ok_pot {f : Addr} {fd : FuncData} (F : Fun K "_law_pot" "_law_pot" s_law_pot f fd) (Y : Bn mg) : FnOk P w K mg base CX0 1 f fd ["_law_script", "_law_k"] (spPot K) := by
  refine F.ok sc_law_pot (fun vs H Q E h => ?_) (fun cdv A outer s H vs Q E hr h => ?_)
  · obtain ⟨a, ns, k, rfl, _⟩ := h
    rfl
  · obtain ⟨a, ns, k, rfl, hS, hk, q⟩ := h
    refine ⟨_, (pss_cons (ps_set (i := 2) sc_law_pot.nd rfl (.inl rfl) (pe_ifExp (pt_cmpR op_lt (pv 1) (pe_callB call_len_seq (by rfl) Y.len PySem.boot_len (pa_cons (pv 0) pa_nil)) (nomark _)) (pe_ix ix_list (pv 0) (pv 1) (fun _ _ => rfl)) (pe_op op_add (pe_op op_mul pe_int (pv 1)) pe_int)))
 (pss_one (ps_ret (pe_lst (pa_cons (pe_callB (call_max2 rfl) (by rfl) Y.max (by decide +kernel) (pa_cons pe_int (pa_cons (pe_op op_sub (pe_callB call_abs (by rfl) Y.abs (by decide +kernel) (pa_cons (pv 2) pa_nil)) (pe_op op_pow pe_int pe_int)) pa_nil))) (pa_cons (pe_op op_add (pe_op op_add (pe_op op_mod (pe_callB call_abs (by rfl) Y.abs (by decide +kernel) (pa_cons (pv 2) pa_nil)) pe_int) (pe_op op_mul pe_int (pv 1))) pe_int) pa_nil)))))), ?_⟩
    refine ⟨_, rfl, _, rfl, a, _, rfl, .inl hS, _, _, rfl, rfl, _, rfl, ite2 (fun c1 => ?A) (fun c1 => ?B)⟩
    case' A =>
      have hk2 : k < ns.length := by
        have := of_decide_eq_true c1
        rw [List.length_map] at this
        omega
      refine ⟨_, rfl, _, rfl, a, _, _, .int ns[k], rfl, rfl, hS, atI_nat (j := k) (by rw [List.getElem?_map, List.getElem?_eq_getElem hk2]; rfl), ?_⟩
    case' B =>
      refine ⟨_, rfl, 7, _, rfl, rfl, .inl ⟨by decide, by decide⟩, _, _, rfl, rfl, ?_⟩
    all_goals
      refine ⟨_, rfl, _, rfl, 10, 18, rfl, rfl, ⟨by decide, by decide, by decide⟩, _, _, rfl, rfl, 0, _, rfl, ?_⟩
      refine ⟨_, rfl, _, rfl, _, _, rfl, rfl, (by decide : (0 : Int) < 2147483587), _, rfl, 97, _, rfl, rfl, .inl ⟨by decide, by decide⟩, _, _, rfl, rfl, _, _, rfl, rfl, ?_⟩
      refine ⟨(by show 2 ≤ sizeLine; decide), fun p hp => ?_⟩
      exact q _ p (same_upd hp) hp ⟨_, _, upd_same, max_nn _, y_lo _ k, y_hi _ k hk⟩
def spDraw : Sp := fun vs H Q _ => ∃ (r : Addr) (m : Int), vs = [.ref r, .int m] ∧ Rng H r ∧ 0 < m ∧ m < 1180591620717411303424 ∧
  ∀ H' d, But r H H' → Rng H' r → 0 ≤ d → d < m → Q (.int d) H'
theorem lg70 {m : Int} (m0 : 0 < m) (m1 : m < 1180591620717411303424) : m.natAbs.log2 < 9000 := by
  have h : m.natAbs < 2 ^ 70 := by
    show m.natAbs < 1180591620717411303424
    omega
  exact Nat.lt_of_lt_of_le ((Nat.log2_lt (by omega)).mpr h) (by decide)
theorem ok_draw {f : Addr} {fd : FuncData} (F : Fun K "_law_draw" "_law_draw" s_law_draw f fd) (Y : Bn mg) : FnOk P w K mg base CX0 1 f fd ["_law_pot_here", "_law_many"] spDraw := by
  refine F.ok sc_law_draw (fun vs H Q E h => ?_) (fun cdv A outer s H vs Q E hr h => ?_)
  · obtain ⟨r, m, rfl, _⟩ := h
    rfl
  · obtain ⟨r, m, rfl, ⟨x, y, hR, x0, y0, y1⟩, m0, m1, q⟩ := h
    refine ⟨_, (pss_cons (ps_if (pt_cmpR op_gt (pe_ix ix_list (pv 0) pe_int (fun _ _ => rfl)) pe_int (nomark _))
 (pss_cons (ps_asg (pe_callB call_divmodW (by rfl) Y.divmod (by decide +kernel) (pa_cons (pe_ix ix_list (pv 0) pe_int (fun _ _ => rfl)) (pa_cons (pv 1) pa_nil))) (pg_tup (by rfl) (pgs_cons (pg_sub (pv 0) pe_int set_list) (pgs_cons (pg_name (i := 2) sc_law_draw.nd rfl (Or.inl rfl)) pgs_nil))))
 (pss_one (ps_ret (pv 2))))
 pss_nil)
 (pss_cons (ps_asg (pe_op op_mod (pe_op op_add (pe_op op_mul (pe_ix ix_list (pv 0) pe_int (fun _ _ => rfl)) pe_int) pe_int) pe_int) (pg_sub (pv 0) pe_int set_list))
 (pss_one (ps_ret (pe_op op_mod (pe_op op_fdiv (pe_op op_mod (pe_op op_mul (pe_ix ix_list (pv 0) pe_int (fun _ _ => rfl)) (pe_ix ix_list (pv 0) pe_int (fun _ _ => rfl))) pe_int) pe_int) (pv 1)))))), ?_⟩
    refine ⟨_, rfl, r, _, 0, .int x, rfl, rfl, SqL.of hR, atI_nat (j := 0) rfl, _, _, rfl, rfl, _, rfl, ite2 (fun c1 => ?_) (fun c1 => ?_)⟩
    · refine ⟨_, rfl, r, _, 0, .int x, rfl, rfl, SqL.of hR, atI_nat (j := 0) rfl, _, rfl, x, m, rfl, ⟨m0, PyProof.noPylong_of_log2 (lg70 m0 m1)⟩, fun p hp => ?_⟩
      have npr : r ≠ p := ne_of_none hR hp
      refine ⟨p, _, rfl, SqT.of upd_same, rfl, _, _, rfl, ?_⟩
      refine ⟨_, rfl, r, _, 0, 0, rfl, rfl, (by rw [upd_ne npr]; exact hR), rfl, ?_⟩
      refine ⟨_, _, rfl, rfl, ?_⟩
      refine ⟨_, rfl, q _ _ ?_ ⟨x / m, y, upd_same, Int.ediv_nonneg x0 (Int.le_of_lt m0), y0, y1⟩ (Int.emod_nonneg _ (by omega)) (Int.emod_lt_of_pos _ m0)⟩
      intro b o nb e
      rw [upd_ne nb, upd_ne (ne_of_none e hp)]
      exact e
    · refine ⟨_, rfl, r, _, 1, .int y, rfl, rfl, SqL.of hR, atI_nat (j := 1) rfl, y, 48271, rfl, rfl, .inl ⟨by omega, by omega⟩, _, _, rfl, rfl, _, _, rfl, rfl, (by decide : (0 : Int) < 2147483647), ?_⟩
      refine ⟨_, rfl, r, _, 1, 1, rfl, rfl, hR, rfl, ?_⟩
      have z0 := Int.emod_nonneg (y * 48271 + 9973) (by decide : (2147483647 : Int) ≠ 0)
      have z1 := Int.emod_lt_of_pos (y * 48271 + 9973) (by decide : (0 : Int) < 2147483647)
      refine ⟨_, rfl, r, _, 1, _, rfl, rfl, SqL.of upd_same, atI_nat (j := 1) rfl, _, rfl, r, _, 1, _, rfl, rfl, SqL.of upd_same, atI_nat (j := 1) rfl, _, _, rfl, rfl, .inl ⟨by omega, by omega⟩, ?_⟩
      refine ⟨_, _, rfl, rfl, (by decide : (0 : Int) < 2147483579), _, 17, rfl, rfl, ⟨by decide, by decide⟩, _, rfl, _, m, rfl, rfl, m0, ?_⟩
      refine q _ _ ?_ ⟨x, _, upd_same, x0, z0, by omega⟩ (Int.emod_nonneg _ (by omega)) (Int.emod_lt_of_pos _ m0)
      intro b o nb e
      rw [upd_ne nb]
      exact e
end
end My

namespace My
open PySem PySem.Spec PyProof.Rows L2 Gy Xl Xs Xt
/-! ### drawn host names: texts of 1 to 8 letters, all different -/
def LET : Str := "abcdefghijklmnopqrstuvwxyz"
/-- a text of 1 to 8 letters -/
def Nm (x : Str) : Prop := 1 ≤ x.length ∧ x.length ≤ 8 ∧ ∀ c ∈ x.cps.toList, c ∈ LET.cps.toList
theorem mem_cat {a b : Str} {c : Nat} (h : c ∈ (a ++ b).cps.toList) : c ∈ a.cps.toList ∨ c ∈ b.cps.toList := by
  have e : (a ++ b).cps.toList = a.cps.toList ++ b.cps.toList := by
    show (a.cps ++ b.cps).toList = _
    rw [Array.toList_append]
  rw [e] at h
  exact List.mem_append.mp h
theorem join_in {p : Nat → Prop} : ∀ ys : List Str, (∀ y ∈ ys, ∀ c ∈ y.cps.toList, p c) → ∀ c ∈ (Str.join "" ys).cps.toList, p c
  | [], _, c, h => by
    have h' : c ∈ ([] : List Nat) := h
    cases h'
  | [y], h, c, hc => h y List.mem_cons_self c hc
  | y :: z :: r, h, c, hc => by
    have hc' : c ∈ (y ++ "" ++ Str.join "" (z :: r)).cps.toList := hc
    rcases mem_cat hc' with hc' | hc'
    · rcases mem_cat hc' with hc' | hc'
      · exact h y List.mem_cons_self c hc'
      · have h' : c ∈ ([] : List Nat) := hc'
        cases h'
    · exact join_in (z :: r) (fun u hu => h u (List.mem_cons_of_mem _ hu)) c hc'
theorem join_len : ∀ ys : List Str, (∀ y ∈ ys, y.length = 1) → (Str.join "" ys).length = ys.length
  | [], _ => rfl
  | [y], h => h y List.mem_cons_self
  | y :: z :: r, h => by
    have ih := join_len (z :: r) fun u hu => h u (List.mem_cons_of_mem _ hu)
    have hy := h y List.mem_cons_self
    show (y ++ "" ++ Str.join "" (z :: r)).length = _
    rw [strLen_append, strLen_append, ih, hy]
    show 1 + 0 + (r.length + 1) = r.length + 1 + 1
    omega
theorem sum_ones : ∀ ys : List Str, (∀ y ∈ ys, y.length = 1) → (ys.map (·.length)).sum ≤ ys.length
  | [], _ => Nat.le_refl _
  | y :: r, h => by
    have h1 := h y List.mem_cons_self
    have h2 := sum_ones r fun z hz => h z (List.mem_cons_of_mem _ hz)
    rw [List.map_cons, List.sum_cons, List.length_cons]
    omega
theorem cut_some (x : Str) (n : Nat) : cutS x none (some (n : Int)) = ⟨(x.cps.toList.take (min n x.length)).toArray⟩ := by
  unfold cutS
  rw [HT.sIx_none, HT.sIx_nat, List.drop_zero, Nat.sub_zero]
/-- the first eight signs of a name with letters behind it -/
theorem nm_cut {x y : Str} (hx : Nm x) (hy : Nm y) : Nm (cutS (x ++ y) none (some 8)) := by
  have e := cut_some (x ++ y) 8
  have l : (x ++ y).length = x.length + y.length := strLen_append x y
  have l2 : (x ++ y).cps.toList.length = (x ++ y).length := Array.length_toList
  obtain ⟨h1, h2, h3⟩ := hx
  obtain ⟨k1, k2, k3⟩ := hy
  rw [show (some 8 : Option Int) = some ((8 : Nat) : Int) from rfl, e]
  refine ⟨?_, ?_, fun c hc => ?_⟩
  · show 1 ≤ ((x ++ y).cps.toList.take (min 8 (x ++ y).length)).toArray.size
    rw [List.size_toArray, List.length_take]
    omega
  · show ((x ++ y).cps.toList.take (min 8 (x ++ y).length)).toArray.size ≤ 8
    rw [List.size_toArray, List.length_take]
    omega
  · have hc' : c ∈ (x ++ y).cps.toList.take (min 8 (x ++ y).length) := by
      simpa using hc
    rcases mem_cat (List.mem_of_mem_take hc') with z | z
    · exact h3 c z
    · exact k3 c z
/-- seven signs of a name and a letter -/
def tl (x : Str) (c : Nat) : Str := cutS x none (some 7) ++ ⟨#[c]⟩
theorem tl_cps (x : Str) (c : Nat) : (tl x c).cps.toList = x.cps.toList.take (min 7 x.length) ++ [c] := by
  unfold tl
  rw [show (some 7 : Option Int) = some ((7 : Nat) : Int) from rfl, cut_some]
  show ((x.cps.toList.take (min 7 x.length)).toArray ++ #[c]).toList = _
  rw [Array.toList_append]
theorem tl_nm {x : Str} {c : Nat} (hx : Nm x) (hc : c ∈ LET.cps.toList) : Nm (tl x c) := by
  have e := tl_cps x c
  have l : (tl x c).length = (tl x c).cps.toList.length := Array.length_toList.symm
  have l2 : x.cps.toList.length = x.length := Array.length_toList
  have l3 : (x.cps.toList.take (min 7 x.length) ++ [c]).length = min 7 x.length + 1 := by
    rw [List.length_append, List.length_take, l2]
    simp
  rw [e, l3] at l
  refine ⟨by omega, by omega, fun d hd => ?_⟩
  rw [e] at hd
  rcases List.mem_append.mp hd with z | z
  · exact hx.2.2 d (List.mem_of_mem_take z)
  · rw [List.mem_singleton.mp z]
    exact hc
theorem tl_inj (x : Str) (c d : Nat) (h : tl x c = tl x d) : c = d := by
  have e : (tl x c).cps.toList = (tl x d).cps.toList := by rw [h]
  rw [tl_cps, tl_cps] at e
  have e2 := List.append_cancel_left e
  injection e2
theorem inV_strs (z : Str) : ∀ xs : List Str, inV (.str z) (xs.map V.str) = decide (z ∈ xs)
  | [] => rfl
  | x :: xs => by
    have ih := inV_strs z xs
    unfold inV at ih ⊢
    rw [List.map_cons, List.any_cons, ih]
    show (x == z || decide (z ∈ xs)) = decide (z ∈ x :: xs)
    by_cases e : x = z
    · subst e
      simp
    · rw [beq_eq_false_iff_ne.mpr e, Bool.false_or]
      congr 1
      rw [List.mem_cons, eq_iff_iff]
      exact ⟨.inr, fun h => h.resolve_left fun u => e u.symm⟩
theorem flat_strs : ∀ xs : List Str, (xs.map V.str).all flatV = true
  | [] => rfl
  | x :: xs => by
    rw [List.map_cons, List.all_cons, flat_strs xs]
    rfl
theorem len_le_of_sub {α : Type} [BEq α] [LawfulBEq α] : ∀ {l m : List α}, l.Nodup → (∀ x ∈ l, x ∈ m) → l.length ≤ m.length
  | [], _, _, _ => Nat.zero_le _
  | x :: l, m, nd, h => by
    rw [List.nodup_cons] at nd
    have hx := h x List.mem_cons_self
    have ih := len_le_of_sub (l := l) (m := m.erase x) nd.2 fun y hy => (List.mem_erase_of_ne (fun e : y = x => nd.1 (by rw [← e]; exact hy))).mpr (h y (List.mem_cons_of_mem _ hy))
    rw [List.length_erase_of_mem hx] at ih
    have : 0 < m.length := List.length_pos_of_mem hx
    rw [List.length_cons]
    omega
theorem nd_map {α β : Type} {f : α → β} (inj : ∀ a b, f a = f b → a = b) : ∀ {l : List α}, l.Nodup → (l.map f).Nodup
  | [], _ => List.nodup_nil
  | x :: l, h => by
    rw [List.nodup_cons] at h
    rw [List.map_cons, List.nodup_cons]
    refine ⟨fun z => ?_, nd_map inj h.2⟩
    obtain ⟨y, hy, e⟩ := List.mem_map.mp z
    exact h.1 (inj _ _ e ▸ hy)
theorem nodup_snoc {α : Type} {xs : List α} {x : α} (h : xs.Nodup) (n : x ∉ xs) : (xs ++ [x]).Nodup := by
  rw [List.nodup_append]
  refine ⟨h, by simp, fun a ha b hb e => n ?_⟩
  rw [List.mem_singleton.mp hb] at e
  rw [← e]
  exact ha
/-- what is tried for a name -/
def triesOf (x : Str) : List Str := x :: LET.cps.toList.map (tl x)
theorem tries_nm {x : Str} (h : Nm x) : ∀ y ∈ triesOf x, Nm y := fun y hy => by
  rcases List.mem_cons.mp hy with rfl | hy
  · exact h
  · obtain ⟨c, hc, rfl⟩ := List.mem_map.mp hy
    exact tl_nm h hc
theorem tries_out {x : Str} {xs : List Str} (h : xs.length < 26) : ∃ z zs, (triesOf x).filter (fun y => decide (y ∉ xs)) = z :: zs := by
  cases e : (triesOf x).filter (fun y => decide (y ∉ xs)) with
  | cons z zs => exact ⟨z, zs, rfl⟩
  | nil =>
    rw [List.filter_eq_nil_iff] at e
    have nd : (LET.cps.toList.map (tl x)).Nodup := nd_map (tl_inj x) (by decide +kernel)
    have le := len_le_of_sub (m := xs) nd fun y hy => by
      have z := e y (List.mem_cons_of_mem _ hy)
      exact Decidable.of_not_not fun w => z (decide_eq_true w)
    rw [List.length_map, show LET.cps.toList.length = 26 by decide +kernel] at le
    omega
theorem dps_strs {K : PySem.W.Frag} {H : Hp} : ∀ xs : List Str, DpAll K H (xs.map V.str) (xs.map PyData.str)
  | [] => .nil
  | x :: xs => .cons (.str x) (dps_strs xs)
theorem nm_ok {x : Str} (h : Nm x) : PyData.strOk x = true := by
  unfold PyData.strOk
  rw [← Array.all_toList, List.all_eq_true]
  intro c hc
  have z : ∀ d ∈ LET.cps.toList, d < 0x110000 := by decide +kernel
  exact decide_eq_true (z c (h.2.2 c hc))
theorem lay_strs : ∀ xs : List Str, (∀ x ∈ xs, Nm x) → PyData.canLayAll0 (xs.map PyData.str) = true
  | [], _ => rfl
  | b :: r, h => by
    show (PyData.strOk b && PyData.canLayAll0 (r.map PyData.str)) = true
    rw [nm_ok (h b List.mem_cons_self), lay_strs r fun x hx => h x (List.mem_cons_of_mem _ hx)]
    rfl
theorem deep_strs : ∀ xs : List Str, PyData.depthAll (xs.map PyData.str) = 0
  | [] => rfl
  | b :: r => by
    show max 0 (PyData.depthAll (r.map PyData.str)) = 0
    rw [deep_strs r]
    rfl
theorem sh_strs (xs : List Str) (h : ∀ x ∈ xs, Nm x) : SeqAt.shaped (.list (xs.map PyData.str)) = true := by
  unfold SeqAt.shaped
  rw [show PyData.canLay0 (.list (xs.map PyData.str)) = true from lay_strs xs h, show PyData.depth (.list (xs.map PyData.str)) = 1 by show PyData.depthAll _ + 1 = 1; rw [deep_strs]]
  decide
end My

namespace My
open PySem PySem.Spec PyProof.Rows L2 Gy Xl Xs Xt
/-! ### texts of some signs -/
def allIn (cs x : Str) : Bool := x.cps.toList.all fun c => decide (c ∈ cs.cps.toList)
def textOf (v : V) (cs : Str) (n : Int) : Bool := match v with
  | .str x => decide ((1 : Int) ≤ (x.length : Int)) && decide ((x.length : Int) ≤ n) && allIn cs x
  | _ => false
/-- a value whose kind is known -/
inductive Kd (K : PySem.W.Frag) (H : Hp) : V → Prop
  | str (x : Str) (h : x.length ≤ sizeLine) : Kd K H (.str x)
  | oth {v : V} {t : String} (ty : TyX K H v (.type t)) (n : kitB t "str" = some false) (no : ∀ x, v ≠ .str x) : Kd K H v
theorem textOf_oth {v : V} (no : ∀ x, v ≠ .str x) (cs : Str) (n : Int) : textOf v cs n = false := by
  cases v with
  | str x => exact absurd rfl (no x)
  | _ => rfl

section
variable {P : Program} {w : World} {K : PySem.W.Frag} {mg : Str → Option Value} {base : Heap}
def spText (K : PySem.W.Frag) : Sp := fun vs H Q _ => ∃ (v : V) (cs : Str) (n : Int), vs = [v, .str cs, .int n] ∧ Kd K H v ∧
  ∀ H', Same H H' → Q (.bl (textOf v cs n)) H'
theorem take_succ_all {l : List Nat} {i c : Nat} (h : l[i]? = some c) (p : Nat → Bool) : (l.take (i + 1)).map p = (l.take i).map p ++ [p c] := by
  rw [List.take_add_one, h, List.map_append]
  rfl
theorem ok_text {f : Addr} {fd : FuncData} (F : Fun K "is_text_of" "is_text_of" s_is_text_of f fd) (Y : Bn mg) :
    FnOk P w K mg base CX0 1 f fd ["value", "characters", "longest"] (spText K) := by
  refine F.ok sc_is_text_of (fun vs H Q E h => ?_) (fun cdv A outer s H vs Q E hr h => ?_)
  · obtain ⟨v, cs, n, rfl, _⟩ := h
    rfl
  · obtain ⟨v, cs, n, rfl, kd, q⟩ := h
    refine ⟨_, (pss_cons (ps_if (PW.pt (pw_or (pt_not (pt_val (pe_callB call_isi (by rfl) Y.isinstance (by decide +kernel) (pa_cons (pv 0) (pa_cons (pe_bltn (v := .ty "str") (by rfl) Y.str (by decide +kernel) rfl) pa_nil))))) (pw_or1 (pt_not (pt_chain op_le op_le pe_int (pe_callB call_len_str (by rfl) Y.len PySem.boot_len (pa_cons (pv 0) pa_nil)) (pv 2))))))
 (pss_one (ps_ret pe_bl))
 pss_nil)
 (pss_one (ps_ret (pe_callB (cr_all rfl) (by rfl) Y.all (by decide +kernel) (pa_cons (pe_lc (own := [("character", 3)]) (g := gName 3) (tt := tYes) rfl sc_is_text_of.nd (pi_str (pv 0)) (blkOk_by (N := ["value", "characters", "longest", "character"]) (sc := defScope s_is_text_of) (by decide +kernel)) (fun _ _ _ _ _ => (pg_name (i := 3) sc_is_text_of.nd rfl (Or.inl rfl))) (fun _ _ _ _ _ => pts_nil) (fun _ _ _ _ _ => (pe_cmpR op_in_sign (pv 3) (pv 1) rfl))) pa_nil))))), ?_⟩
    cases kd with
    | oth ty no nos =>
      refine ⟨v, rfl, v, _, _, _, false, rfl, .ty "str", ty, kit_ty no, _, rfl, ?_⟩
      refine iteT (iteT ?_)
      rw [textOf_oth nos] at q
      exact q _ (Same.refl _)
    | str x hx =>
      refine ⟨_, rfl, _, _, _, _, true, rfl, .ty "str", .base (.str x), kit_ty (by decide +kernel), _, rfl, ?_⟩
      refine iteF ?_
      have e1 : textOf (.str x) cs n = (decide ((1 : Int) ≤ (x.length : Int)) && decide ((x.length : Int) ≤ n) && allIn cs x) := rfl
      refine ⟨_, rfl, _, rfl, hx, 1, _, rfl, rfl, _, rfl, ?_⟩
      refine ite2 (fun c1 => ?_) (fun c1 => ?_)
      · refine ⟨_, rfl, _, _, rfl, rfl, _, rfl, ?_⟩
        cases c2 : decide ((x.length : Int) ≤ n) with
        | false =>
          refine iteT ?_
          rw [c2, Bool.and_false, Bool.false_and] at e1
          rw [e1] at q
          exact q _ (Same.refl _)
        | true =>
          refine iteF ?_
          rw [c1, c2, Bool.true_and, Bool.true_and] at e1
          refine ⟨_, rfl, x, rfl, fun D hD => ?_⟩
          refine lc_it (walk_str (z := x)) (fun i H' => Same H H' ∧ H' D = some (.lst (((x.cps.toList.take i).map fun c => decide (c ∈ cs.cps.toList)).map V.bl)))
            ⟨same_upd hD, upd_same⟩ (fun _ _ _ _ => trivial) ?_ ?_
          · rintro i y H1 H2 hi ⟨sm, hL⟩ ⟨rfl, c, hc, rfl⟩
            refine ⟨rfl, ?_⟩
            dsimp only [tYes]
            refine iteT ?_
            refine ⟨_, rfl, _, rfl, c, cs, rfl, rfl, _, hL, ?_, same_upd2 sm hD, ?_⟩
            · rw [List.length_map, List.length_map, List.length_take]
              refine Nat.lt_of_le_of_lt (Nat.min_le_left _ _) (Nat.lt_of_lt_of_le hi ?_)
              exact hx
            · have hc' : x.cps.toList[i]? = some c := by rw [Array.getElem?_toList]; exact hc
              rw [upd_same, take_succ_all hc', List.map_append]
              rfl
          · rintro H1 ⟨sm, hL⟩
            refine ⟨D, _, rfl, SqL.of hL, ?_⟩
            have e2 : ((x.cps.toList.take x.cps.size).map fun c => decide (c ∈ cs.cps.toList)).all id = allIn cs x := by
              rw [List.take_of_length_le (by rw [Array.length_toList]; exact Nat.le_refl _), List.all_map]
              rfl
            rw [e1] at q
            show Q (.bl (((x.cps.toList.take x.cps.size).map fun c => decide (c ∈ cs.cps.toList)).all id)) H1
            rw [e2]
            exact q _ sm
      · refine ⟨_, rfl, ?_⟩
        refine iteT ?_
        have c1' : decide ((1 : Int) ≤ (x.length : Int)) = false := by
          cases z : decide ((1 : Int) ≤ (x.length : Int)) with
          | false => rfl
          | true => exact absurd z c1
        rw [c1', Bool.false_and, Bool.false_and] at e1
        rw [e1] at q
        exact q _ (Same.refl _)
structure TxtC (mg : Str → Option Value) : Prop where
  lt : ∃ t, mg "LETTERS" = some (.str LET t)
  ln : ∃ t, mg "LONGEST_NAME" = some (.int 8 t)
def spHost (K : PySem.W.Frag) : Sp := fun vs H Q _ => ∃ v : V, vs = [v] ∧ Kd K H v ∧ ∀ H', Same H H' → Q (.bl (textOf v LET 8)) H'
theorem ok_host {f : Addr} {fd : FuncData} (F : Fun K "is_host_name" "is_host_name" s_is_host_name f fd) (C : TxtC mg) (G_is_text_of : Fk P w K mg base CX0 1 "is_text_of" ["value", "characters", "longest"] (spText K)) :
    FnOk P w K mg base CX0 2 f fd ["value"] (spHost K) := by
  obtain ⟨t1, e1⟩ := C.lt
  obtain ⟨t2, e2⟩ := C.ln
  refine F.ok sc_is_host_name (fun vs H Q E h => ?_) (fun cdv A outer s H vs Q E hr h => ?_)
  · obtain ⟨v, rfl, _⟩ := h
    rfl
  · obtain ⟨v, rfl, kd, q⟩ := h
    refine ⟨_, (pss_one (ps_ret (pe_callF G_is_text_of (hr.mono (by decide)) (by rfl) pass0 (pa_cons (pv 0) (pa_cons (pe_glob (v := .str LET) (by rfl) e1 ⟨_, rfl⟩) (pa_cons (pe_glob (v := .int 8) (by rfl) e2 ⟨_, rfl⟩) pa_nil)))))), ?_⟩
    exact ⟨v, rfl, v, LET, 8, rfl, kd, q⟩
def DIG : Str := "0123456789"
def WSG : Str := LET ++ DIG
structure TxtW (mg : Str → Option Value) : Prop where
  dg : ∃ t, mg "DIGITS" = some (.str DIG t)
  ln : ∃ t, mg "LONGEST_WORD" = some (.int 12 t)
def spWord (K : PySem.W.Frag) : Sp := fun vs H Q _ => ∃ v : V, vs = [v] ∧ Kd K H v ∧ ∀ H', Same H H' → Q (.bl (textOf v WSG 12)) H'
theorem ok_word {f : Addr} {fd : FuncData} (F : Fun K "is_word" "is_word" s_is_word f fd) (C : TxtC mg) (D : TxtW mg) (G_is_text_of : Fk P w K mg base CX0 1 "is_text_of" ["value", "characters", "longest"] (spText K)) :
    FnOk P w K mg base CX0 2 f fd ["value"] (spWord K) := by
  obtain ⟨t1, e1⟩ := C.lt
  obtain ⟨t2, e2⟩ := D.dg
  obtain ⟨t3, e3⟩ := D.ln
  refine F.ok sc_is_word (fun vs H Q E h => ?_) (fun cdv A outer s H vs Q E hr h => ?_)
  · obtain ⟨v, rfl, _⟩ := h
    rfl
  · obtain ⟨v, rfl, kd, q⟩ := h
    refine ⟨_, (pss_one (ps_ret (pe_callF G_is_text_of (hr.mono (by decide)) (by rfl) pass0 (pa_cons (pv 0) (pa_cons (pe_op op_add_str (pe_glob (v := .str LET) (by rfl) e1 ⟨_, rfl⟩) (pe_glob (v := .str DIG) (by rfl) e2 ⟨_, rfl⟩)) (pa_cons (pe_glob (v := .int 12) (by rfl) e3 ⟨_, rfl⟩) pa_nil)))))), ?_⟩
    exact ⟨v, rfl, LET, DIG, rfl, rfl, (by decide +kernel), v, WSG, 12, rfl, kd, q⟩
end
end My

namespace My
open PySem PySem.Spec PyProof.Rows L2 Gy Xl Xs Xt
/-! ### what a relink is, over data -/
mutual
/-- few and short parts -/
def sml : PyData → Bool
  | .str x => decide (x.length ≤ 20)
  | .int _ => true
  | .list ds => decide (ds.length ≤ 14) && smls ds
  | .tuple ds => decide (ds.length ≤ 14) && smls ds
  | .dict kvs => kvs.isEmpty
  | .none => true
  | .bool _ => true
def smls : List PyData → Bool
  | [] => true
  | d :: ds => sml d && smls ds
end
theorem smls_mem : ∀ {ds : List PyData} {d : PyData}, smls ds = true → d ∈ ds → sml d = true
  | e :: ds, d, h, m => by
    have h2 : sml e = true ∧ smls ds = true := by simpa only [smls, Bool.and_eq_true] using h
    rcases List.mem_cons.mp m with rfl | m
    · exact h2.1
    · exact smls_mem h2.2 m
def isHost : PyData → Bool
  | .str x => decide ((1 : Int) ≤ (x.length : Int)) && decide ((x.length : Int) ≤ 8) && allIn LET x
  | _ => false
def txts : List PyData → List Str
  | [] => []
  | .str x :: ds => x :: txts ds
  | _ :: ds => txts ds
def isPath : PyData → Bool
  | .tuple ds => decide (3 ≤ ds.length) && (ds.all isHost && decide ((txts ds).Nodup))
  | _ => false
/-- a whole number from 0 on, below another -/
def isIdx (n : Int) : PyData → Bool
  | .int i => decide (0 ≤ i) && decide (i < n)
  | _ => false
theorem isPath_t (ds : List PyData) : isPath (.tuple ds) = (decide (3 ≤ ds.length) && (ds.all isHost && decide ((txts ds).Nodup))) := rfl
theorem isIdx_i (n i : Int) : isIdx n (.int i) = (decide (0 ≤ i) && decide (i < n)) := rfl
def isRel : PyData → Bool
  | .tuple [.tuple ds, c] => isPath (.tuple ds) && isIdx ((ds.length : Int) - 1) c
  | _ => false
theorem txts_all : ∀ {ds : List PyData}, ds.all isHost = true → ds = (txts ds).map PyData.str
  | [], _ => rfl
  | d :: ds, h => by
    have h2 : isHost d = true ∧ ds.all isHost = true := by simpa only [List.all_cons, Bool.and_eq_true] using h
    cases d with
    | str x =>
      show PyData.str x :: ds = PyData.str x :: (txts ds).map PyData.str
      rw [← txts_all h2.2]
    | _ => cases h2.1
section
variable {P : Program} {w : World} {K : PySem.W.Frag} {mg : Str → Option Value} {base : Heap} {H : Hp}
theorem Dns.len : ∀ {vs : List V} {ds : List PyData}, Dns K H vs ds → vs.length = ds.length
  | _, _, .nil => rfl
  | _, _, .cons h t => by rw [List.length_cons, List.length_cons, Dns.len t]
theorem Dns.get : ∀ {vs : List V} {ds : List PyData}, Dns K H vs ds → ∀ {i : Nat} {v : V}, vs[i]? = some v → ∃ d, ds[i]? = some d ∧ Dn K H v d
  | _, _, .nil, i, v, e => by simp at e
  | _, _, .cons h t, 0, v, e => by
    simp at e
    subst e
    exact ⟨_, rfl, h⟩
  | _, _, .cons h t, i + 1, v, e => by
    simp only [List.getElem?_cons_succ] at e ⊢
    exact Dns.get t e
theorem Dns.txts : ∀ {vs : List V} {xs : List Str}, Dns K H vs (xs.map PyData.str) → vs = xs.map V.str
  | _, [], .nil => rfl
  | _, x :: xs, .cons h t => by
    cases h
    rw [Dns.txts t]
    rfl
theorem kd_dn {v : V} {d : PyData} (h : Dn K H v d) (s : sml d = true) : Kd K H v := by
  cases h with
  | non => exact .oth (.base .non) (by decide +kernel) (fun x z => nomatch z)
  | bl b => exact .oth (.base (.bl b)) (by decide +kernel) (fun x z => nomatch z)
  | int i => exact .oth (.base (.int i)) (by decide +kernel) (fun x z => nomatch z)
  | str x =>
    have : x.length ≤ 20 := by simpa only [sml, decide_eq_true_eq] using s
    exact .str x (le200 (by omega))
  | lst e _ => exact .oth (.base (.lst e)) (by decide +kernel) (fun x z => nomatch z)
  | tup e _ => exact .oth e.ty (by decide +kernel) (fun x z => nomatch z)
  | dic e => exact .oth (.base (.dK e)) (by decide +kernel) (fun x z => nomatch z)
theorem host_dn {v : V} {d : PyData} (h : Dn K H v d) : textOf v LET 8 = isHost d := by
  cases h <;> rfl
/-- the kind of a value, and whether it is a tuple -/
theorem tup_or {v : V} {d : PyData} (h : Dn K H v d) : (∃ a xs ds, v = .ref a ∧ d = .tuple ds ∧ Tz H a xs ∧ Dns K H xs ds) ∨ ((∀ ds, d ≠ .tuple ds) ∧ ∃ t, TyX K H v (.type t) ∧ kitB t "tuple" = some false) := by
  cases h with
  | non => exact .inr ⟨(fun _ z => nomatch z), _, .base .non, by decide +kernel⟩
  | bl b => exact .inr ⟨(fun _ z => nomatch z), _, .base (.bl b), by decide +kernel⟩
  | int i => exact .inr ⟨(fun _ z => nomatch z), _, .base (.int i), by decide +kernel⟩
  | str x => exact .inr ⟨(fun _ z => nomatch z), _, .base (.str x), by decide +kernel⟩
  | lst e _ => exact .inr ⟨(fun _ z => nomatch z), _, .base (.lst e), by decide +kernel⟩
  | tup e t => exact .inl ⟨_, _, _, rfl, rfl, e, t⟩
  | dic e => exact .inr ⟨(fun _ z => nomatch z), _, .base (.dK e), by decide +kernel⟩
/-- whether it is a whole number, or True, False -/
theorem int_or {v : V} {d : PyData} (h : Dn K H v d) : (∃ i, v = .int i ∧ d = .int i) ∨ (∃ b, v = .bl b ∧ d = .bool b) ∨ ((∀ i, d ≠ .int i) ∧ ∃ t, TyX K H v (.type t) ∧ kitB t "int" = some false) := by
  cases h with
  | non => exact .inr (.inr ⟨(fun _ z => nomatch z), _, .base .non, by decide +kernel⟩)
  | bl b => exact .inr (.inl ⟨b, rfl, rfl⟩)
  | int i => exact .inl ⟨i, rfl, rfl⟩
  | str x => exact .inr (.inr ⟨(fun _ z => nomatch z), _, .base (.str x), by decide +kernel⟩)
  | lst e _ => exact .inr (.inr ⟨(fun _ z => nomatch z), _, .base (.lst e), by decide +kernel⟩)
  | tup e _ => exact .inr (.inr ⟨(fun _ z => nomatch z), _, e.ty, by decide +kernel⟩)
  | dic e => exact .inr (.inr ⟨(fun _ z => nomatch z), _, .base (.dK e), by decide +kernel⟩)
def spPath (K : PySem.W.Frag) : Sp := fun vs H Q _ => ∃ (v : V) (d : PyData), vs = [v] ∧ Dn K H v d ∧ sml d = true ∧ ∀ H', Same H H' → Q (.bl (isPath d)) H'
theorem ok_path {f : Addr} {fd : FuncData} (F : Fun K "is_relink_path" "is_relink_path" s_is_relink_path f fd) (Y : Bn mg) (sp : ∃ t, mg "SHORTEST_PATH" = some (.int 3 t))
    (G_is_host_name : Fk P w K mg base CX0 2 "is_host_name" ["value"] (spHost K)) : FnOk P w K mg base CX0 3 f fd ["value"] (spPath K) := by
  obtain ⟨t1, e1⟩ := sp
  refine F.ok sc_is_relink_path (fun vs H Q E h => ?_) (fun cdv A outer s H vs Q E hr h => ?_)
  · obtain ⟨v, d, rfl, _⟩ := h
    rfl
  · obtain ⟨v, d, rfl, dn, sm, q⟩ := h
    refine ⟨_, (pss_cons (ps_if (PW.pt (pw_or (pt_not (pt_val (pe_callB call_isi (by rfl) Y.isinstance (by decide +kernel) (pa_cons (pv 0) (pa_cons (pe_bltn (v := .ty "tuple") (by rfl) Y.tuple (by decide +kernel) rfl) pa_nil))))) (pw_or1 (pt_cmpR op_lt (pe_callB call_len_seq (by rfl) Y.len PySem.boot_len (pa_cons (pv 0) pa_nil)) (pe_glob (v := .int 3) (by rfl) e1 ⟨_, rfl⟩) (nomark _)))))
 (pss_one (ps_ret pe_bl))
 pss_nil)
 (pss_one (ps_ret (pe_and (pe_callB (cr_all rfl) (by rfl) Y.all (by decide +kernel) (pa_cons (pe_lc (own := [("host", 1)]) (g := gName 1) (tt := tYes) rfl sc_is_relink_path.nd (pi_tup (pv 0)) (blkOk_by (N := ["value", "host"]) (sc := defScope s_is_relink_path) (by decide +kernel)) (fun _ _ _ _ _ => (pg_name (i := 1) sc_is_relink_path.nd rfl (Or.inl rfl))) (fun _ _ _ _ _ => pts_nil) (fun _ _ _ _ _ => (pe_callF G_is_host_name (hr.mono (by decide)) (by rfl) pass0 (pa_cons (pv 1) pa_nil)))) pa_nil)) (pe_one (pe_cmpR op_eq (pe_lenTexts (by rfl) Y.len (by rfl) Y.set (pv 0)) (pe_callB call_len_seq (by rfl) Y.len PySem.boot_len (pa_cons (pv 0) pa_nil)) (nomark _))))))), ?_⟩
    rcases tup_or dn with ⟨a, xs, ds, rfl, rfl, ha, hd⟩ | ⟨no, t, ty, kt⟩
    · have sm2 : ds.length ≤ 14 ∧ smls ds = true := by simpa only [sml, Bool.and_eq_true, decide_eq_true_eq] using sm
      have el := Dns.len hd
      refine ⟨_, rfl, _, _, _, _, true, rfl, .ty "tuple", ha.ty, kit_ty (by decide +kernel), _, rfl, iteF ?_⟩
      refine ⟨_, rfl, a, _, rfl, .inr (ha.sq), _, 3, rfl, rfl, _, rfl, ite2 (fun c => ?_) (fun c => ?_)⟩
      · have c' := of_decide_eq_true c
        have z : isPath (.tuple ds) = false := by
          rw [isPath_t]
          rw [decide_eq_false (show ¬ 3 ≤ ds.length by omega), Bool.false_and]
        rw [z] at q
        exact q _ (Same.refl _)
      · have c' : ¬ (xs.length : Int) < 3 := fun z => c (decide_eq_true z)
        refine ⟨_, rfl, a, rfl, ⟨_, ha.sq⟩, fun D hD => ?_⟩
        refine lc_it (walk_tup (K := K) (a := a) (xs := xs)) (fun i H' => Same H H' ∧ H' D = some (.lst (((ds.take i).map isHost).map V.bl))) ⟨same_upd hD, upd_same⟩ (fun i H' _ h => (ha.same h.1).sq) ?_ ?_
        · rintro i y H1 H2 hi ⟨s1, hL⟩ ⟨rfl, hy⟩
          obtain ⟨di, hdi, dni⟩ := Dns.get hd hy
          refine ⟨rfl, ?_⟩
          dsimp only [tYes]
          refine iteT ?_
          refine ⟨_, rfl, y, rfl, kd_dn (dni.same s1) (smls_mem sm2.2 (List.mem_of_getElem? hdi)), fun H3 s3 => ?_⟩
          refine ⟨_, s3 _ _ hL, ?_, same_upd2 (s1.trans s3) hD, ?_⟩
          · rw [List.length_map, List.length_map, List.length_take]
            exact small200 (by omega)
          · rw [upd_same, host_dn dni, List.take_add_one, hdi, List.map_append, List.map_append]
            rfl
        · rintro H1 ⟨s1, hL⟩
          rw [el, List.take_of_length_le (Nat.le_refl _)] at hL
          refine ⟨D, _, rfl, SqL.of hL, _, rfl, ite2 (fun c1 => ?_) (fun c1 => ?_)⟩
          · rw [List.all_map] at c1
            have c2 : ds.all isHost = true := c1
            have e := txts_all c2
            have ha1 := ha.same s1
            have ex : xs = (txts ds).map V.str := by
              rw [e] at hd
              exact Dns.txts hd
            have el2 : xs.length = (txts ds).length := by rw [ex, List.length_map]
            refine ⟨_, rfl, a, txts ds, rfl, (by rw [← ex]; exact ha1.sq), (by omega), _, rfl, a, _, rfl, .inr (ha1.sq), rfl, ?_⟩
            have z : isPath (.tuple ds) = decide (V.int ((numd (txts ds) (txts ds).length : Nat) : Int) = V.int (xs.length : Int)) := by
              rw [isPath_t]
              rw [c2, decide_eq_true (show 3 ≤ ds.length by omega), Bool.true_and, Bool.true_and]
              congr 1
              have nf := numd_full (txts ds) (txts ds).length (Nat.le_refl _)
              rw [List.take_of_length_le (Nat.le_refl _)] at nf
              rw [← nf, eq_iff_iff, el2]
              refine ⟨fun z => by rw [z], fun z => ?_⟩
              injection z with z
              omega
            rw [← z]
            exact q _ s1
          · rw [List.all_map] at c1
            have c2 : ds.all isHost = false := Bool.eq_false_iff.mpr c1
            have z : isPath (.tuple ds) = false := by
              rw [isPath_t]
              rw [c2, Bool.false_and, Bool.and_false]
            rw [z] at q
            exact q _ s1
    · refine ⟨v, rfl, v, _, _, _, false, rfl, .ty "tuple", ty, kit_ty kt, _, rfl, ?_⟩
      refine iteT (iteT ?_)
      have z : isPath d = false := by
        cases d with
        | tuple ds => exact absurd rfl (no ds)
        | _ => rfl
      rw [z] at q
      exact q _ (Same.refl _)
/-! ### whole numbers, the cut -/
/-- a whole number from another on -/
def isFrom (n : Int) : PyData → Bool
  | .int i => decide (n ≤ i)
  | _ => false
def spFrom (K : PySem.W.Frag) : Sp := fun vs H Q _ => ∃ (v : V) (n : Int) (d : PyData), vs = [v, .int n] ∧ Dn K H v d ∧ Q (.bl (isFrom n d)) H
theorem ok_from {f : Addr} {fd : FuncData} (F : Fun K "is_integer_from" "is_integer_from" s_is_integer_from f fd) (Y : Bn mg) : FnOk P w K mg base CX0 1 f fd ["value", "least"] (spFrom K) := by
  refine F.ok sc_is_integer_from (fun vs H Q E h => ?_) (fun cdv A outer s H vs Q E hr h => ?_)
  · obtain ⟨v, n, d, rfl, _⟩ := h
    rfl
  · obtain ⟨v, n, d, rfl, dn, q⟩ := h
    refine ⟨_, (pss_one (ps_ret (pe_and (pe_callB call_isi (by rfl) Y.isinstance (by decide +kernel) (pa_cons (pv 0) (pa_cons (pe_bltn (v := .ty "int") (by rfl) Y.int (by decide +kernel) rfl) pa_nil))) (pe_and (pe_not (pe_callB call_isi (by rfl) Y.isinstance (by decide +kernel) (pa_cons (pv 0) (pa_cons (pe_bltn (v := .ty "bool") (by rfl) Y.bool (by decide +kernel) rfl) pa_nil)))) (pe_one (pe_cmpR op_ge (pv 0) (pv 1) (nomark _))))))), ?_⟩
    rcases int_or dn with ⟨i, rfl, rfl⟩ | ⟨b, rfl, rfl⟩ | ⟨no, t, ty, kt⟩
    · refine ⟨_, rfl, _, _, _, _, true, rfl, .ty "int", .base (.int i), kit_ty (by decide +kernel), _, rfl, iteT ?_⟩
      refine ⟨_, rfl, _, _, _, _, false, rfl, .ty "bool", .base (.int i), kit_ty (by decide +kernel), _, rfl, _, rfl, iteT ?_⟩
      exact ⟨_, rfl, _, rfl, _, _, rfl, rfl, q⟩
    · refine ⟨_, rfl, _, _, _, _, true, rfl, .ty "int", .base (.bl b), kit_ty (by decide +kernel), _, rfl, iteT ?_⟩
      refine ⟨_, rfl, _, _, _, _, true, rfl, .ty "bool", .base (.bl b), kit_ty (by decide +kernel), _, rfl, _, rfl, iteF ?_⟩
      exact q
    · refine ⟨v, rfl, v, _, _, _, false, rfl, .ty "int", ty, kit_ty kt, _, rfl, iteF ?_⟩
      have z : isFrom n d = false := by
        cases d with
        | int i => exact absurd rfl (no i)
        | _ => rfl
      rw [z] at q
      exact q
def spIdx (K : PySem.W.Frag) : Sp := fun vs H Q _ => ∃ (v : V) (n : Int) (d : PyData), vs = [v, .int n] ∧ Dn K H v d ∧ Q (.bl (isIdx n d)) H
theorem ok_idx {f : Addr} {fd : FuncData} (F : Fun K "is_index" "is_index" s_is_index f fd) (G_is_integer_from : Fk P w K mg base CX0 1 "is_integer_from" ["value", "least"] (spFrom K)) : FnOk P w K mg base CX0 2 f fd ["value", "size"] (spIdx K) := by
  refine F.ok sc_is_index (fun vs H Q E h => ?_) (fun cdv A outer s H vs Q E hr h => ?_)
  · obtain ⟨v, n, d, rfl, _⟩ := h
    rfl
  · obtain ⟨v, n, d, rfl, dn, q⟩ := h
    refine ⟨_, (pss_one (ps_ret (pe_and (pe_callF G_is_integer_from (hr.mono (by decide)) (by rfl) pass0 (pa_cons (pv 0) (pa_cons pe_int pa_nil))) (pe_one (pe_cmpR op_lt (pv 0) (pv 1) (nomark _)))))), ?_⟩
    refine ⟨_, rfl, v, 0, d, rfl, dn, _, rfl, ite2 (fun c => ?_) (fun c => ?_)⟩
    · cases d with
      | int i =>
        cases dn
        refine ⟨_, rfl, _, rfl, _, _, rfl, rfl, ?_⟩
        have z : isIdx n (.int i) = decide (i < n) := by
          rw [isIdx_i]
          have c' : decide ((0 : Int) ≤ i) = true := c
          rw [c', Bool.true_and]
        rw [z] at q
        exact q
      | _ => cases c
    · have z : isIdx n d = false := by
        cases d with
        | int i =>
          rw [isIdx_i]
          have c' : decide ((0 : Int) ≤ i) = false := Bool.eq_false_iff.mpr c
          rw [c', Bool.false_and]
        | _ => rfl
      rw [z] at q
      exact q
def spCut (K : PySem.W.Frag) : Sp := fun vs H Q _ => ∃ (a : Addr) (xs : List V) (v : V) (d : PyData), vs = [.ref a, v] ∧ Tz H a xs ∧ Dn K H v d ∧ Q (.bl (isIdx ((xs.length : Int) - 1) d)) H
theorem ok_cut {f : Addr} {fd : FuncData} (F : Fun K "is_cut_of" "is_cut_of" s_is_cut_of f fd) (Y : Bn mg) (G_is_index : Fk P w K mg base CX0 2 "is_index" ["value", "size"] (spIdx K)) : FnOk P w K mg base CX0 3 f fd ["path", "value"] (spCut K) := by
  refine F.ok sc_is_cut_of (fun vs H Q E h => ?_) (fun cdv A outer s H vs Q E hr h => ?_)
  · obtain ⟨a, xs, v, d, rfl, _⟩ := h
    rfl
  · obtain ⟨a, xs, v, d, rfl, ha, dn, q⟩ := h
    refine ⟨_, (pss_one (ps_ret (pe_callF G_is_index (hr.mono (by decide)) (by rfl) pass0 (pa_cons (pv 1) (pa_cons (pe_op op_sub (pe_callB call_len_seq (by rfl) Y.len PySem.boot_len (pa_cons (pv 0) pa_nil)) pe_int) pa_nil))))), ?_⟩
    exact ⟨_, rfl, _, rfl, a, _, rfl, .inr ha.sq, _, _, rfl, rfl, v, _, d, rfl, dn, q⟩
/-! ### is_relink -/
def spRel (K : PySem.W.Frag) : Sp := fun vs H Q _ => ∃ (v : V) (d : PyData), vs = [v] ∧ Dn K H v d ∧ sml d = true ∧ ∀ H', Same H H' → Q (.bl (isRel d)) H'
theorem isRel_2 (p c : PyData) : isRel (.tuple [p, c]) = (isPath p && (match p with | .tuple ds => isIdx ((ds.length : Int) - 1) c | _ => false)) := by
  cases p <;> rfl
theorem isRel_n {ds : List PyData} (h : ds.length ≠ 2) : isRel (.tuple ds) = false := by
  match ds, h with
  | [], _ => rfl
  | [p], _ => cases p <;> rfl
  | p :: c :: e :: ds, _ => cases p <;> rfl
  | [p, c], h => exact absurd rfl h
theorem ok_rel {f : Addr} {fd : FuncData} (F : Fun K "is_relink" "is_relink" s_is_relink f fd) (Y : Bn mg) (G_is_relink_path : Fk P w K mg base CX0 3 "is_relink_path" ["value"] (spPath K)) (G_is_cut_of : Fk P w K mg base CX0 3 "is_cut_of" ["path", "value"] (spCut K)) :
    FnOk P w K mg base CX0 4 f fd ["value"] (spRel K) := by
  refine F.ok sc_is_relink (fun vs H Q E h => ?_) (fun cdv A outer s H vs Q E hr h => ?_)
  · obtain ⟨v, d, rfl, _⟩ := h
    rfl
  · obtain ⟨v, d, rfl, dn, sm, q⟩ := h
    refine ⟨_, (pss_cons (ps_if (PW.pt (pw_or (pt_not (pt_val (pe_callB call_isi (by rfl) Y.isinstance (by decide +kernel) (pa_cons (pv 0) (pa_cons (pe_bltn (v := .ty "tuple") (by rfl) Y.tuple (by decide +kernel) rfl) pa_nil))))) (pw_or1 (pt_cmpR op_ne (pe_callB call_len_seq (by rfl) Y.len PySem.boot_len (pa_cons (pv 0) pa_nil)) pe_int (nomark _)))))
 (pss_one (ps_ret pe_bl))
 pss_nil)
 (pss_cons (ps_asg (pv 0) (pg_tup (by rfl) (pgs_cons (pg_name (i := 1) sc_is_relink.nd rfl (Or.inl rfl)) (pgs_cons (pg_name (i := 2) sc_is_relink.nd rfl (Or.inl rfl)) pgs_nil))))
 (pss_one (ps_ret (pe_and (pe_callF G_is_relink_path (hr.mono (by decide)) (by rfl) pass0 (pa_cons (pv 1) pa_nil)) (pe_one (pe_callF G_is_cut_of (hr.mono (by decide)) (by rfl) pass0 (pa_cons (pv 1) (pa_cons (pv 2) pa_nil))))))))), ?_⟩
    rcases tup_or dn with ⟨a, xs, ds, rfl, rfl, ha, hd⟩ | ⟨no, t, ty, kt⟩
    · have sm2 : ds.length ≤ 14 ∧ smls ds = true := by simpa only [sml, Bool.and_eq_true, decide_eq_true_eq] using sm
      have el := Dns.len hd
      refine ⟨_, rfl, _, _, _, _, true, rfl, .ty "tuple", ha.ty, kit_ty (by decide +kernel), _, rfl, iteF ?_⟩
      refine ⟨_, rfl, a, _, rfl, .inr (ha.sq), rfl, _, rfl, ite2 (fun c => ?_) (fun c => ?_)⟩
      · have c' : ds.length ≠ 2 := fun z => by
          rw [decide_eq_true (show V.int (xs.length : Int) = V.int 2 by rw [el, z]; rfl)] at c
          cases c
        rw [isRel_n c'] at q
        exact q _ (Same.refl _)
      · have c' : xs.length = 2 := by
          have z : V.int (xs.length : Int) = V.int 2 := Decidable.of_not_not fun z => c (by rw [decide_eq_false z]; rfl)
          injection z with z
          omega
        obtain ⟨p, c0, rfl⟩ : ∃ p c0, xs = [p, c0] := by
          match xs, c' with
          | [p, c0], _ => exact ⟨p, c0, rfl⟩
        cases hd with
        | @cons _ _ dp _ h1 hd =>
        cases hd with
        | @cons _ _ dc _ h2 hd =>
          cases hd
          have m1 : sml dp = true := smls_mem sm2.2 List.mem_cons_self
          rw [isRel_2] at q
          refine ⟨_, rfl, a, _, rfl, ha.sq, rfl, _, _, rfl, _, _, rfl, rfl, ?_⟩
          refine ⟨_, rfl, p, dp, rfl, h1, m1, fun H1 s1 => ⟨_, rfl, ite2 (fun c1 => ?_) (fun c1 => ?_)⟩⟩
          · rw [c1, Bool.true_and] at q
            rcases tup_or h1 with ⟨b, ys, es, rfl, rfl, hb, hes⟩ | ⟨no, _⟩
            · have el2 := Dns.len hes
              refine ⟨_, rfl, _, rfl, b, ys, c0, dc, rfl, hb.same s1, h2.same s1, ?_⟩
              rw [el2]
              exact q _ s1
            · cases dp with
              | tuple es => exact absurd rfl (no es)
              | _ => cases c1
          · rw [Bool.eq_false_iff.mpr c1, Bool.false_and] at q
            exact q _ s1
    · refine ⟨v, rfl, v, _, _, _, false, rfl, .ty "tuple", ty, kit_ty kt, _, rfl, ?_⟩
      refine iteT (iteT ?_)
      have z : isRel d = false := by
        cases d with
        | tuple ds => exact absurd rfl (no ds)
        | _ => rfl
      rw [z] at q
      exact q _ (Same.refl _)
end
end My

namespace My
open PySem PySem.Spec PyProof.Rows L2 Gy Xl Xs Xt
/-! ### control items: their kinds, which of them a host receives, the step -/
def KINDS : List Str := ["ask", "no", "yes", "go", "back"]
def isKind : PyData → Bool
  | .str x => decide (x ∈ KINDS)
  | _ => false
/-- the written tuple of the kinds -/
def KindsAt (o : Obj) : Prop := ∃ (its : Array Value) (n : Nat), o.cls = .type "tuple" ∧ o.data = .seq its n ∧ its.size ≤ sizeLine ∧ Vals (KINDS.map V.str) its.toList
structure TxtK (K : PySem.W.Frag) (mg : Str → Option Value) : Prop where
  ex : ∃ (a : Addr) (o : Obj), mg "CONTROL_KINDS" = some (.ref a) ∧ K.lookup a = some o ∧ KindsAt o
/-- whether a value is a text -/
theorem str_or {K : PySem.W.Frag} {H : Hp} {v : V} {d : PyData} (h : Dn K H v d) : (∃ x, v = .str x ∧ d = .str x) ∨ ((∀ x, d ≠ .str x) ∧ ∃ t, TyX K H v (.type t) ∧ kitB t "str" = some false) := by
  cases h with
  | non => exact .inr ⟨(fun _ z => nomatch z), _, .base .non, by decide +kernel⟩
  | bl b => exact .inr ⟨(fun _ z => nomatch z), _, .base (.bl b), by decide +kernel⟩
  | int i => exact .inr ⟨(fun _ z => nomatch z), _, .base (.int i), by decide +kernel⟩
  | str x => exact .inl ⟨x, rfl, rfl⟩
  | lst e _ => exact .inr ⟨(fun _ z => nomatch z), _, .base (.lst e), by decide +kernel⟩
  | tup e t => exact .inr ⟨(fun _ z => nomatch z), _, e.ty, by decide +kernel⟩
  | dic e => exact .inr ⟨(fun _ z => nomatch z), _, .base (.dK e), by decide +kernel⟩
section
variable {P : Program} {w : World} {K : PySem.W.Frag} {mg : Str → Option Value} {base : Heap} {H : Hp}
def spKind (K : PySem.W.Frag) : Sp := fun vs H Q _ => ∃ (v : V) (d : PyData), vs = [v] ∧ Dn K H v d ∧ Q (.bl (isKind d)) H
theorem ok_kind {f : Addr} {fd : FuncData} (F : Fun K "is_control_kind" "is_control_kind" s_is_control_kind f fd) (Y : Bn mg) (T : TxtK K mg) : FnOk P w K mg base CX0 1 f fd ["value"] (spKind K) := by
  obtain ⟨ck, o, gm, lk, its, n, o1, o2, o3, o4⟩ := T.ex
  refine F.ok sc_is_control_kind (fun vs H Q E h => ?_) (fun cdv A outer s H vs Q E hr h => ?_)
  · obtain ⟨v, d, rfl, _⟩ := h
    rfl
  · obtain ⟨v, d, rfl, dn, q⟩ := h
    refine ⟨_, (pss_one (ps_ret (pe_and (pe_callB call_isi (by rfl) Y.isinstance (by decide +kernel) (pa_cons (pv 0) (pa_cons (pe_bltn (v := .ty "str") (by rfl) Y.str (by decide +kernel) rfl) pa_nil))) (pe_one (pe_cmpR op_in_seq (pv 0) (pe_glob (v := .ref ck) (by rfl) gm rfl) rfl))))), ?_⟩
    rcases str_or dn with ⟨x, rfl, rfl⟩ | ⟨no, t, ty, kt⟩
    · refine ⟨_, rfl, _, _, _, _, true, rfl, .ty "str", .base (.str x), kit_ty (by decide +kernel), _, rfl, iteT ?_⟩
      refine ⟨_, rfl, ck, _, rfl, .inr (.inr ⟨o, its, n, lk, o1, o2, o3, o4⟩), rfl, flat_strs _, ?_⟩
      show Q (.bl (inV (.str x) (KINDS.map V.str))) H
      rw [inV_strs]
      exact q
    · refine ⟨v, rfl, v, _, _, _, false, rfl, .ty "str", ty, kit_ty kt, _, rfl, iteF ?_⟩
      have z : isKind d = false := by
        cases d with
        | str x => exact absurd rfl (no x)
        | _ => rfl
      rw [z] at q
      exact q
end
end My

namespace My
open PySem PySem.Spec PyProof.Rows L2 Gy Xl Xs Xt
/-! ### items, over data -/
def isWord : PyData → Bool
  | .str x => decide ((1 : Int) ≤ (x.length : Int)) && decide ((x.length : Int) ≤ 12) && allIn WSG x
  | _ => false
def isMsg : List PyData → Bool
  | [w, x, b] => isHost w && (isWord x && isIdx 2 b)
  | _ => false
def isItem : PyData → Bool
  | .tuple (.str k :: ds) => if k = "message" then isMsg ds else if k = "bye" then ds.isEmpty else decide (k ∈ KINDS) && isRel (.tuple ds)
  | _ => false
theorem word_dn {K : PySem.W.Frag} {H : Hp} {v : V} {d : PyData} (h : Dn K H v d) : textOf v WSG 12 = isWord d := by
  cases h <;> rfl
theorem isMsg_n {ds : List PyData} (h : ds.length ≠ 3) : isMsg ds = false := by
  match ds, h with
  | [], _ => rfl
  | [a], _ => rfl
  | [a, b], _ => rfl
  | [a, b, c], h => exact absurd rfl h
  | a :: b :: c :: d :: ds, _ => rfl
theorem cut1 (x : V) (xs : List V) : cutV (x :: xs) (some 1) none = xs := by
  unfold cutV
  rw [show (some 1 : Option Int) = some ((1 : Nat) : Int) from rfl, HT.sIx_nat, HT.sIx_none, List.length_cons, show min 1 (xs.length + 1) = 1 by omega]
  show (List.drop 0 xs).take _ = _
  rw [List.drop_zero, List.take_of_length_le (by omega)]
structure TxtI (mg : Str → Option Value) : Prop where
  ms : ∃ t, mg "MESSAGE" = some (.str "message" t)
  by_ : ∃ t, mg "BYE" = some (.str "bye" t)
  bt : ∃ t, mg "BITS" = some (.int 2 t)
section
variable {P : Program} {w : World} {K : PySem.W.Frag} {mg : Str → Option Value} {base : Heap} {H : Hp}
def spMsg (K : PySem.W.Frag) : Sp := fun vs H Q _ => ∃ (a : Addr) (xs : List V) (ds : List PyData), vs = [.ref a] ∧ Tz H a xs ∧ Dns K H xs ds ∧ smls ds = true ∧ ∀ H', Same H H' → Q (.bl (isMsg ds)) H'
theorem ok_msg {f : Addr} {fd : FuncData} (F : Fun K "are_message_parts" "are_message_parts" s_are_message_parts f fd) (Y : Bn mg) (T : TxtI mg) (G_is_host_name : Fk P w K mg base CX0 2 "is_host_name" ["value"] (spHost K)) (G_is_word : Fk P w K mg base CX0 2 "is_word" ["value"] (spWord K))
    (G_is_index : Fk P w K mg base CX0 2 "is_index" ["value", "size"] (spIdx K)) : FnOk P w K mg base CX0 3 f fd ["parts"] (spMsg K) := by
  obtain ⟨t1, e1⟩ := T.bt
  refine F.ok sc_are_message_parts (fun vs H Q E h => ?_) (fun cdv A outer s H vs Q E hr h => ?_)
  · obtain ⟨a, xs, ds, rfl, _⟩ := h
    rfl
  · obtain ⟨a, xs, ds, rfl, ha, hd, sm, q⟩ := h
    have el := Dns.len hd
    refine ⟨_, (pss_cons (ps_if (pt_cmpR op_ne (pe_callB call_len_seq (by rfl) Y.len PySem.boot_len (pa_cons (pv 0) pa_nil)) pe_int (nomark _))
 (pss_one (ps_ret pe_bl))
 pss_nil)
 (pss_cons (ps_asg (pv 0) (pg_tup (by rfl) (pgs_cons (pg_name (i := 1) sc_are_message_parts.nd rfl (Or.inl rfl)) (pgs_cons (pg_name (i := 2) sc_are_message_parts.nd rfl (Or.inl rfl)) (pgs_cons (pg_name (i := 3) sc_are_message_parts.nd rfl (Or.inl rfl)) pgs_nil)))))
 (pss_one (ps_ret (pe_and (pe_callF G_is_host_name (hr.mono (by decide)) (by rfl) pass0 (pa_cons (pv 1) pa_nil)) (pe_and (pe_callF G_is_word (hr.mono (by decide)) (by rfl) pass0 (pa_cons (pv 2) pa_nil)) (pe_one (pe_callF G_is_index (hr.mono (by decide)) (by rfl) pass0 (pa_cons (pv 3) (pa_cons (pe_glob (v := .int 2) (by rfl) e1 ⟨_, rfl⟩) pa_nil)))))))))), ?_⟩
    refine ⟨_, rfl, a, _, rfl, .inr ha.sq, rfl, _, rfl, ite2 (fun c => ?_) (fun c => ?_)⟩
    · have c' : ds.length ≠ 3 := fun z => by
        rw [decide_eq_true (show V.int (xs.length : Int) = V.int 3 by rw [el, z]; rfl)] at c
        cases c
      rw [isMsg_n c'] at q
      exact q _ (Same.refl _)
    · have c' : xs.length = 3 := by
        have z : V.int (xs.length : Int) = V.int 3 := Decidable.of_not_not fun z => c (by rw [decide_eq_false z]; rfl)
        injection z with z
        omega
      obtain ⟨x, y, z, rfl⟩ : ∃ x y z, xs = [x, y, z] := by
        match xs, c' with
        | [x, y, z], _ => exact ⟨x, y, z, rfl⟩
      cases hd with
      | @cons _ _ dx _ h1 hd =>
      cases hd with
      | @cons _ _ dy _ h2 hd =>
      cases hd with
      | @cons _ _ dz _ h3 hd =>
        cases hd
        have m1 : sml dx = true := smls_mem sm List.mem_cons_self
        have m2 : sml dy = true := smls_mem sm (List.mem_cons_of_mem _ List.mem_cons_self)
        refine ⟨_, rfl, a, _, rfl, ha.sq, rfl, _, _, rfl, _, _, rfl, _, _, rfl, rfl, ?_⟩
        have e : isMsg [dx, dy, dz] = (isHost dx && (isWord dy && isIdx 2 dz)) := rfl
        rw [e] at q
        refine ⟨_, rfl, x, rfl, kd_dn h1 m1, fun H1 s1 => ?_⟩
        rw [host_dn h1]
        refine ⟨_, rfl, ite2 (fun c1 => ?_) (fun c1 => ?_)⟩
        · rw [c1, Bool.true_and] at q
          refine ⟨_, rfl, y, rfl, kd_dn (h2.same s1) m2, fun H2 s2 => ?_⟩
          rw [word_dn h2]
          refine ⟨_, rfl, ite2 (fun c2 => ?_) (fun c2 => ?_)⟩
          · rw [c2, Bool.true_and] at q
            exact ⟨_, rfl, z, 2, dz, rfl, (h3.same s1).same s2, q _ (s1.trans s2)⟩
          · rw [Bool.eq_false_iff.mpr c2, Bool.false_and] at q
            exact q _ (s1.trans s2)
        · rw [Bool.eq_false_iff.mpr c1, Bool.false_and] at q
          exact q _ s1
def spItem (K : PySem.W.Frag) : Sp := fun vs H Q _ => ∃ (v : V) (d : PyData), vs = [v] ∧ Dn K H v d ∧ sml d = true ∧ ∀ H', Same H H' → Q (.bl (isItem d)) H'
theorem smls_tail {d : PyData} {ds : List PyData} (h : smls (d :: ds) = true) : smls ds = true := by
  have h2 : sml d = true ∧ smls ds = true := by simpa only [smls, Bool.and_eq_true] using h
  exact h2.2
theorem ok_item {f : Addr} {fd : FuncData} (F : Fun K "is_item" "is_item" s_is_item f fd) (Y : Bn mg) (T : TxtI mg) (G_are_message_parts : Fk P w K mg base CX0 3 "are_message_parts" ["parts"] (spMsg K)) (G_is_control_kind : Fk P w K mg base CX0 1 "is_control_kind" ["value"] (spKind K))
    (G_is_relink : Fk P w K mg base CX0 4 "is_relink" ["value"] (spRel K)) : FnOk P w K mg base CX0 5 f fd ["value"] (spItem K) := by
  obtain ⟨t1, e1⟩ := T.ms
  obtain ⟨t2, e2⟩ := T.by_
  refine F.ok sc_is_item (fun vs H Q E h => ?_) (fun cdv A outer s H vs Q E hr h => ?_)
  · obtain ⟨v, d, rfl, _⟩ := h
    rfl
  · obtain ⟨v, d, rfl, dn, sm, q⟩ := h
    refine ⟨_, (pss_cons (ps_if (PW.pt (pw_or (pt_not (pt_val (pe_callB call_isi (by rfl) Y.isinstance (by decide +kernel) (pa_cons (pv 0) (pa_cons (pe_bltn (v := .ty "tuple") (by rfl) Y.tuple (by decide +kernel) rfl) pa_nil))))) (pw_or (pt_cmpR op_eq (pe_callB call_len_seq (by rfl) Y.len PySem.boot_len (pa_cons (pv 0) pa_nil)) pe_int (nomark _)) (pw_or1 (pt_not (pt_val (pe_callB call_isi (by rfl) Y.isinstance (by decide +kernel) (pa_cons (pe_ix ix_tup (pv 0) pe_int (fun _ _ => rfl)) (pa_cons (pe_bltn (v := .ty "str") (by rfl) Y.str (by decide +kernel) rfl) pa_nil)))))))))
 (pss_one (ps_ret pe_bl))
 pss_nil)
 (pss_cons (ps_set (i := 1) sc_is_item.nd rfl (.inl rfl) (pe_slice sl_cutA (pv 0) (po_some pe_int) po_none))
 (pss_cons (ps_if (pt_cmpR op_eq (pe_ix ix_tup (pv 0) pe_int (fun _ _ => rfl)) (pe_glob (v := .str "message") (by rfl) e1 ⟨_, rfl⟩) (nomark _))
 (pss_one (ps_ret (pe_callF G_are_message_parts (hr.mono (by decide)) (by rfl) pass0 (pa_cons (pv 1) pa_nil))))
 pss_nil)
 (pss_cons (ps_if (pt_cmpR op_eq (pe_ix ix_tup (pv 0) pe_int (fun _ _ => rfl)) (pe_glob (v := .str "bye") (by rfl) e2 ⟨_, rfl⟩) (nomark _))
 (pss_one (ps_ret (pe_cmpR op_eq (pe_callB call_len_seq (by rfl) Y.len PySem.boot_len (pa_cons (pv 1) pa_nil)) pe_int (nomark _))))
 pss_nil)
 (pss_one (ps_ret (pe_and (pe_callF G_is_control_kind (hr.mono (by decide)) (by rfl) pass0 (pa_cons (pe_ix ix_tup (pv 0) pe_int (fun _ _ => rfl)) pa_nil)) (pe_one (pe_callF G_is_relink (hr.mono (by decide)) (by rfl) pass0 (pa_cons (pv 1) pa_nil)))))))))), ?_⟩
    rcases tup_or dn with ⟨a, xs, ds, rfl, rfl, ha, hd⟩ | ⟨no, t, ty, kt⟩
    · have sm2 : ds.length ≤ 14 ∧ smls ds = true := by simpa only [sml, Bool.and_eq_true, decide_eq_true_eq] using sm
      refine ⟨_, rfl, _, _, _, _, true, rfl, .ty "tuple", ha.ty, kit_ty (by decide +kernel), _, rfl, iteF ?_⟩
      refine ⟨_, rfl, a, _, rfl, .inr ha.sq, rfl, _, rfl, ?_⟩
      cases hd with
      | nil =>
        refine iteT (iteT ?_)
        exact q _ (Same.refl _)
      | @cons x xs d0 ds h0 hd =>
        refine iteF ?_
        refine ⟨_, rfl, a, _, 0, x, rfl, rfl, ha.sq, atI_nat (j := 0) rfl, ?_⟩
        rcases str_or h0 with ⟨k, rfl, rfl⟩ | ⟨no, t, ty, kt⟩
        · refine ⟨_, _, _, _, true, rfl, .ty "str", .base (.str k), kit_ty (by decide +kernel), _, rfl, iteF ?_⟩
          have e : isItem (.tuple (.str k :: ds)) = (if k = "message" then isMsg ds else if k = "bye" then ds.isEmpty else decide (k ∈ KINDS) && isRel (.tuple ds)) := rfl
          rw [e] at q
          refine ⟨_, rfl, 1, rfl, a, _, rfl, ha, ?_⟩
          rw [cut1]
          have el := Dns.len hd
          refine ⟨fun z => ?_, fun p o np st tp => ?_⟩
          · have z := congrArg List.length z
            rw [List.length_cons] at z
            omega
          generalize upd _ p o = H1 at st tp ⊢
          have ha1 := ha.same st
          have hd1 := hd.same st
          have sp : smls ds = true := smls_tail sm2.2
          have lp : ds.length ≤ 14 := by have := sm2.1; rw [List.length_cons] at this; omega
          refine ⟨_, rfl, a, _, 0, _, rfl, rfl, ha1.sq, atI_nat (j := 0) rfl, rfl, _, rfl, ite2 (fun c1 => ?_) (fun c1 => ?_)⟩
          · have c1' : k = "message" := by
              have z := of_decide_eq_true c1
              injection z
            rw [if_pos c1'] at q
            exact ⟨_, rfl, p, _, ds, rfl, tp, hd1, sp, fun H2 s2 => q _ (st.trans s2)⟩
          have c1' : ¬ k = "message" := fun z => c1 (decide_eq_true (by rw [z]))
          rw [if_neg c1'] at q
          refine ⟨_, rfl, a, _, 0, _, rfl, rfl, ha1.sq, atI_nat (j := 0) rfl, rfl, _, rfl, ite2 (fun c2 => ?_) (fun c2 => ?_)⟩
          · have c2' : k = "bye" := by
              have z := of_decide_eq_true c2
              injection z
            rw [if_pos c2'] at q
            refine ⟨_, rfl, p, _, rfl, .inr tp.sq, rfl, ?_⟩
            have z : decide (V.int (xs.length : Int) = V.int 0) = ds.isEmpty := by
              rw [el]
              cases ds with
              | nil => rfl
              | cons y ys =>
                refine decide_eq_false fun w => ?_
                injection w with w
                rw [List.length_cons] at w
                omega
            rw [z]
            exact q _ st
          have c2' : ¬ k = "bye" := fun z => c2 (decide_eq_true (by rw [z]))
          rw [if_neg c2'] at q
          refine ⟨_, rfl, a, _, 0, _, rfl, rfl, ha1.sq, atI_nat (j := 0) rfl, _, .str k, rfl, .str k, _, rfl, ?_⟩
          have ek : isKind (.str k) = decide (k ∈ KINDS) := rfl
          rw [ek]
          refine ite2 (fun c3 => ?_) (fun c3 => ?_)
          · rw [c3, Bool.true_and] at q
            refine ⟨_, rfl, _, .tuple ds, rfl, .tup tp hd1, ?_, fun H2 s2 => q _ (st.trans s2)⟩
            show (decide (ds.length ≤ 14) && smls ds) = true
            rw [decide_eq_true lp, sp]
            rfl
          · rw [Bool.eq_false_iff.mpr c3, Bool.false_and] at q
            exact q _ st
        · refine ⟨_, _, _, _, false, rfl, .ty "str", ty, kit_ty kt, _, rfl, iteT ?_⟩
          have z : isItem (.tuple (d0 :: ds)) = false := by
            cases d0 with
            | str x => exact absurd rfl (no x)
            | _ => rfl
          rw [z] at q
          exact q _ (Same.refl _)
    · refine ⟨v, rfl, v, _, _, _, false, rfl, .ty "tuple", ty, kit_ty kt, _, rfl, ?_⟩
      refine iteT (iteT ?_)
      have z : isItem d = false := by
        cases d with
        | tuple ds => exact absurd rfl (no ds)
        | _ => rfl
      rw [z] at q
      exact q _ (Same.refl _)
end
end My

namespace My
open PySem PySem.Spec PyProof.Rows L2 Gy Xl Xs Xt
/-- a class of errors with one field: raised -/
structure Rz (P : Program) (w : World) (K : PySem.W.Frag) (mg : Str → Option Value) (base : Heap) (nm f : Str) (C : Addr) : Prop where
  gm : mg nm = some (.ref C)
  ty : PySem.W.typeIn K (.ref C) = some (.type "type")
  ex : ∃ (fI : Addr) (fd : FuncData), XIn K C fI ∧ FnOk P w K mg base CX0 1 fI fd ["self", f] (spI1 C f) ∧ XB K fd ["self", f] [] (fun us _ => us) (fun vs _ => vs)
/-- what is wanted where C(v) is raised -/
def Ro (E : XK) (C : Addr) (f : Str) (v : V) (H : Hp) : Prop := ∀ H' dx, Same H H' → H' dx = some (.xd [(f, v)]) → E (.ref C) (some dx) H'
theorem Ro.same {E : XK} {C : Addr} {f : Str} {v : V} {H H1 : Hp} (h : Ro E C f v H) (s : Same H H1) : Ro E C f v H1 := fun H' dx s1 e => h H' dx (s.trans s1) e
theorem le400 {n : Nat} (h : n ≤ 10000) : n ≤ sizeLine := Nat.le_trans h (by decide)
section
variable {P : Program} {w : World} {K : PySem.W.Frag} {mg : Str → Option Value} {base : Heap} {H : Hp}
def spChk (K : PySem.W.Frag) (C : Addr) : Sp := fun vs H Q E => ∃ (v : V) (d : PyData), vs = [v] ∧ Dn K H v d ∧ sml d = true ∧ (isItem d = true → ∀ H', Same H H' → Q .non H') ∧ (isItem d = false → Ro E C "value" v H)
theorem ok_chk {f C : Addr} {fd : FuncData} (F : Fun K "check_item" "check_item" s_check_item f fd) (R : Rz P w K mg base "InvalidItem" "value" C)
    (G_is_item : Fk P w K mg base CX0 5 "is_item" ["value"] (spItem K)) : FnOk P w K mg base (L2.CX P w) 6 f fd ["value"] (spChk K C) := by
  obtain ⟨fI, fdI, XI, GI, bI⟩ := R.ex
  refine F.okX sc_check_item (fun vs H Q E h => ?_) (fun cdv A outer s H vs Q E hr h => ?_)
  · obtain ⟨v, d, rfl, _⟩ := h
    rfl
  · obtain ⟨v, d, rfl, dn, sm, q1, q2⟩ := h
    refine ⟨_, (pss_one (ps_if (pt_not (pt_val (pe_callF G_is_item (hr.mono (by decide)) (by rfl) pass0 (pa_cons (pv 0) pa_nil))))
 (pss_one (ps_raise1 rfl (takes_of rfl rfl rfl rfl) XI R.ty GI (hr.mono (by decide)) bI (by rfl) R.gm (pa_cons (pv 0) pa_nil)))
 pss_nil)), ?_⟩
    refine ⟨_, rfl, v, d, rfl, dn, sm, fun H1 s1 => ⟨_, rfl, ?_⟩⟩
    cases c : isItem d with
    | true => exact iteF (q1 c _ s1)
    | false =>
      refine iteT ⟨_, rfl, v, rfl, fun dx nd => ?_⟩
      exact q2 c _ dx (s1.trans (same_upd nd)) upd_same
end
end My

namespace My
open PySem PySem.Spec PyProof.Rows L2 Gy Xl Xs Xt Xp Xd
/-! ### data without lists stands while lists change -/
/-- what was frozen -/
def fz (H : Hp) : Hp := fun a => match H a with
  | some (.frz o u) => some (.frz o u)
  | _ => none
theorem fz_of {H : Hp} {a : Addr} {o : Obj} {u : HO} (h : H a = some (.frz o u)) : fz H a = some (.frz o u) := by
  unfold fz
  rw [h]
theorem of_fz {H : Hp} {a : Addr} {x : HO} (h : fz H a = some x) : H a = some x ∧ ∃ o u, x = .frz o u := by
  unfold fz at h
  split at h
  · next o u e =>
    injection h with h
    subst h
    exact ⟨e, _, _, rfl⟩
  · cases h
theorem fz_same (H : Hp) : Same (fz H) H := fun b o e => (of_fz e).1
/-- frozen objects stand -/
def FzK (H H' : Hp) : Prop := ∀ b o u, H b = some (.frz o u) → H' b = some (.frz o u)
theorem FzK.refl (H : Hp) : FzK H H := fun _ _ _ e => e
theorem FzK.trans {H H1 H2 : Hp} (a : FzK H H1) (b : FzK H1 H2) : FzK H H2 := fun c o u e => b c o u (a c o u e)
theorem FzK.of {H H' : Hp} (s : Same H H') : FzK H H' := fun b o u e => s b _ e
theorem FzK.upd {H H' : Hp} {a : Addr} {v w : HO} (k : FzK H H') (h : H a = some v) (n : ∀ o u, v ≠ .frz o u) : FzK H (L2.upd H' a w) := fun b o u e => by
  rw [upd_ne fun z => ?_]
  · exact k b o u e
  · rw [z, h] at e
    injection e with e
    exact n o u e
theorem FzK.updN {H H' : Hp} {a : Addr} {w : HO} (k : FzK H H') (n : H a = none) : FzK H (L2.upd H' a w) := fun b o u e => by
  rw [upd_ne (ne_of_none e n)]
  exact k b o u e
theorem fz_keep {H H' : Hp} (h : FzK H H') : Same (fz H) (fz H') := fun b x e => by
  obtain ⟨e1, o, u, rfl⟩ := of_fz e
  exact fz_of (h b o u e1)
mutual
def noL : PyData → Bool
  | .list _ => false
  | .dict _ => false
  | .tuple ds => noLs ds
  | _ => true
def noLs : List PyData → Bool
  | [] => true
  | d :: ds => noL d && noLs ds
end
theorem Tz.fz {H : Hp} {a : Addr} {xs : List V} (h : Tz H a xs) : Tz (My.fz H) a xs := by
  obtain ⟨o, e, c⟩ := h
  exact ⟨o, fz_of e, c⟩
mutual
theorem dn_fz {K : PySem.W.Frag} {H : Hp} : ∀ {v : V} {d : PyData}, Dn K H v d → noL d = true → Dn K (fz H) v d
  | _, _, .non, _ => .non
  | _, _, .bl b, _ => .bl b
  | _, _, .int i, _ => .int i
  | _, _, .str x, _ => .str x
  | _, _, .lst h a, n => nomatch n
  | _, _, .tup h a, n => .tup (Tz.fz h) (dns_fz a n)
  | _, _, .dic h, n => nomatch n
theorem dns_fz {K : PySem.W.Frag} {H : Hp} : ∀ {vs : List V} {ds : List PyData}, Dns K H vs ds → noLs ds = true → Dns K (fz H) vs ds
  | _, _, .nil, _ => .nil
  | _, _, .cons (d := d) (ds := ds) h t, n => by
    have n2 : noL d = true ∧ noLs ds = true := by simpa only [noLs, Bool.and_eq_true] using n
    exact .cons (dn_fz h n2.1) (dns_fz t n2.2)
end
theorem host_str {d : PyData} (h : isHost d = true) : noL d = true := by
  cases d with
  | str x => rfl
  | _ => exact absurd (show false = true from h) (by decide)
theorem word_str {d : PyData} (h : isWord d = true) : noL d = true := by
  cases d with
  | str x => rfl
  | _ => exact absurd (show false = true from h) (by decide)
theorem idx_noL {n : Int} {d : PyData} (h : isIdx n d = true) : noL d = true := by
  cases d with
  | int i => rfl
  | _ => exact absurd (show false = true from h) (by decide)
theorem hosts_noL : ∀ {ds : List PyData}, ds.all isHost = true → noLs ds = true
  | [], _ => rfl
  | d :: ds, h => by
    have h2 : isHost d = true ∧ ds.all isHost = true := by simpa only [List.all_cons, Bool.and_eq_true] using h
    show (noL d && noLs ds) = true
    rw [host_str h2.1, hosts_noL h2.2]
    rfl
theorem item_noL {d : PyData} (h : isItem d = true) : noL d = true := by
  match d, h with
  | .tuple (.str k :: ds), h =>
    show (true && noLs ds) = true
    rw [Bool.true_and]
    have h1 : (if k = "message" then isMsg ds else if k = "bye" then ds.isEmpty else decide (k ∈ KINDS) && isRel (.tuple ds)) = true := h
    split at h1
    · match ds, h1 with
      | [w, x, b], h1 =>
        have h2 : isHost w = true ∧ isWord x = true ∧ isIdx 2 b = true := by simpa only [isMsg, Bool.and_eq_true] using h1
        show (noL w && (noL x && (noL b && true))) = true
        rw [host_str h2.1, word_str h2.2.1, idx_noL h2.2.2]
        rfl
    · split at h1
      · match ds, h1 with
        | [], _ => rfl
      · have h2 : isRel (.tuple ds) = true := by
          simp only [Bool.and_eq_true] at h1
          exact h1.2
        match ds, h2 with
        | [.tuple es, c], h2 =>
          have h3 : isPath (.tuple es) = true ∧ isIdx ((es.length : Int) - 1) c = true := by simpa only [isRel, Bool.and_eq_true] using h2
          have h4 : decide (3 ≤ es.length) = true ∧ es.all isHost = true ∧ decide ((txts es).Nodup) = true := by simpa only [isPath, Bool.and_eq_true] using h3.1
          show (noLs es && (noL c && true)) = true
          rw [hosts_noL h4.2.1, idx_noL h3.2]
          rfl
/-! ### channels -/
def ckv (ks : List (Str × Str)) (ad : Str × Str → Addr) : List (List L2.Key × V) := ks.map fun k => (kq k, V.ref (ad k))
theorem kq_inj {p q : Str × Str} (h : kq p = kq q) : p = q := by
  injection h with h1 h2
  injection h2 with h2 _
  injection h1 with h1
  injection h2 with h2
  exact Prod.ext h1 h2
theorem ckv_val (ks : List (Str × Str)) (ad : Str × Str → Addr) (k : Str × Str) : valV (ckv ks ad) (kq k) = if k ∈ ks then some (.ref (ad k)) else none := by
  induction ks with
  | nil => rfl
  | cons j ks ih =>
    by_cases e : j = k
    · subst e
      rw [if_pos List.mem_cons_self]
      exact valV_pos rfl
    · have e2 : valV (ckv (j :: ks) ad) (kq k) = valV (ckv ks ad) (kq k) := valV_neg fun z => e (kq_inj z)
      rw [e2, ih]
      by_cases m : k ∈ ks
      · rw [if_pos m, if_pos (List.mem_cons_of_mem _ m)]
      · rw [if_neg m, if_neg fun z => m ((List.mem_cons.mp z).resolve_left fun w => e w.symm)]
theorem ckv_len (ks : List (Str × Str)) (ad : Str × Str → Addr) : (ckv ks ad).length = ks.length := List.length_map ..
/-- one dict of lists of items -/
structure ChD (K : PySem.W.Frag) (H : Hp) (La : Addr) (ks : List (Str × Str)) (f : Str × Str → List PyData) (ad : Str × Str → Addr) : Prop where
  at_ : H La = some (.dT (ckv ks ad))
  nd : ks.Nodup
  ls : ∀ k ∈ ks, ∃ vs, H (ad k) = some (.lst vs) ∧ Dns K (fz H) vs (f k) ∧ f k ≠ []
  inj : ∀ k ∈ ks, ∀ j ∈ ks, ad k = ad j → k = j
theorem ChD.keep {K : PySem.W.Frag} {H H' : Hp} {La : Addr} {ks : List (Str × Str)} {f : Str × Str → List PyData} {ad : Str × Str → Addr} (h : ChD K H La ks f ad) (e1 : H' La = H La) (e2 : ∀ k ∈ ks, H' (ad k) = H (ad k)) (fk : FzK H H') : ChD K H' La ks f ad := by
  refine ⟨by rw [e1]; exact h.at_, h.nd, fun k hk => ?_, h.inj⟩
  obtain ⟨vs, a, b, c⟩ := h.ls k hk
  exact ⟨vs, by rw [e2 k hk]; exact a, Dns.same (fz_keep fk) b, c⟩
theorem ChD.same {K : PySem.W.Frag} {H H' : Hp} {La : Addr} {ks : List (Str × Str)} {f : Str × Str → List PyData} {ad : Str × Str → Addr} (h : ChD K H La ks f ad) (s : Same H H') : ChD K H' La ks f ad := by
  refine h.keep (by rw [h.at_]; exact s _ _ h.at_) (fun k hk => ?_) (.of s)
  obtain ⟨vs, a, _⟩ := h.ls k hk
  rw [a]
  exact s _ _ a
end My

namespace My
open PySem PySem.Spec PyProof.Rows L2 Gy Xl Xs Xt
/-! ### what is shown of few and short parts: short, and of signs only -/
theorem so_iff {x : Str} : PyData.strOk x = true ↔ ∀ c ∈ x.cps.toList, c < 0x110000 := by
  unfold PyData.strOk
  rw [← Array.all_toList, List.all_eq_true]
  exact ⟨fun h c hc => of_decide_eq_true (h c hc), fun h c hc => decide_eq_true (h c hc)⟩
theorem so_app {x y : Str} (h1 : PyData.strOk x = true) (h2 : PyData.strOk y = true) : PyData.strOk (x ++ y) = true := by
  rw [so_iff] at *
  intro c hc
  have e : (x ++ y).cps.toList = x.cps.toList ++ y.cps.toList := by
    show (x.cps ++ y.cps).toList = _
    rw [Array.toList_append]
  rw [e, List.mem_append] at hc
  rcases hc with hc | hc
  · exact h1 c hc
  · exact h2 c hc
theorem chr_lt (c : Char) : c.toNat < 0x110000 := by
  have h := c.valid
  rcases h with h | h
  · show c.val.toNat < _
    have : c.val.toNat < 0xd800 := h
    omega
  · exact h.2
theorem so_lit (s : String) : PyData.strOk (Str.ofString s) = true := by
  rw [so_iff, Str.ofString_eq_toList]
  intro c hc
  have hc' : c ∈ s.toList.map Char.toNat := hc
  obtain ⟨d, _, rfl⟩ := List.mem_map.mp hc'
  exact chr_lt d
theorem so_join {sep : Str} (hs : PyData.strOk sep = true) : ∀ {ts : List Str}, (∀ t ∈ ts, PyData.strOk t = true) → PyData.strOk (Str.join sep ts) = true
  | [], _ => by
    rw [so_iff]
    intro c hc
    exact nomatch hc
  | [x], h => h x List.mem_cons_self
  | x :: y :: ts, h => by
    show PyData.strOk (x ++ sep ++ Str.join sep (y :: ts)) = true
    exact so_app (so_app (h x List.mem_cons_self) hs) (so_join hs fun t ht => h t (List.mem_cons_of_mem _ ht))
theorem so_char {q c : Nat} (hq : q < 0x110000) (hc : c < 0x110000) : ∀ d ∈ PySem.Builtin.Str.reprChar q c, d < 0x110000 := by
  have hx : ∀ w : Nat, ∀ d ∈ List.replicate (w - ((Nat.toDigits 16 c).map Char.toNat).length) 48 ++ (Nat.toDigits 16 c).map Char.toNat, d < 0x110000 := by
    intro w d hd
    rcases List.mem_append.mp hd with hd | hd
    · rw [(List.mem_replicate.mp hd).2]
      decide
    · obtain ⟨e, _, rfl⟩ := List.mem_map.mp hd
      exact chr_lt e
  intro d hd
  unfold PySem.Builtin.Str.reprChar at hd
  dsimp only at hd
  split at hd
  · simp only [List.mem_cons, List.not_mem_nil, or_false] at hd
    rcases hd with rfl | rfl
    · decide
    · exact hc
  split at hd
  · simp only [List.mem_cons, List.not_mem_nil, or_false] at hd
    rcases hd with rfl | rfl <;> decide
  split at hd
  · simp only [List.mem_cons, List.not_mem_nil, or_false] at hd
    rcases hd with rfl | rfl <;> decide
  split at hd
  · simp only [List.mem_cons, List.not_mem_nil, or_false] at hd
    rcases hd with rfl | rfl <;> decide
  split at hd
  · rw [List.mem_singleton.mp hd]
    exact hc
  split at hd
  · rcases List.mem_append.mp hd with hd | hd
    · simp only [List.mem_cons, List.not_mem_nil, or_false] at hd
      rcases hd with rfl | rfl <;> decide
    · exact hx 2 d hd
  split at hd
  · rcases List.mem_append.mp hd with hd | hd
    · simp only [List.mem_cons, List.not_mem_nil, or_false] at hd
      rcases hd with rfl | rfl <;> decide
    · exact hx 4 d hd
  · rcases List.mem_append.mp hd with hd | hd
    · simp only [List.mem_cons, List.not_mem_nil, or_false] at hd
      rcases hd with rfl | rfl <;> decide
    · exact hx 8 d hd
theorem so_fold {q : Nat} (hq : q < 0x110000) : ∀ (l : List Nat) (a : Array Nat), (∀ c ∈ l, c < 0x110000) → (∀ c ∈ a.toList, c < 0x110000) → ∀ c ∈ (l.foldl (fun out c => out ++ (PySem.Builtin.Str.reprChar q c).toArray) a).toList, c < 0x110000
  | [], a, _, ha => ha
  | x :: l, a, hl, ha => by
    rw [List.foldl_cons]
    refine so_fold hq l _ (fun c hc => hl c (List.mem_cons_of_mem _ hc)) fun c hc => ?_
    rw [Array.toList_append, List.mem_append] at hc
    rcases hc with hc | hc
    · exact ha c hc
    · exact so_char hq (hl x List.mem_cons_self) c hc
theorem so_repr {x : Str} (h : PyData.strOk x = true) : PyData.strOk (reprText x) = true := by
  have hq : reprQuote x < 0x110000 := by
    unfold reprQuote
    split <;> decide
  rw [so_iff] at *
  intro c hc
  unfold reprText at hc
  rw [Array.toList_push, List.mem_append] at hc
  rcases hc with hc | hc
  · rw [← Array.foldl_toList] at hc
    exact so_fold hq _ _ h (fun d hd => by rw [List.mem_singleton.mp hd]; exact hq) c hc
  · rw [List.mem_singleton.mp hc]
    exact hq
mutual
/-- texts of signs only, dicts empty -/
def oks : PyData → Bool
  | .str x => PyData.strOk x
  | .int _ => true
  | .list ds => okss ds
  | .tuple ds => okss ds
  | .dict kvs => kvs.isEmpty
  | .none => true
  | .bool _ => true
def okss : List PyData → Bool
  | [] => true
  | d :: ds => oks d && okss ds
end
mutual
theorem oks.so : ∀ {d : PyData}, oks d = true → PyData.strOk d.shown = true
  | .str x, h => by
    simp only [PyData.shown]
    exact so_repr h
  | .int i, h => by
    simp only [PyData.shown]
    exact so_lit _
  | .list ds, h => by
    simp only [PyData.shown]
    rw [listText_eq_join]
    exact so_app (so_app (so_lit _) (so_join (so_lit _) (okss.so h))) (so_lit _)
  | .tuple ds, h => by
    simp only [PyData.shown]
    unfold tupleText
    exact so_app (so_app (so_lit _) (so_join (so_lit _) (okss.so h))) (so_lit _)
  | .dict kvs, h => by
    have h2 : kvs = [] := List.isEmpty_iff.mp h
    subst h2
    decide +kernel
  | .none, _ => by decide +kernel
  | .bool b, _ => by cases b <;> decide +kernel
theorem okss.so : ∀ {ds : List PyData}, okss ds = true → ∀ t ∈ PyData.shownAll ds, PyData.strOk t = true
  | [], _ => fun t ht => by simp only [PyData.shownAll] at ht; cases ht
  | d :: ds, h => by
    have h2 : oks d = true ∧ okss ds = true := by simpa only [okss, Bool.and_eq_true] using h
    intro t ht
    simp only [PyData.shownAll] at ht
    rcases List.mem_cons.mp ht with rfl | ht
    · exact oks.so h2.1
    · exact okss.so h2.2 t ht
end
theorem okss_of : ∀ {ds : List PyData}, (∀ d ∈ ds, oks d = true) → okss ds = true
  | [], _ => rfl
  | d :: ds, h => by
    show (oks d && okss ds) = true
    rw [h d List.mem_cons_self, okss_of fun e he => h e (List.mem_cons_of_mem _ he)]
    rfl
end My

namespace My
open PySem PySem.Spec PyProof.Rows L2 Gy Xl Xs Xt
/-! ### data that stand while the pot changes -/
def wo (r : Addr) (H : Hp) : Hp := fun a => if a = r then none else H a
theorem wo_at {r a : Addr} {H : Hp} (n : a ≠ r) : wo r H a = H a := if_neg n
theorem wo_same (r : Addr) (H : Hp) : Same (wo r H) H := fun b o e => by
  by_cases h : b = r
  · rw [wo, if_pos h] at e
    cases e
  · rw [wo_at h] at e
    exact e
theorem wo_but {r : Addr} {H H' : Hp} (h : But r H H') : Same (wo r H) (wo r H') := fun b o e => by
  by_cases n : b = r
  · rw [wo, if_pos n] at e
    cases e
  · rw [wo_at n] at e
    rw [wo_at n]
    exact h b o n e
section
variable {K : PySem.W.Frag} {H H' : Hp} {r : Addr}
/-- data none of which is the pot -/
def Db (K : PySem.W.Frag) (r : Addr) (H : Hp) (v : V) (d : PyData) : Prop := Dn K (wo r H) v d
def Dbs (K : PySem.W.Frag) (r : Addr) (H : Hp) (vs : List V) (ds : List PyData) : Prop := Dns K (wo r H) vs ds
theorem Db.dn {v : V} {d : PyData} (h : Db K r H v d) : Dn K H v d := Dn.same (wo_same r H) h
theorem Db.but {v : V} {d : PyData} (h : Db K r H v d) (b : But r H H') : Db K r H' v d := Dn.same (wo_but b) h
theorem Db.same {v : V} {d : PyData} (h : Db K r H v d) (s : Same H H') : Db K r H' v d := h.but (But.of s)
theorem Dbs.dns {vs : List V} {ds : List PyData} (h : Dbs K r H vs ds) : Dns K H vs ds := Dns.same (wo_same r H) h
theorem Dbs.but {vs : List V} {ds : List PyData} (h : Dbs K r H vs ds) (b : But r H H') : Dbs K r H' vs ds := Dns.same (wo_but b) h
theorem Dbs.same {vs : List V} {ds : List PyData} (h : Dbs K r H vs ds) (s : Same H H') : Dbs K r H' vs ds := h.but (But.of s)
theorem tz_wo {t : Addr} {xs : List V} (R : Rng H r) (z : Tz H t xs) : Tz (wo r H) t xs := by
  obtain ⟨o, e, c⟩ := z
  refine ⟨o, ?_, c⟩
  rw [wo_at (fun n => ?_)]
  · exact e
  · obtain ⟨x, y, e2, _⟩ := R
    rw [n, e2] at e
    cases e
theorem Db.tup {t : Addr} {xs : List V} {ds : List PyData} (R : Rng H r) (z : Tz H t xs) (h : Dbs K r H xs ds) : Db K r H (.ref t) (.tuple ds) := Dn.tup (tz_wo R z) h
theorem Db.lst {l : Addr} {xs : List V} {ds : List PyData} (n : l ≠ r) (e : H l = some (.lst xs)) (h : Dbs K r H xs ds) : Db K r H (.ref l) (.list ds) := Dn.lst (by rw [wo_at n]; exact e) h
theorem Db.dic {l : Addr} (n : l ≠ r) (e : H l = some (.dK [])) : Db K r H (.ref l) (.dict []) := Dn.dic (by rw [wo_at n]; exact e)
theorem Db.str (x : Str) : Db K r H (.str x) (.str x) := Dn.str x
theorem Db.int (i : Int) : Db K r H (.int i) (.int i) := Dn.int i
theorem Db.bl (b : Bool) : Db K r H (.bl b) (.bool b) := Dn.bl b
theorem Db.non : Db K r H .non .none := Dn.non
theorem Dbs.nil : Dbs K r H [] [] := Dns.nil
theorem Dbs.cons {v : V} {vs : List V} {d : PyData} {ds : List PyData} (h : Db K r H v d) (t : Dbs K r H vs ds) : Dbs K r H (v :: vs) (d :: ds) := Dns.cons h t
theorem dns_app : ∀ {vs us : List V} {ds es : List PyData}, Dns K H vs ds → Dns K H us es → Dns K H (vs ++ us) (ds ++ es)
  | _, _, _, _, .nil, h => h
  | _, _, _, _, .cons a t, h => .cons a (dns_app t h)
theorem Dbs.app {vs us : List V} {ds es : List PyData} (h : Dbs K r H vs ds) (h2 : Dbs K r H us es) : Dbs K r H (vs ++ us) (ds ++ es) := dns_app h h2
theorem dns_drop : ∀ {vs : List V} {ds : List PyData} (n : Nat), Dns K H vs ds → Dns K H (vs.drop n) (ds.drop n)
  | _, _, 0, h => h
  | _, _, n + 1, .nil => .nil
  | _, _, n + 1, .cons a t => dns_drop n t
theorem dns_take : ∀ {vs : List V} {ds : List PyData} (n : Nat), Dns K H vs ds → Dns K H (vs.take n) (ds.take n)
  | _, _, 0, _ => .nil
  | _, _, n + 1, .nil => .nil
  | _, _, n + 1, .cons a t => .cons a (dns_take n t)
theorem Dbs.drop {vs : List V} {ds : List PyData} (n : Nat) (h : Dbs K r H vs ds) : Dbs K r H (vs.drop n) (ds.drop n) := dns_drop n h
theorem Dbs.take {vs : List V} {ds : List PyData} (n : Nat) (h : Dbs K r H vs ds) : Dbs K r H (vs.take n) (ds.take n) := dns_take n h
theorem dns_rev : ∀ {vs : List V} {ds : List PyData}, Dns K H vs ds → Dns K H vs.reverse ds.reverse
  | _, _, .nil => .nil
  | _, _, .cons a t => by
    rw [List.reverse_cons, List.reverse_cons]
    exact dns_app (dns_rev t) (.cons a .nil)
theorem Dbs.rev {vs : List V} {ds : List PyData} (h : Dbs K r H vs ds) : Dbs K r H vs.reverse ds.reverse := dns_rev h
theorem dns_mem : ∀ {vs : List V} {ds : List PyData} {v : V}, Dns K H vs ds → v ∈ vs → ∃ d, d ∈ ds ∧ Dn K H v d
  | _, _, _, .nil, h => nomatch h
  | _, _, v, .cons (d := d) a t, h => by
    rcases List.mem_cons.mp h with rfl | h
    · exact ⟨d, List.mem_cons_self, a⟩
    · obtain ⟨e, m, z⟩ := dns_mem t h
      exact ⟨e, List.mem_cons_of_mem _ m, z⟩
theorem Dbs.mem {vs : List V} {ds : List PyData} {v : V} (h : Dbs K r H vs ds) (m : v ∈ vs) : ∃ d, d ∈ ds ∧ Db K r H v d := dns_mem h m
theorem Dbs.len {vs : List V} {ds : List PyData} (h : Dbs K r H vs ds) : vs.length = ds.length := Dns.len h.dns
theorem Dbs.get {vs : List V} {ds : List PyData} (h : Dbs K r H vs ds) {i : Nat} {v : V} (e : vs[i]? = some v) : ∃ d, ds[i]? = some d ∧ Db K r H v d := Dns.get (show Dns K (wo r H) vs ds from h) e
theorem dbs_strs (xs : List Str) : Dbs K r H (xs.map V.str) (xs.map PyData.str) := by
  induction xs with
  | nil => exact .nil
  | cons x xs ih => exact .cons (.str x) ih
theorem upd_new {l : Addr} {o : HO} (e : upd H l o = H') (n : H l = none) : Same H H' ∧ H' l = some o := by
  rw [← e]
  exact ⟨same_upd n, upd_same⟩
end
theorem _root_.Xt.Tz.but {H H' : Hp} {a r : Addr} {xs : List V} (h : Tz H a xs) (R : Rng H r) (b : But r H H') : Tz H' a xs := by
  obtain ⟨o, e, c⟩ := h
  refine ⟨o, b a _ (fun z => ?_) e, c⟩
  obtain ⟨x, y, e2, _⟩ := R
  rw [z, e2] at e
  cases e
/-! ### how large they are -/
structure Bd (n W : Nat) (d : PyData) : Prop where
  sh : d.showable = true
  lf : d.leavesShort 40 = true
  dp : d.depth ≤ n
  wt : d.weight ≤ W
  sm : sml d = true
  so : oks d = true
theorem Bd.mono {n W n' W' : Nat} {d : PyData} (h : Bd n W d) (a : n ≤ n') (b : W ≤ W') : Bd n' W' d := ⟨h.sh, h.lf, Nat.le_trans h.dp a, Nat.le_trans h.wt b, h.sm, h.so⟩
def Fits (d : PyData) : Prop := d.showable = true ∧ d.depth ≤ 60 ∧ d.shown.length ≤ sizeLine
theorem Bd.fits {n W : Nat} {d : PyData} (h : Bd n W d) (a : n ≤ 60) (b : W ≤ 300000) : Fits d := by
  refine ⟨h.sh, Nat.le_trans h.dp a, ?_⟩
  have l := PyData.shown_le 40 (by decide) d h.lf
  have w := h.wt
  have m : (40 + 2) * d.weight ≤ 42 * 300000 := Nat.mul_le_mul (by decide) (by omega)
  rw [sizeLine_eq]
  omega
theorem bds {n W : Nat} : ∀ {ds : List PyData}, (∀ d ∈ ds, Bd n W d) → PyData.showableAll ds = true ∧ PyData.leavesShortAll 40 ds = true ∧ PyData.depthAll ds ≤ n ∧ PyData.weightAll ds ≤ ds.length * (W + 1) ∧ smls ds = true ∧ okss ds = true
  | [], _ => ⟨rfl, rfl, Nat.zero_le _, Nat.zero_le _, rfl, rfl⟩
  | d :: ds, h => by
    obtain ⟨a1, a2, a3, a4, a5, a6⟩ := bds (ds := ds) fun e he => h e (List.mem_cons_of_mem _ he)
    have g := h d List.mem_cons_self
    refine ⟨?_, ?_, ?_, ?_, ?_, ?_⟩
    · show (d.showable && PyData.showableAll ds) = true
      rw [g.sh, a1]
      rfl
    · show (d.leavesShort 40 && PyData.leavesShortAll 40 ds) = true
      rw [g.lf, a2]
      rfl
    · show max d.depth (PyData.depthAll ds) ≤ n
      have := g.dp
      omega
    · show d.weight + 1 + PyData.weightAll ds ≤ (ds.length + 1) * (W + 1)
      have := g.wt
      rw [Nat.add_mul, Nat.one_mul]
      omega
    · show (sml d && smls ds) = true
      rw [g.sm, a5]
      rfl
    · show (oks d && okss ds) = true
      rw [g.so, a6]
      rfl
theorem Bd.tup {n W L : Nat} {ds : List PyData} (h : ∀ d ∈ ds, Bd n W d) (l : ds.length ≤ L) (L14 : L ≤ 14) : Bd (n + 1) (L * (W + 1)) (.tuple ds) := by
  obtain ⟨a1, a2, a3, a4, a5, a6⟩ := bds h
  refine ⟨a1, a2, Nat.succ_le_succ a3, Nat.le_trans a4 (Nat.mul_le_mul_right _ l), ?_, a6⟩
  show (decide (ds.length ≤ 14) && smls ds) = true
  rw [decide_eq_true (by omega), a5]
  rfl
theorem Bd.lst {n W L : Nat} {ds : List PyData} (h : ∀ d ∈ ds, Bd n W d) (l : ds.length ≤ L) (L14 : L ≤ 14) : Bd (n + 1) (L * (W + 1)) (.list ds) := by
  obtain ⟨a1, a2, a3, a4, a5, a6⟩ := bds h
  refine ⟨a1, a2, Nat.succ_le_succ a3, Nat.le_trans a4 (Nat.mul_le_mul_right _ l), ?_, a6⟩
  show (decide (ds.length ≤ 14) && smls ds) = true
  rw [decide_eq_true (by omega), a5]
  rfl
/-- a part: not deep, not large -/
abbrev A0 (d : PyData) : Prop := Bd 1 120 d
theorem a0_txt {x : Str} (h : (decide (x.length ≤ 20) && x.cps.toList.all fun c => decide (c < 0x110000)) = true := by decide +kernel) : A0 (.str x) := by
  rw [Bool.and_eq_true, decide_eq_true_eq] at h
  refine ⟨rfl, List.all_eq_true.mpr fun c hc => decide_eq_true (Nat.lt_of_lt_of_le (of_decide_eq_true (List.all_eq_true.mp h.2 c hc)) (by decide)), Nat.zero_le _, ?_, decide_eq_true h.1, (by
    show PyData.strOk x = true
    rw [so_iff]
    exact fun c hc => of_decide_eq_true (List.all_eq_true.mp h.2 c hc))⟩
  show x.cps.size ≤ 120
  have : x.cps.size ≤ 20 := h.1
  omega
theorem a0_nm {x : Str} (h : Nm x) : A0 (.str x) := a0_txt (by
  rw [Bool.and_eq_true, decide_eq_true_eq]
  refine ⟨by have := h.2.1; omega, List.all_eq_true.mpr fun c hc => ?_⟩
  have z : ∀ d ∈ LET.cps.toList, d < 0x110000 := by decide +kernel
  exact decide_eq_true (z c (h.2.2 c hc)))
theorem a0_int {i : Int} (h : (decide ((PyData.shown (.int i)).length ≤ 40) && decide (i.natAbs.log2 < 110)) = true := by decide +kernel) : A0 (.int i) := by
  rw [Bool.and_eq_true, decide_eq_true_eq, decide_eq_true_eq] at h
  refine ⟨?_, decide_eq_true h.1, Nat.zero_le _, ?_, rfl, rfl⟩
  · show decide (i.natAbs.log2 < 1920) = true
    exact decide_eq_true (by omega)
  · show (if (i == 0) = true then 0 else i.natAbs.log2 + 1) ≤ 120
    split <;> omega
theorem a0_nat {n : Nat} (h : n ≤ 100) : A0 (.int (n : Int)) := by
  have z : ∀ m : Fin 101, (decide ((PyData.shown (.int ((m.val : Nat) : Int))).length ≤ 40) && decide (((m.val : Nat) : Int).natAbs.log2 < 110)) = true := by decide +kernel
  exact a0_int (z ⟨n, by omega⟩)
theorem a0_bl {b : Bool} : A0 (.bool b) := ⟨rfl, rfl, Nat.zero_le _, Nat.zero_le _, rfl, rfl⟩
theorem a0_non : A0 .none := ⟨rfl, rfl, Nat.zero_le _, Nat.zero_le _, rfl, rfl⟩
theorem a0_dic : A0 (.dict []) := ⟨rfl, rfl, by decide, Nat.zero_le _, rfl, rfl⟩
/-- a part that, if it is a tuple, has few and small parts -/
def PT (m : Nat) (p : PyData) : Prop := ∀ qs, p = .tuple qs → qs.length ≤ m ∧ ∀ q ∈ qs, A0 q
end My

/-! data, or a pair of texts that is a key: a pair of that kind may have attributes of its own, so it is no data. -/
namespace Gy
open PySem PySem.Spec PyProof.Rows L2 Xt Xd Xp My
def Dq (K : PySem.W.Frag) (H : Hp) (v : V) (d : PyData) : Prop := Dn K H v d ∨ ∃ p : Str × Str, Kp H v p ∧ d = prD p
theorem Dq.same {K : PySem.W.Frag} {H H' : Hp} {v : V} {d : PyData} (h : Dq K H v d) (s : Same H H') : Dq K H' v d := by
  rcases h with h | ⟨p, h, e⟩
  · exact .inl (h.same s)
  · exact .inr ⟨p, h.same s, e⟩
/-- what data is made of -/
def datO : HO → Bool
  | .lst _ => true
  | .tup _ => true
  | .frz _ _ => true
  | .dK _ => true
  | _ => false
mutual
theorem dn_kept {K : PySem.W.Frag} {H H' : Hp} (fr : ∀ b o, H b = some o → datO o = true → H' b = some o) : ∀ {v : V} {d : PyData}, Dn K H v d → Dn K H' v d
  | _, _, .non => .non
  | _, _, .bl b => .bl b
  | _, _, .int i => .int i
  | _, _, .str x => .str x
  | _, _, .lst h t => .lst (fr _ _ h rfl) (dns_kept fr t)
  | _, _, .tup h t => .tup (by
      obtain ⟨ob, e, c⟩ := h
      exact ⟨ob, fr _ _ e rfl, c⟩) (dns_kept fr t)
  | _, _, .dic h => .dic (fr _ _ h rfl)
theorem dns_kept {K : PySem.W.Frag} {H H' : Hp} (fr : ∀ b o, H b = some o → datO o = true → H' b = some o) : ∀ {vs : List V} {ds : List PyData}, Dns K H vs ds → Dns K H' vs ds
  | _, _, .nil => .nil
  | _, _, .cons h t => .cons (dn_kept fr h) (dns_kept fr t)
end
theorem Dq.kept {K : PySem.W.Frag} {H H' : Hp} {v : V} {d : PyData} (h : Dq K H v d) (fr : ∀ b o, H b = some o → datO o = true → H' b = some o) : Dq K H' v d := by
  rcases h with h | ⟨p, ⟨t, e1, e2⟩, e⟩
  · exact .inl (dn_kept fr h)
  · exact .inr ⟨p, ⟨t, e1, fr _ _ e2 rfl⟩, e⟩
/-- data that does not rest on the pot -/
def Dqr (K : PySem.W.Frag) (r : Addr) (H : Hp) (v : V) (d : PyData) : Prop := Dq K (wo r H) v d
theorem Dqr.dq {K : PySem.W.Frag} {r : Addr} {H : Hp} {v : V} {d : PyData} (h : Dqr K r H v d) : Dq K H v d := Dq.same h (wo_same r H)
theorem Dqr.kept {K : PySem.W.Frag} {r : Addr} {H H' : Hp} {v : V} {d : PyData} (h : Dqr K r H v d) (fr : ∀ b o, H b = some o → b ≠ r → datO o = true → H' b = some o) : Dqr K r H' v d :=
  Dq.kept h fun b o e k => by
    by_cases n : b = r
    · rw [wo, if_pos n] at e
      cases e
    · rw [wo_at n] at e ⊢
      exact fr b o e n k
theorem Dqr.but {K : PySem.W.Frag} {r : Addr} {H H' : Hp} {v : V} {d : PyData} (h : Dqr K r H v d) (b : But r H H') : Dqr K r H' v d := h.kept fun a o e n _ => b a o n e
/-- repr of any such value -/
def rReprQ (K : PySem.W.Frag) : List V → Hp → VK → Prop := fun xs H Q => ∃ v d, xs = [v] ∧ Dq K H v d ∧ d.showable = true ∧ d.depth ≤ 60 ∧ d.shown.length ≤ sizeLine ∧ Q (.str d.shown) H
theorem repr_dq {X : Cx} (hg : X.A.guards = some []) (hu : X.A.units + 70 < cLine) : CallR X (.builtin "repr") (rReprQ X.K) := by
  intro pins s σ H xs us Q I r h
  obtain ⟨v, d, rfl, dq, sh, dp, len, q⟩ := h
  rcases dq with dn | ⟨p, ⟨a, rfl, h⟩, rfl⟩
  · exact repr_dn hg hu pins s σ H _ us Q I r ⟨v, d, rfl, dn, sh, dp, len, q⟩
  obtain ⟨u, rfl, ru⟩ := vals1 r
  have fin : ∀ (h' : Heap) (x : Tok) (tk : Nat), (∀ b o, s.heap.get? b = some o → h'.get? b = some o) → ∃ y H', Inv X pins σ H' { s with heap := h', toks := tk } ∧ RelV y (.str (prD p).shown x) ∧ Q y H' := fun h' x tk hk => ⟨.str (prD p).shown, H, I.kept hk, ⟨x, rfl⟩, q⟩
  cases ru
  have len' : (tupleText (PyData.shownAll [.str p.1, .str p.2])).length ≤ sizeLine := by simpa only [prD, PyData.shown] using len
  obtain ⟨its, rv, ⟨o, g1, g2, n, g3⟩, _⟩ := I.tuple (.inl (.inl h))
  obtain ⟨as, bs, rd, at_, sw⟩ := Dns.shows I (ds := [.str p.1, .str p.2]) (.cons (.str _) (.cons (.str _) .nil)) rv (by simpa [prD, PyData.showable] using sh) fun t ht => Nat.le_trans (tupleText_mem_le ht) len'
  have out : a ∉ bs := not_mem_of_deeper (.tuple g1 g2 g3 rd) (by simp only [PyData.depth]; omega) at_
  refine call_repr_slot (T := "tuple") (idr := "tuple.__repr__") (by omega) ⟨o, g1, g2⟩ F.slot_tuple_repr ?_
  refine call_tuple_reprK g1 g2 g3 out sw (g := []) hg (fun b _ => Clear.nil b) (d := PyData.depthAll [.str p.1, .str p.2]) ?_ (fun _ _ e => e) (fun h' u tk hk => ⟨_, _, rfl, fin h' u tk hk⟩) len'
  show X.A.units + 1 + (PyData.depthAll [.str p.1, .str p.2] + 1) < cLine
  have : PyData.depthAll [.str p.1, .str p.2] = 0 := rfl
  omega
end Gy

namespace My
open PySem PySem.Spec PyProof.Rows L2 Gy Xl Xs Xt
theorem it_host {x : Str} (h : Nm x) : isHost (.str x) = true := by
  show (decide ((1 : Int) ≤ (x.length : Int)) && decide ((x.length : Int) ≤ 8) && allIn LET x) = true
  rw [decide_eq_true (by have := h.1; omega), decide_eq_true (by have := h.2.1; omega)]
  exact List.all_eq_true.mpr fun c hc => decide_eq_true (h.2.2 c hc)
theorem it_msg {x y : Str} {b : Nat} (h : Nm x) (iw : isWord (.str y) = true) (hb : b < 2) : isItem (.tuple [.str "message", .str x, .str y, .int (b : Int)]) = true := by
  show (isHost (.str x) && (isWord (.str y) && (decide ((0 : Int) ≤ (b : Int)) && decide ((b : Int) < 2)))) = true
  rw [it_host h, iw, decide_eq_true (by omega), decide_eq_true (by omega)]
  rfl
theorem it_txts : ∀ xs : List Str, txts (xs.map PyData.str) = xs
  | [] => rfl
  | x :: xs => by
    show x :: txts (xs.map PyData.str) = x :: xs
    rw [it_txts xs]
theorem it_kind {k : Str} (h : k ∈ KINDS) : ¬ k = "message" ∧ ¬ k = "bye" := by
  unfold KINDS at h
  simp only [List.mem_cons, List.not_mem_nil, or_false] at h
  rcases h with rfl | rfl | rfl | rfl | rfl
  all_goals exact ⟨by decide +kernel, by decide +kernel⟩
theorem it_isrel {xs : List Str} {c : Nat} (nm : ∀ x ∈ xs, Nm x) (nd : xs.Nodup) (l3 : 3 ≤ xs.length) (cl : c + 2 ≤ xs.length) : isRel (.tuple [.tuple (xs.map PyData.str), .int (c : Int)]) = true := by
  show (isPath (.tuple (xs.map PyData.str)) && isIdx (((xs.map PyData.str).length : Int) - 1) (.int (c : Int))) = true
  rw [isPath_t, isIdx_i, List.length_map, it_txts, decide_eq_true l3, decide_eq_true nd, decide_eq_true (by omega), decide_eq_true (by omega)]
  have z : (xs.map PyData.str).all isHost = true := by
    rw [List.all_map, List.all_eq_true]
    exact fun x hx => it_host (nm x hx)
  rw [z]
  rfl
theorem it_rel {k : Str} {xs : List Str} {c : Nat} (hk : k ∈ KINDS) (nm : ∀ x ∈ xs, Nm x) (nd : xs.Nodup) (l3 : 3 ≤ xs.length) (cl : c + 2 ≤ xs.length) : isItem (.tuple [.str k, .tuple (xs.map PyData.str), .int (c : Int)]) = true := by
  show (if k = "message" then isMsg [.tuple (xs.map PyData.str), .int (c : Int)] else if k = "bye" then false else decide (k ∈ KINDS) && isRel (.tuple [.tuple (xs.map PyData.str), .int (c : Int)])) = true
  rw [if_neg (it_kind hk).1, if_neg (it_kind hk).2, decide_eq_true hk, it_isrel nm nd l3 cl]
  rfl
section
variable {P : Program} {w : World} {K : PySem.W.Frag} {mg : Str → Option Value} {base : Heap} {H : Hp}
def spName : Sp := fun vs H Q _ => ∃ (r ua : Addr) (us : List Str), vs = [.ref r, .ref ua] ∧ Rng H r ∧ ua ≠ r ∧ H ua = some (.lst (us.map V.str)) ∧ us.length ≤ 20 ∧ ∀ H' x, But r H H' → Rng H' r → Nm x → x ∉ us → Q (.str x) H'
theorem ok_name {f : Addr} {fd : FuncData} (F : Fun K "_law_name" "_law_name" s_law_name f fd) (Y : Bn mg) (G_law_draw : Fk P w K mg base CX0 1 "_law_draw" ["_law_pot_here", "_law_many"] spDraw) : FnOk P w K mg base CX0 2 f fd ["_law_pot_here", "_law_used"] spName := by
  refine F.ok sc_law_name (fun vs H Q E h => ?_) (fun cdv A outer s H vs Q E hr h => ?_)
  · obtain ⟨r, ua, us, rfl, _⟩ := h
    rfl
  · obtain ⟨r, ua, us, rfl, R, nu, hu, lu, q⟩ := h
    refine ⟨_, (pss_cons (ps_set (i := 2) sc_law_name.nd rfl (.inr rfl) pe_str)
 (pss_cons (ps_set (i := 3) sc_law_name.nd rfl (.inl rfl) (pe_ix ix_list (pe_lst (pa_cons pe_int (pa_cons pe_int (pa_cons pe_int (pa_cons pe_int (pa_cons (pe_op op_add pe_int (pe_callF G_law_draw (hr.mono (by decide)) (by rfl) pass0 (pa_cons (pv 0) (pa_cons pe_int pa_nil)))) pa_nil)))))) (pe_callF G_law_draw (hr.mono (by decide)) (by rfl) pass0 (pa_cons (pv 0) (pa_cons pe_int pa_nil))) (fun _ _ => rfl)))
 (pss_cons (ps_set (i := 4) sc_law_name.nd rfl (.inr rfl) (pe_join pe_str (pe_lc (own := [("_law_k", 6)]) (g := gName 6) (tt := tYes) rfl sc_law_name.nd (pi_range1 (by rfl) Y.range (pa_cons (pv 3) pa_nil)) (blkOk_by (N := ["_law_pot_here", "_law_used", "_law_letters", "_law_size", "_law_name_here", "_law_others", "_law_k", "_law_letter", "_law_one"]) (sc := defScope s_law_name) (by decide +kernel)) (fun _ _ _ _ _ => (pg_name (i := 6) sc_law_name.nd rfl (Or.inl rfl))) (fun _ _ _ _ _ => pts_nil) (fun _ _ _ _ _ => (pe_ix ix_str (pv 2) (pe_callF G_law_draw (hr.mono (by decide)) (by rfl) pass0 (pa_cons (pv 0) (pa_cons pe_int pa_nil))) (fun _ _ => rfl))))))
 (pss_cons (ps_set (i := 5) sc_law_name.nd rfl (.inl rfl) (pe_op op_cat (pe_lst (pa_cons (pv 4) pa_nil)) (pe_lc (own := [("_law_letter", 7)]) (g := gName 7) (tt := tYes) rfl sc_law_name.nd (pi_str (pv 2)) (blkOk_by (N := ["_law_pot_here", "_law_used", "_law_letters", "_law_size", "_law_name_here", "_law_others", "_law_k", "_law_letter", "_law_one"]) (sc := defScope s_law_name) (by decide +kernel)) (fun _ _ _ _ _ => (pg_name (i := 7) sc_law_name.nd rfl (Or.inl rfl))) (fun _ _ _ _ _ => pts_nil) (fun _ _ _ _ _ => (pe_op op_add_str (pe_slice sl_str (pv 4) po_none (po_some pe_int)) (pv 7))))))
 (pss_one (ps_ret (pe_ix ix_list (pe_lc (own := [("_law_one", 8)]) (g := gName 8) (tt := tTest (tOp (rIn K true) (tVar 8) (tVar 1))) rfl sc_law_name.nd (pi_list (pv 5)) (blkOk_by (N := ["_law_pot_here", "_law_used", "_law_letters", "_law_size", "_law_name_here", "_law_others", "_law_k", "_law_letter", "_law_one"]) (sc := defScope s_law_name) (by decide +kernel)) (fun _ _ _ _ _ => (pg_name (i := 8) sc_law_name.nd rfl (Or.inl rfl))) (fun _ _ _ _ _ => (pts_one (pt_cmpR (show OpR _ (compareOp .NotIn) (rIn K true) from op_notIn_seq) (pv 8) (pv 1) rfl))) (fun _ _ _ _ _ => (pv 8))) pe_int (fun _ _ => rfl)))))))), ?_⟩
    -- the size
    refine ⟨_, rfl, r, 8, rfl, R, by decide, by decide, fun H1 a b1 R a0 a1 => ⟨_, _, rfl, rfl, ?_⟩⟩
    obtain ⟨a, rfl⟩ := Int.eq_ofNat_of_zero_le a0
    refine ⟨(by show 5 ≤ sizeLine; decide), fun l2 n2 => ?_⟩
    have ne2 := R.ne n2
    generalize hg : upd _ l2 _ = H2
    obtain ⟨s2, g2⟩ := upd_new hg n2
    clear hg
    have R := R.same s2
    refine ⟨_, rfl, r, 5, rfl, R, by decide, by decide, fun H3 b b3 R c0 c1 => ?_⟩
    have g2 := b3 _ _ ne2 g2
    obtain ⟨v, hv, mv⟩ := at_in (xs := [V.int 1, .int 1, .int 2, .int 8, .int (1 + (a : Int))]) c0 c1
    refine ⟨l2, _, b, v, rfl, rfl, SqL.of g2, hv, ?_⟩
    obtain ⟨m, rfl, m1, m8⟩ : ∃ m : Nat, v = .int (m : Int) ∧ 1 ≤ m ∧ m ≤ 8 := by
      simp only [List.mem_cons, List.not_mem_nil, or_false] at mv
      rcases mv with rfl | rfl | rfl | rfl | rfl
      · exact ⟨1, rfl, by decide, by decide⟩
      · exact ⟨1, rfl, by decide, by decide⟩
      · exact ⟨2, rfl, by decide, by decide⟩
      · exact ⟨8, rfl, by decide, by decide⟩
      · exact ⟨1 + a, by rw [show (1 : Int) + (a : Int) = ((1 + a : Nat) : Int) by omega], by omega, by omega⟩
    clear mv hv g2
    have b03 : But r H H3 := b1.trans ((But.of s2).trans b3)
    have hu := b03 _ _ nu hu
    clear b1 b3
    generalize H3 = HS at hu b03 R ⊢
    -- the letters
    refine ⟨⟨_, rfl⟩, _, rfl, (m : Int), rfl, by omega, by omega, fun D hD => ?_⟩
    have nD : D ≠ r := R.ne hD
    refine lc_it (walk_range (lo := 0) (n := ((m : Int) - 0).toNat)) (fun i H' => But r HS H' ∧ Rng H' r ∧ ∃ ys : List Str, H' D = some (.lst (ys.map V.str)) ∧ ys.length = i ∧ (∀ y ∈ ys, y.length = 1) ∧ ∀ y ∈ ys, ∀ c ∈ y.cps.toList, c ∈ (LET).cps.toList)
      ⟨But.of (same_upd hD), R.upd hD, [], upd_same, rfl, (fun y z => nomatch z), fun y z => nomatch z⟩ (fun _ _ _ _ => trivial) ?_ ?_
    · rintro j y H4 H5 hj ⟨b4, R4, ys, hY, yl, y1, y2⟩ ⟨rfl, rfl⟩
      refine ⟨rfl, ?_⟩
      dsimp only [tYes]
      refine iteT ?_
      refine ⟨_, rfl, _, rfl, r, 26, rfl, R4, by decide, by decide, fun H6 e b6 R6 e0 e1 => ?_⟩
      obtain ⟨c, hc, mc⟩ := at_in (xs := (LET).cps.toList) e0 (by rw [show (LET).cps.toList.length = 26 by decide +kernel]; exact e1)
      refine ⟨LET, e, c, rfl, rfl, (by decide +kernel), hc, _, b6 D _ nD hY, ?_, ?_, ?_, ys ++ [⟨#[c]⟩], ?_, ?_, ?_, ?_⟩
      · rw [List.length_map, yl]
        exact small200 (by omega)
      · exact (b4.trans b6).upd hD
      · exact R6.upd2 nD
      · rw [upd_same, List.map_append]
        rfl
      · rw [List.length_append, yl]
        rfl
      · intro y hy'
        rcases List.mem_append.mp hy' with z | z
        · exact y1 y z
        · rw [List.mem_singleton.mp z]
          rfl
      · intro y hy'
        rcases List.mem_append.mp hy' with z | z
        · exact y2 y z
        · rw [List.mem_singleton.mp z]
          intro c' hc'
          have hc2 : c' ∈ [c] := hc'
          rw [List.mem_singleton.mp hc2]
          exact mc
    rintro H4 ⟨b4, R4, ys, hY, yl, y1, y2⟩
    refine ⟨"", D, ys, rfl, rfl, .inl (SqL.of hY), ?_, ?_⟩
    · have e1 : (ys.map (·.length)).sum ≤ ys.length := sum_ones ys y1
      show (ys.map (·.length)).sum + ys.length * 0 ≤ 16777216
      omega
    rw [TL.join_eq]
    have jl := join_len ys y1
    have ji := join_in ys y2
    generalize Str.join "" ys = x0 at jl ji ⊢
    clear y1 y2 hY
    have nm1 : Nm x0 := ⟨by omega, by omega, ji⟩
    have b04 := b03.trans b4
    have hu := b4 _ _ nu hu
    have R := R4
    clear b4 R4 jl ji yl
    -- others
    refine ⟨_, rfl, (by show 1 ≤ sizeLine; decide), fun l6 n6 => ?_⟩
    generalize hg : upd _ l6 _ = H6
    obtain ⟨s6, g6⟩ := upd_new hg n6
    clear hg
    refine ⟨_, rfl, LET, rfl, fun D9 hD9 => ?_⟩
    refine lc_it (walk_str (z := LET)) (fun i H' => Same H6 H' ∧ H' D9 = some (.lst (((LET.cps.toList.take i).map (tl x0)).map V.str)))
      ⟨same_upd hD9, upd_same⟩ (fun _ _ _ _ => trivial) ?_ ?_
    · rintro j y H7 H8 hj ⟨sm, hZ⟩ ⟨rfl, c, hc, rfl⟩
      have hc' : LET.cps.toList[j]? = some c := by rw [Array.getElem?_toList]; exact hc
      refine ⟨rfl, ?_⟩
      dsimp only [tYes]
      refine iteT ?_
      have n8 := nm1.2.1
      have n7 : (cutS x0 none (some 7)).length ≤ 8 := by
        rw [show (some 7 : Option Int) = some ((7 : Nat) : Int) from rfl, cut_some]
        show (x0.cps.toList.take (min 7 x0.length)).toArray.size ≤ 8
        rw [List.size_toArray, List.length_take]
        omega
      refine ⟨_, rfl, 7, rfl, x0, rfl, le200 (by omega), _, rfl, _, _, rfl, rfl, (by show (cutS x0 none (some 7)).length + 1 ≤ sizeLine; exact le200 (by omega)), _, hZ, ?_, same_upd2 sm hD9, ?_⟩
      · rw [List.length_map, List.length_map, List.length_take]
        have : LET.cps.size = 26 := by decide +kernel
        exact small200 (by omega)
      · rw [upd_same, List.take_add_one, hc', List.map_append, List.map_append]
        rfl
    rintro H7 ⟨sm7, hZ⟩
    rw [List.take_of_length_le (by rw [Array.length_toList]; exact Nat.le_refl _)] at hZ
    refine ⟨l6, D9, _, _, rfl, rfl, sm7 _ _ g6, hZ, ?_, fun p hp => ?_⟩
    · rw [List.length_map, List.length_map, show LET.cps.toList.length = 26 by decide +kernel]
      exact le200 (show 1 + 26 ≤ 10000 by decide)
    generalize hg : upd _ p _ = H8
    obtain ⟨s8, hT⟩ := upd_new hg hp
    clear hg
    have hT : H8 p = some (.lst ((triesOf x0).map V.str)) := hT
    have s48 := s6.trans (sm7.trans s8)
    have hu := s48 _ _ hu
    have R := R.same s48
    have b08 := b04.trans (But.of s48)
    clear g6 hZ
    -- the first that is not used
    refine ⟨_, rfl, p, rfl, ⟨_, SqL.of hT⟩, fun D hD => ?_⟩
    refine lc_it (walk_list (K := K) (a := p) (xs := (triesOf x0).map V.str)) (fun i H' => Same H8 H' ∧ H' D = some (.lst ((((triesOf x0).take i).filter (fun y => decide (y ∉ us))).map V.str)))
      ⟨same_upd hD, upd_same⟩ (fun i H' _ h => SqL.of (h.1 _ _ hT)) ?_ ?_
    · rintro j y H9 H10 hj ⟨sm, hZ⟩ ⟨rfl, hy⟩
      rw [List.getElem?_map] at hy
      obtain ⟨z, hz, rfl⟩ := Option.map_eq_some_iff.mp hy
      refine ⟨rfl, ?_⟩
      refine ⟨_, rfl, _, rfl, ua, _, rfl, .inl (SqL.of (sm _ _ hu)), rfl, flat_strs _, _, rfl, ite2 (fun c8 => ?_) (fun c8 => ?_)⟩
      · have c8' : (!inV (.str z) (us.map V.str)) = true := c8
        rw [inV_strs] at c8'
        have nz : z ∉ us := fun w => by
          rw [decide_eq_true w] at c8'
          cases c8'
        refine ⟨_, rfl, _, hZ, ?_, same_upd2 sm hD, ?_⟩
        · rw [List.length_map]
          refine small200 (Nat.le_trans (List.length_filter_le _ _) ?_)
          rw [List.length_take]
          have : (triesOf x0).length = 27 := by
            show (LET.cps.toList.map (tl x0)).length + 1 = 27
            rw [List.length_map, show LET.cps.toList.length = 26 by decide +kernel]
          omega
        · rw [upd_same, List.take_add_one, hz, List.filter_append, List.map_append]
          show some (HO.lst _) = some (HO.lst (_ ++ (List.filter _ [z]).map V.str))
          rw [List.filter_cons_of_pos (by exact decide_eq_true nz)]
          rfl
      · have c8' : ¬ (!inV (.str z) (us.map V.str)) = true := c8
        rw [inV_strs] at c8'
        have nz : z ∈ us := by
          cases w : decide (z ∈ us) with
          | true => exact of_decide_eq_true w
          | false => exact absurd (by rw [w]; rfl) c8'
        refine ⟨sm, ?_⟩
        rw [hZ, List.take_add_one, hz, List.filter_append]
        show some (HO.lst _) = some (HO.lst ((_ ++ List.filter _ [z]).map V.str))
        rw [List.filter_cons_of_neg (by simpa using nz), List.filter_nil, List.append_nil]
    rintro H9 ⟨s9, hZ⟩
    rw [List.length_map, List.take_of_length_le (Nat.le_refl _)] at hZ
    obtain ⟨z, zs, ez⟩ := tries_out (x := x0) (xs := us) (by omega)
    rw [ez] at hZ
    have mz : z ∈ (triesOf x0).filter (fun y => decide (y ∉ us)) := by rw [ez]; exact List.mem_cons_self
    have nz := tries_nm nm1 z (List.mem_filter.mp mz).1
    exact ⟨D, _, 0, .str z, rfl, rfl, SqL.of hZ, atI_nat (j := 0) rfl, q _ z (b08.trans (But.of s9)) (R.same s9) nz (by simpa using (List.mem_filter.mp mz).2)⟩
def spWordD : Sp := fun vs H Q _ => ∃ r : Addr, vs = [.ref r] ∧ Rng H r ∧ ∀ H' x, But r H H' → Rng H' r → A0 (.str x) → isWord (.str x) = true → Q (.str x) H'
theorem ok_wordD {f : Addr} {fd : FuncData} (F : Fun K "_law_word" "_law_word" s_law_word f fd) (Y : Bn mg) (G_law_draw : Fk P w K mg base CX0 1 "_law_draw" ["_law_pot_here", "_law_many"] spDraw) : FnOk P w K mg base CX0 2 f fd ["_law_pot_here"] spWordD := by
  refine F.ok sc_law_word (fun vs H Q E h => ?_) (fun cdv A outer s H vs Q E hr h => ?_)
  · obtain ⟨r, rfl, _⟩ := h
    rfl
  · obtain ⟨r, rfl, R, q⟩ := h
    refine ⟨_, (pss_cons (ps_set (i := 1) sc_law_word.nd rfl (.inr rfl) pe_str)
 (pss_cons (ps_set (i := 2) sc_law_word.nd rfl (.inl rfl) (pe_ix ix_list (pe_lst (pa_cons pe_int (pa_cons pe_int (pa_cons pe_int (pa_cons (pe_op op_add pe_int (pe_callF G_law_draw (hr.mono (by decide)) (by rfl) pass0 (pa_cons (pv 0) (pa_cons pe_int pa_nil)))) pa_nil))))) (pe_callF G_law_draw (hr.mono (by decide)) (by rfl) pass0 (pa_cons (pv 0) (pa_cons pe_int pa_nil))) (fun _ _ => rfl)))
 (pss_one (ps_ret (pe_join pe_str (pe_lc (own := [("_law_k", 3)]) (g := gName 3) (tt := tYes) rfl sc_law_word.nd (pi_range1 (by rfl) Y.range (pa_cons (pv 2) pa_nil)) (blkOk_by (N := ["_law_pot_here", "_law_signs", "_law_size", "_law_k"]) (sc := defScope s_law_word) (by decide +kernel)) (fun _ _ _ _ _ => (pg_name (i := 3) sc_law_word.nd rfl (Or.inl rfl))) (fun _ _ _ _ _ => pts_nil) (fun _ _ _ _ _ => (pe_ix ix_str (pv 1) (pe_callF G_law_draw (hr.mono (by decide)) (by rfl) pass0 (pa_cons (pv 0) (pa_cons pe_int pa_nil))) (fun _ _ => rfl))))))))), ?_⟩
    refine ⟨_, rfl, r, 12, rfl, R, by decide, by decide, fun H1 a b1 R a0 a1 => ⟨_, _, rfl, rfl, ?_⟩⟩
    obtain ⟨a, rfl⟩ := Int.eq_ofNat_of_zero_le a0
    refine ⟨(by show 4 ≤ sizeLine; decide), fun l2 n2 => ?_⟩
    have ne2 := R.ne n2
    generalize hg : upd _ l2 _ = H2
    obtain ⟨s2, g2⟩ := upd_new hg n2
    clear hg
    have R := R.same s2
    refine ⟨_, rfl, r, 4, rfl, R, by decide, by decide, fun H3 b b3 R c0 c1 => ?_⟩
    have g2 := b3 _ _ ne2 g2
    obtain ⟨v, hv, mv⟩ := at_in (xs := [V.int 1, .int 2, .int 12, .int (1 + (a : Int))]) c0 c1
    refine ⟨l2, _, b, v, rfl, rfl, SqL.of g2, hv, ?_⟩
    obtain ⟨m, rfl, m1, m8⟩ : ∃ m : Nat, v = .int (m : Int) ∧ 1 ≤ m ∧ m ≤ 12 := by
      simp only [List.mem_cons, List.not_mem_nil, or_false] at mv
      rcases mv with rfl | rfl | rfl | rfl
      · exact ⟨1, rfl, by decide, by decide⟩
      · exact ⟨2, rfl, by decide, by decide⟩
      · exact ⟨12, rfl, by decide, by decide⟩
      · exact ⟨1 + a, by rw [show (1 : Int) + (a : Int) = ((1 + a : Nat) : Int) by omega], by omega, by omega⟩
    clear mv hv g2
    have b03 : But r H H3 := b1.trans ((But.of s2).trans b3)
    clear b1 b3
    generalize H3 = HS at b03 R ⊢
    refine ⟨⟨_, rfl⟩, _, rfl, (m : Int), rfl, by omega, by omega, fun D hD => ?_⟩
    have nD : D ≠ r := R.ne hD
    refine lc_it (walk_range (lo := 0) (n := ((m : Int) - 0).toNat)) (fun i H' => But r HS H' ∧ Rng H' r ∧ ∃ ys : List Str, H' D = some (.lst (ys.map V.str)) ∧ ys.length = i ∧ (∀ y ∈ ys, y.length = 1) ∧ ∀ y ∈ ys, ∀ c ∈ y.cps.toList, c ∈ (WSG).cps.toList)
      ⟨But.of (same_upd hD), R.upd hD, [], upd_same, rfl, (fun y z => nomatch z), fun y z => nomatch z⟩ (fun _ _ _ _ => trivial) ?_ ?_
    · rintro j y H4 H5 hj ⟨b4, R4, ys, hY, yl, y1, y2⟩ ⟨rfl, rfl⟩
      refine ⟨rfl, ?_⟩
      dsimp only [tYes]
      refine iteT ?_
      refine ⟨_, rfl, _, rfl, r, 36, rfl, R4, by decide, by decide, fun H6 e b6 R6 e0 e1 => ?_⟩
      obtain ⟨c, hc, mc⟩ := at_in (xs := (WSG).cps.toList) e0 (by rw [show (WSG).cps.toList.length = 36 by decide +kernel]; exact e1)
      refine ⟨WSG, e, c, rfl, rfl, (by decide +kernel), hc, _, b6 D _ nD hY, ?_, ?_, ?_, ys ++ [⟨#[c]⟩], ?_, ?_, ?_, ?_⟩
      · rw [List.length_map, yl]
        exact small200 (by omega)
      · exact (b4.trans b6).upd hD
      · exact R6.upd2 nD
      · rw [upd_same, List.map_append]
        rfl
      · rw [List.length_append, yl]
        rfl
      · intro y hy'
        rcases List.mem_append.mp hy' with z | z
        · exact y1 y z
        · rw [List.mem_singleton.mp z]
          rfl
      · intro y hy'
        rcases List.mem_append.mp hy' with z | z
        · exact y2 y z
        · rw [List.mem_singleton.mp z]
          intro c' hc'
          have hc2 : c' ∈ [c] := hc'
          rw [List.mem_singleton.mp hc2]
          exact mc
    rintro H4 ⟨b4, R4, ys, hY, yl, y1, y2⟩
    refine ⟨"", D, ys, rfl, rfl, .inl (SqL.of hY), ?_, ?_⟩
    · have e1 : (ys.map (·.length)).sum ≤ ys.length := sum_ones ys y1
      show (ys.map (·.length)).sum + ys.length * 0 ≤ 16777216
      omega
    rw [TL.join_eq]
    have jl := join_len ys y1
    have ji := join_in ys y2
    generalize Str.join "" ys = x0 at jl ji ⊢
    clear y1 y2 hY
    have iw : isWord (.str x0) = true := by
      show (decide ((1 : Int) ≤ (x0.length : Int)) && decide ((x0.length : Int) ≤ 12) && allIn WSG x0) = true
      rw [decide_eq_true (by omega), decide_eq_true (by omega)]
      exact List.all_eq_true.mpr fun c hc => decide_eq_true (ji c hc)
    refine q _ x0 (b03.trans b4) R4 (a0_txt ?_) iw
    rw [Bool.and_eq_true, decide_eq_true_eq]
    refine ⟨by omega, List.all_eq_true.mpr fun c hc => ?_⟩
    have z : ∀ d ∈ WSG.cps.toList, d < 0x110000 := by decide +kernel
    exact decide_eq_true (z c (ji c hc))
def spPathD (K : PySem.W.Frag) : Sp := fun vs H Q _ => ∃ r : Addr, vs = [.ref r] ∧ Rng H r ∧ ∀ H' (t : Addr) (xs : List Str), But r H H' → Rng H' r → Tz H' t (xs.map V.str) → 3 ≤ xs.length → xs.length ≤ 12 → (∀ x ∈ xs, Nm x) → xs.Nodup → Q (.ref t) H'
theorem ok_pathD {f : Addr} {fd : FuncData} (F : Fun K "_law_path" "_law_path" s_law_path f fd) (Y : Bn mg) (G_law_draw : Fk P w K mg base CX0 1 "_law_draw" ["_law_pot_here", "_law_many"] spDraw) (G_law_name : Fk P w K mg base CX0 2 "_law_name" ["_law_pot_here", "_law_used"] spName) :
    FnOk P w K mg base CX0 3 f fd ["_law_pot_here"] (spPathD K) := by
  refine F.ok sc_law_path (fun vs H Q E h => ?_) (fun cdv A outer s H vs Q E hr h => ?_)
  · obtain ⟨r, rfl, _⟩ := h
    rfl
  · obtain ⟨r, rfl, R, q⟩ := h
    refine ⟨_, (pss_cons (ps_set (i := 1) sc_law_path.nd rfl (.inl rfl) (pe_lst pa_nil))
 (pss_cons (ps_for PassesOwn.never rfl (pi_range1 (by rfl) Y.range (pa_cons (pe_ix ix_list (pe_lst (pa_cons pe_int (pa_cons pe_int (pa_cons (pe_op op_add pe_int (pe_callF G_law_draw (hr.mono (by decide)) (by rfl) pass0 (pa_cons (pv 0) (pa_cons pe_int pa_nil)))) pa_nil)))) (pe_callF G_law_draw (hr.mono (by decide)) (by rfl) pass0 (pa_cons (pv 0) (pa_cons pe_int pa_nil))) (fun _ _ => rfl)) pa_nil)) (pg_name (i := 2) sc_law_path.nd rfl (Or.inl rfl))
 (pss_one (ps_expr (pe_bm PySem.F.plainAttrs_list PySem.F.slot_list_append PySem.F.type_list_append mt_append (pv 1) (pa_cons (pe_callF G_law_name (hr.mono (by decide)) (by rfl) pass0 (pa_cons (pv 0) (pa_cons (pv 1) pa_nil))) pa_nil)))))
 (pss_one (ps_ret (pe_callTy call_tupOf (by rfl) Y.tuple (by decide +kernel) (pa_cons (pv 1) pa_nil)))))), ?_⟩
    refine ⟨(by show 0 ≤ sizeLine; decide), fun L nL => ?_⟩
    have neL := R.ne nL
    generalize hg : upd _ L _ = H1
    obtain ⟨s1, gL⟩ := upd_new hg nL
    clear hg
    have R := R.same s1
    refine ⟨_, rfl, r, 10, rfl, R, by decide, by decide, fun H2 a b2 R a0 a1 => ⟨_, _, rfl, rfl, ?_⟩⟩
    obtain ⟨a, rfl⟩ := Int.eq_ofNat_of_zero_le a0
    have gL := b2 _ _ neL gL
    refine ⟨(by show 3 ≤ sizeLine; decide), fun l3 n3 => ?_⟩
    have ne3 := R.ne n3
    generalize hg : upd _ l3 _ = H3
    obtain ⟨s3, g3⟩ := upd_new hg n3
    clear hg
    have R := R.same s3
    have gL := s3 _ _ gL
    refine ⟨_, rfl, r, 3, rfl, R, by decide, by decide, fun H4 b b4 R c0 c1 => ?_⟩
    have g3 := b4 _ _ ne3 g3
    have gL := b4 _ _ neL gL
    obtain ⟨v, hv, mv⟩ := at_in (xs := [V.int 3, .int 4, .int (3 + (a : Int))]) c0 c1
    refine ⟨l3, _, b, v, rfl, rfl, SqL.of g3, hv, ?_⟩
    obtain ⟨m, rfl, m3, m12⟩ : ∃ m : Nat, v = .int (m : Int) ∧ 3 ≤ m ∧ m ≤ 12 := by
      simp only [List.mem_cons, List.not_mem_nil, or_false] at mv
      rcases mv with rfl | rfl | rfl
      · exact ⟨3, rfl, by decide, by decide⟩
      · exact ⟨4, rfl, by decide, by decide⟩
      · exact ⟨3 + a, by rw [show (3 : Int) + (a : Int) = ((3 + a : Nat) : Int) by omega], by omega, by omega⟩
    have b04 : But r H H4 := (But.of s1).trans (b2.trans ((But.of s3).trans b4))
    refine ⟨(m : Int), rfl, by omega, by omega, ?_⟩
    refine for_it (walk_range (lo := 0) (n := ((m : Int) - 0).toNat)) (fun i σ H' => (∃ c, σ = [some (.ref r), some (.ref L), c]) ∧ But r H H' ∧ Rng H' r ∧ ∃ xs : List Str, H' L = some (.lst (xs.map V.str)) ∧ xs.length = i ∧ (∀ x ∈ xs, Nm x) ∧ xs.Nodup)
      ⟨⟨_, rfl⟩, b04, R, [], gL, rfl, (fun _ z => nomatch z), List.nodup_nil⟩ (fun _ _ _ _ _ => trivial) ?_ ?_
    · rintro i y σ H5 H6 hi ⟨⟨c, rfl⟩, b5, R5, xs, hL, el, nm, nd⟩ ⟨rfl, rfl⟩
      refine ⟨_, rfl, .inl ⟨rfl, _, SqL.of hL⟩, _, rfl, _, rfl, r, L, xs, rfl, R5, neL, hL, by omega, fun H7 x b7 R7 nx ni => ?_⟩
      have hL7 := b7 _ _ neL hL
      refine ⟨L, _, _, rfl, rfl, hL7, (by rw [List.length_map]; exact small200 (by omega)), ⟨_, rfl⟩, ?_, R7.upd2 neL, xs ++ [x], ?_, ?_, ?_, ?_⟩
      · refine fun b' o nb e => ?_
        rw [upd_ne (fun w => by rw [w, nL] at e; cases e)]
        exact (b5.trans b7) b' o nb e
      · rw [upd_same, List.map_append]
        rfl
      · rw [List.length_append, el]
        rfl
      · intro y hy
        rcases List.mem_append.mp hy with hy | hy
        · exact nm y hy
        · rw [List.mem_singleton.mp hy]
          exact nx
      · rw [List.nodup_append]
        exact ⟨nd, (List.nodup_cons.mpr ⟨(fun z => nomatch z), List.nodup_nil⟩), fun a ha b hb => by rw [List.mem_singleton.mp hb]; exact fun z => ni (z ▸ ha)⟩
    · rintro σ H5 ⟨⟨c, rfl⟩, b5, R5, xs, hL, el, nm, nd⟩
      refine ⟨_, rfl, L, _, rfl, SqL.of hL, (by rw [List.length_map]; omega), fun t o nt st tz => ?_⟩
      exact q _ t xs (b5.trans (But.of st)) (R5.same st) tz (by omega) (by omega) nm nd
/-- an entry: parts that are small -/
def Ent (L m : Nat) (ds : List PyData) : Prop := 1 ≤ ds.length ∧ ds.length ≤ L ∧ (∀ p ∈ ds, Bd 2 1700 p) ∧ ∀ p ∈ ds.tail, PT m p
def spEntD (K : PySem.W.Frag) : Sp := fun vs H Q _ => ∃ r : Addr, vs = [.ref r] ∧ Rng H r ∧ ∀ H' (t : Addr) (xs : List V) (ds : List PyData), But r H H' → Rng H' r → Tz H' t xs → Dbs K r H' xs ds → Ent 4 12 ds → isItem (.tuple ds) = true → Q (.ref t) H'
theorem pt_str {m : Nat} {x : Str} : PT m (.str x) := fun _ z => nomatch z
theorem pt_int {m : Nat} {i : Int} : PT m (.int i) := fun _ z => nomatch z
theorem a0_b2 {d : PyData} (h : A0 d) : Bd 2 1700 d := h.mono (by decide) (by decide)
theorem path_a0 {xs : List Str} (nm : ∀ x ∈ xs, Nm x) : ∀ d ∈ xs.map PyData.str, A0 d := fun d hd => by
  obtain ⟨x, hx, rfl⟩ := List.mem_map.mp hd
  exact a0_nm (nm x hx)
theorem ok_entD {f : Addr} {fd : FuncData} (F : Fun K "_law_entry" "_law_entry" s_law_entry f fd) (Y : Bn mg) (G_law_draw : Fk P w K mg base CX0 1 "_law_draw" ["_law_pot_here", "_law_many"] spDraw) (G_law_name : Fk P w K mg base CX0 2 "_law_name" ["_law_pot_here", "_law_used"] spName)
    (G_law_word : Fk P w K mg base CX0 2 "_law_word" ["_law_pot_here"] spWordD) (G_law_path : Fk P w K mg base CX0 3 "_law_path" ["_law_pot_here"] (spPathD K)) : FnOk P w K mg base CX0 4 f fd ["_law_pot_here"] (spEntD K) := by
  refine F.ok sc_law_entry (fun vs H Q E h => ?_) (fun cdv A outer s H vs Q E hr h => ?_)
  · obtain ⟨r, rfl, _⟩ := h
    rfl
  · obtain ⟨r, rfl, R, q⟩ := h
    refine ⟨_, (pss_cons (ps_set (i := 1) sc_law_entry.nd rfl (.inl rfl) (pe_callF G_law_draw (hr.mono (by decide)) (by rfl) pass0 (pa_cons (pv 0) (pa_cons pe_int pa_nil))))
 (pss_cons (ps_if (pt_cmpR op_lt (pv 1) pe_int (nomark _))
 (pss_one (ps_ret (pe_tupZ (pa_cons pe_str (pa_cons (pe_callF G_law_name (hr.mono (by decide)) (by rfl) pass0 (pa_cons (pv 0) (pa_cons (pe_lst pa_nil) pa_nil))) (pa_cons (pe_callF G_law_word (hr.mono (by decide)) (by rfl) pass0 (pa_cons (pv 0) pa_nil)) (pa_cons (pe_callF G_law_draw (hr.mono (by decide)) (by rfl) pass0 (pa_cons (pv 0) (pa_cons pe_int pa_nil))) pa_nil)))))))
 pss_nil)
 (pss_cons (ps_if (pt_cmpR op_eq (pv 1) pe_int (nomark _))
 (pss_one (ps_ret (pe_tupZ (pa_cons pe_str pa_nil))))
 pss_nil)
 (pss_cons (ps_set (i := 2) sc_law_entry.nd rfl (.inl rfl) (pe_callF G_law_path (hr.mono (by decide)) (by rfl) pass0 (pa_cons (pv 0) pa_nil)))
 (pss_cons (ps_set (i := 3) sc_law_entry.nd rfl (.inl rfl) (pe_op op_sub (pe_callB call_len_seq (by rfl) Y.len PySem.boot_len (pa_cons (pv 2) pa_nil)) pe_int))
 (pss_cons (ps_set (i := 4) sc_law_entry.nd rfl (.inl rfl) (pe_ix ix_list (pe_lst (pa_cons pe_int (pa_cons (pv 3) (pa_cons (pe_callF G_law_draw (hr.mono (by decide)) (by rfl) pass0 (pa_cons (pv 0) (pa_cons (pe_op op_add (pv 3) pe_int) pa_nil))) pa_nil)))) (pe_callF G_law_draw (hr.mono (by decide)) (by rfl) pass0 (pa_cons (pv 0) (pa_cons pe_int pa_nil))) (fun _ _ => rfl)))
 (pss_one (ps_ret (pe_tupZ (pa_cons (pe_ix ix_list (pe_lst (pa_cons pe_str (pa_cons pe_str (pa_cons pe_str (pa_cons pe_str (pa_cons pe_str pa_nil)))))) (pe_callF G_law_draw (hr.mono (by decide)) (by rfl) pass0 (pa_cons (pv 0) (pa_cons pe_int pa_nil))) (fun _ _ => rfl)) (pa_cons (pv 2) (pa_cons (pv 4) pa_nil)))))))))))), ?_⟩
    refine ⟨_, rfl, r, 8, rfl, R, by decide, by decide, fun H1 a b1 R a0 a1 => ?_⟩
    refine ⟨_, rfl, _, _, rfl, rfl, _, rfl, ite2 (fun c1 => ?_) (fun c1 => ?_)⟩
    · refine ⟨_, rfl, (by show 0 ≤ sizeLine; decide), fun l2 n2 => ?_⟩
      have ne2 := R.ne n2
      generalize hg : upd _ l2 _ = H2
      obtain ⟨s2, g2⟩ := upd_new hg n2
      clear hg
      refine ⟨r, l2, [], rfl, R.same s2, ne2, g2, by decide, fun H3 x b3 R nx _ => ?_⟩
      refine ⟨_, rfl, r, rfl, R, fun H4 y b4 R ny iw => ?_⟩
      refine ⟨_, rfl, r, 2, rfl, R, by decide, by decide, fun H5 b b5 R e0 e1 => ?_⟩
      obtain ⟨b, rfl⟩ := Int.eq_ofNat_of_zero_le e0
      refine ⟨(by show 4 ≤ sizeLine; decide), fun t o nt st tz => ?_⟩
      refine q _ t _ [.str "message", .str x, .str y, .int (b : Int)] (b1.trans ((But.of s2).trans (b3.trans (b4.trans (b5.trans (But.of st)))))) (R.same st) tz (.cons (.str _) (.cons (.str _) (.cons (.str _) (.cons (.int _) .nil)))) ⟨by show 1 ≤ 4; decide, by show 4 ≤ 4; decide, fun p hp => ?_, fun p hp => ?_⟩ (it_msg nx iw (by omega))
      · simp only [List.mem_cons, List.not_mem_nil, or_false] at hp
        rcases hp with rfl | rfl | rfl | rfl
        · exact a0_b2 a0_txt
        · exact a0_b2 (a0_nm nx)
        · exact a0_b2 ny
        · exact a0_b2 (a0_nat (by omega))
      · simp only [List.tail_cons, List.mem_cons, List.not_mem_nil, or_false] at hp
        rcases hp with rfl | rfl | rfl
        · exact pt_str
        · exact pt_str
        · exact pt_int
    refine ⟨_, rfl, rfl, _, rfl, ite2 (fun c2 => ?_) (fun c2 => ?_)⟩
    · refine ⟨(by show 1 ≤ sizeLine; decide), fun t o nt st tz => ?_⟩
      refine q _ t _ [.str "bye"] (b1.trans (But.of st)) (R.same st) tz (.cons (.str _) .nil) ⟨by show 1 ≤ 1; decide, by show 1 ≤ 4; decide, fun p hp => ?_, fun p hp => nomatch hp⟩ rfl
      rw [List.mem_singleton.mp hp]
      exact a0_b2 a0_txt
    refine ⟨_, rfl, r, rfl, R, fun H2 pa xs b2 R pz l3 l12 nm nd => ?_⟩
    refine ⟨_, rfl, pa, _, rfl, .inr pz.sq, _, _, rfl, rfl, ?_⟩
    rw [List.length_map]
    refine ⟨_, rfl, _, rfl, _, rfl, _, _, rfl, rfl, r, _, rfl, R, by omega, by omega, fun H3 c b3 R e0 e1 => ?_⟩
    obtain ⟨c, rfl⟩ := Int.eq_ofNat_of_zero_le e0
    have pz := pz.but (show Rng H2 r by assumption) b3
    refine ⟨(by show 3 ≤ sizeLine; decide), fun l4 n4 => ?_⟩
    have ne4 := R.ne n4
    generalize hg : upd _ l4 _ = H4
    obtain ⟨s4, g4⟩ := upd_new hg n4
    clear hg
    have R4 := R.same s4
    have pz := pz.same s4
    refine ⟨_, rfl, r, 3, rfl, R4, by decide, by decide, fun H5 i b5 R5 i0 i1 => ?_⟩
    have g4 := b5 _ _ ne4 g4
    have pz := pz.but R4 b5
    obtain ⟨v, hv, mv⟩ := at_in (xs := [V.int 0, .int ((xs.length : Int) - 2), .int (c : Int)]) i0 i1
    refine ⟨l4, _, i, v, rfl, rfl, SqL.of g4, hv, ?_⟩
    obtain ⟨k, rfl, k12, k2⟩ : ∃ k : Nat, v = .int (k : Int) ∧ k ≤ 12 ∧ k + 2 ≤ xs.length := by
      simp only [List.mem_cons, List.not_mem_nil, or_false] at mv
      rcases mv with rfl | rfl | rfl
      · exact ⟨0, rfl, by decide, by omega⟩
      · exact ⟨xs.length - 2, by rw [show (xs.length : Int) - 2 = ((xs.length - 2 : Nat) : Int) by omega], by omega, by omega⟩
      · exact ⟨c, rfl, by omega, by omega⟩
    clear mv hv g4
    refine ⟨(by show 5 ≤ sizeLine; decide), fun l6 n6 => ?_⟩
    have ne6 := R5.ne n6
    generalize hg : upd _ l6 _ = H6
    obtain ⟨s6, g6⟩ := upd_new hg n6
    clear hg
    have R6 := R5.same s6
    have pz := pz.same s6
    refine ⟨_, rfl, r, 5, rfl, R6, by decide, by decide, fun H7 j b7 R7 j0 j1 => ?_⟩
    have g6 := b7 _ _ ne6 g6
    have pz := pz.but R6 b7
    obtain ⟨v, hv, mv⟩ := at_in (xs := [V.str "ask", .str "no", .str "yes", .str "go", .str "back"]) j0 j1
    refine ⟨l6, _, j, v, rfl, rfl, SqL.of g6, hv, ?_⟩
    obtain ⟨kd, rfl, hk, mk⟩ : ∃ kd : Str, v = .str kd ∧ A0 (.str kd) ∧ kd ∈ KINDS := by
      simp only [List.mem_cons, List.not_mem_nil, or_false] at mv
      rcases mv with rfl | rfl | rfl | rfl | rfl
      · exact ⟨_, rfl, a0_txt, by decide +kernel⟩
      · exact ⟨_, rfl, a0_txt, by decide +kernel⟩
      · exact ⟨_, rfl, a0_txt, by decide +kernel⟩
      · exact ⟨_, rfl, a0_txt, by decide +kernel⟩
      · exact ⟨_, rfl, a0_txt, by decide +kernel⟩
    refine ⟨_, rfl, _, rfl, (by show 3 ≤ sizeLine; decide), fun t o nt st tz => ?_⟩
    refine q _ t _ [.str kd, .tuple (xs.map PyData.str), .int (k : Int)] (b1.trans (b2.trans (b3.trans ((But.of s4).trans (b5.trans ((But.of s6).trans (b7.trans (But.of st)))))))) (R7.same st) tz (.cons (.str _) (.cons (.tup (R7.same st) (pz.same st) (dbs_strs xs)) (.cons (.int _) .nil))) ⟨by show 1 ≤ 3; decide, by show 3 ≤ 4; decide, fun p hp => ?_, fun p hp => ?_⟩ (it_rel mk nm nd l3 k2)
    · simp only [List.mem_cons, List.not_mem_nil, or_false] at hp
      rcases hp with rfl | rfl | rfl
      · exact a0_b2 hk
      · exact (Bd.tup (path_a0 nm) (by rw [List.length_map]; exact l12) (by decide)).mono (by decide) (by decide)
      · exact a0_b2 (a0_nat (by omega))
    · simp only [List.tail_cons, List.mem_cons, List.not_mem_nil, or_false] at hp
      rcases hp with rfl | rfl
      · intro qs z
        injection z with z
        rw [← z]
        exact ⟨by rw [List.length_map]; exact l12, path_a0 nm⟩
      · exact pt_int
end
end My

/-! An own exception of two fields raised; a call of what a subscript gives. -/
namespace Xl
open PySem PySem.Spec PyProof.Rows L2 Gy
def spI2 (C : Addr) (f1 f2 : Str) : Sp := fun vs H Q _ => ∃ (a : Addr) (v1 v2 : V), vs = [.ref a, v1, v2] ∧ H a = some (exo a C none) ∧
  ∀ dx, H dx = none → dx ≠ a → Q .non (upd (upd (upd H dx (exd dx [(f1, v1)])) a (exo a C (some dx))) dx (exd dx [(f2, v2), (f1, v1)]))
theorem del_made2 {H : Hp} {a dx C : Addr} {f1 f2 : Str} {v1 v2 : V} (n : H a = none) (ne : dx ≠ a) :
    upd (del (upd (upd (upd (upd H a (exo a C none)) dx (exd dx [(f1, v1)])) a (exo a C (some dx))) dx (exd dx [(f2, v2), (f1, v1)])) a) dx (.xd [(f2, v2), (f1, v1)]) = upd H dx (.xd [(f2, v2), (f1, v1)]) := by
  funext b
  by_cases h1 : b = dx
  · rw [h1, upd_same, upd_same]
  · rw [upd_ne h1, upd_ne h1]
    by_cases h2 : b = a
    · rw [h2, del_same, n]
    · rw [del_ne h2, upd_ne h1, upd_ne h2, upd_ne h1, upd_ne h2]
section
variable {X : Cx} {C fI : Addr} {fd : FuncData} {f1 f2 x : Str} {e e2 : Expr} {p pos : Pos}
/-- C(e, e2), to be raised -/
def tMk2 (C : Addr) (f1 f2 : Str) (t : TA) : L2.St → Hp → XK → Prop := fun σ H Q => t σ H fun vs H1 => ∃ v1 v2, vs = [v1, v2] ∧ ∀ d, H1 d = none → Q (.ref C) (some d) (upd H1 d (.xd [(f2, v2), (f1, v1)]))
theorem pmk_x2 {t : TA} (T : XIn X.K C fI) (ty : PySem.W.typeIn X.K (.ref C) = some (.type "type")) (F : FnOk X.prog X.w X.K X.mg X.base CX0 1 fI fd ["self", f1, f2] (spI2 C f1 f2)) (hr : Room 2 X.A)
    (hb : XB X.K fd ["self", f1, f2] [] (fun us _ => us) (fun vs _ => vs)) (hg : Gl X x) (hm : X.mg x = some (.ref C)) (ha : PA X [e, e2] t)
    (hdb : (x == ("__debug__" : Str)) = false := by decide) (hst : starEach [e, e2] X.env = (false, eval e X.env) :: starEach [e2] X.env := by rfl) (hpl : (backTo pos (starEach [e2] X.env)).any (·.1) = false := by rfl) :
    PMk X (.Call (.Name x p) [e, e2] [] pos) (tMk2 C f1 f2 t) := by
  intro pins s σ H Q I h
  refine wpAny_Call_Name_kw (ld_glob I hg hm ?_ hdb)
  refine PySem.W.callWith_K (h₀ := X.base) I.ok.mod.kin T.kp (thn (ha.run pos pins s σ H _ I h) ?_) hst hpl
  rintro us s1 ⟨vs, H1, I1, r1, v1, v2, rfl, q1⟩
  refine ⟨I1.kIn, ?_⟩
  show wpAny _ _ (call (.ref C) us) _ _ _
  obtain ⟨B, nI, iI, bmB, BF, _, ii, _⟩ := T.base
  obtain ⟨nm, N', qn, bs, bm, hdct, sn, sub, ab, col, dd, k0, k1, k2, k3, k5, cl, hT⟩ := PySem.W.excInit_of I1.kIn ii
  obtain ⟨hp, g', dr, tk', os⟩ := s1
  have big : hp.objs.size ≤ hp.objs.size + 1 := Nat.le_succ _
  have na : H1 (hp.objs.size + 1) = none := I1.hok.fresh big
  have keep : ∀ b o, hp.get? b = some o → ((hp.push (PySem.W.kdv_tup us)).push (PySem.PX.excO C hp.objs.size)).get? b = some o := fun b o e =>
    Heap.get?_push_of_some _ (Heap.get?_push_of_some _ e)
  have new : ((hp.push (PySem.W.kdv_tup us)).push (PySem.PX.excO C hp.objs.size)).get? (hp.objs.size + 1) = some (PySem.PX.excO C hp.objs.size) := by heap_get
  have I2 := I1.laid (t' := tk') (a := hp.objs.size + 1) (o := exo (hp.objs.size + 1) C none) keep big (exo_ok new)
  have r2 : Vals [V.ref (hp.objs.size + 1), v1, v2] (Value.ref (hp.objs.size + 1) :: us) := .cons rfl r1
  have hq : spI2 C f1 f2 [V.ref (hp.objs.size + 1), v1, v2] (upd H1 (hp.objs.size + 1) (exo (hp.objs.size + 1) C none))
      (fun r H2 => r = .non ∧ ∃ dx, dx ≠ hp.objs.size + 1 ∧ upd H1 (hp.objs.size + 1) (exo (hp.objs.size + 1) C none) dx = none ∧
        H2 = upd (upd (upd (upd H1 (hp.objs.size + 1) (exo (hp.objs.size + 1) C none)) dx (exd dx [(f1, v1)])) (hp.objs.size + 1) (exo (hp.objs.size + 1) C (some dx))) dx (exd dx [(f2, v2), (f1, v1)])) (fun _ _ _ => False) :=
    ⟨_, v1, v2, rfl, upd_same, fun dx nd ne => ⟨rfl, dx, ne, nd, rfl⟩⟩
  have bl := hb.to ⟨_, g', dr, tk', os⟩ (Value.ref (hp.objs.size + 1)) us [] I2.kIn (by rw [← r2.length]; rfl)
  refine wpAny_call (PySem.Xg.kw_call BF hT cl (PySem.W.looks_findIn I1.kIn T.ini) (fun self => PySem.W.bind_fn I1.kIn self T.tf) ?_ (codeAny_mono (F.run _ X.stack _ _ _ _ _ _ _ (hr.make C us []) (I2.env0.make C us []) bl r2 hq) ?_))
  · rw [← r1.length, sizeLine_eq]
    show 2 ≤ 16777216
    decide
  · rintro (er | (_ | _ | _ | u)) s' z
    · exact (show False from z).elim
    · exact z.elim
    · exact z.elim
    · exact z.elim
    · obtain ⟨r, H2, os2, bare2, un2, hok2, rv, er, dx, ne, nd, e2⟩ := z
      subst er
      obtain ⟨h2, g2, d2, t2, os'⟩ := s'
      subst e2
      refine ⟨rv, mk_end (raises_own T.ex ty) I1 big keep un2 hok2 os2 bare2 ((upd_ne ne.symm).trans upd_same) upd_same ((upd_ne ne).symm.trans nd) ?_⟩
      rw [del_made2 na ne]
      exact q1 dx ((upd_ne ne).symm.trans nd)
/-- raise C(e, e2) -/
theorem ps_raise2 {W : WX} {t : TA} {rp : Pos} (hc : X.calm = true) (tk : Takes X W) (T : XIn X.K C fI) (ty : PySem.W.typeIn X.K (.ref C) = some (.type "type")) (F : FnOk X.prog X.w X.K X.mg X.base CX0 1 fI fd ["self", f1, f2] (spI2 C f1 f2)) (hr : Room 2 X.A)
    (hb : XB X.K fd ["self", f1, f2] [] (fun us _ => us) (fun vs _ => vs)) (hg : Gl X x) (hm : X.mg x = some (.ref C)) (ha : PA X [e, e2] t)
    (hdb : (x == ("__debug__" : Str)) = false := by decide) (hst : starEach [e, e2] X.env = (false, eval e X.env) :: starEach [e2] X.env := by rfl) (hpl : (backTo pos (starEach [e2] X.env)).any (·.1) = false := by rfl) :
    PS X (.Raise (some (.Call (.Name x p) [e, e2] [] pos)) none rp) (fun _ σ H => tMk2 C f1 f2 t σ H fun cls d H' => W cls d σ H') :=
  ps_raise hc tk (pmk_x2 T ty F hr hb hg hm ha hdb hst hpl)
end
end Xl
namespace My
open PySem PySem.Spec PyProof.Rows L2 Gy Xl Xs Xt
/-- a class of errors with two fields: raised -/
structure Rz2 (P : Program) (w : World) (K : PySem.W.Frag) (mg : Str → Option Value) (base : Heap) (nm f1 f2 : Str) (C : Addr) : Prop where
  gm : mg nm = some (.ref C)
  ty : PySem.W.typeIn K (.ref C) = some (.type "type")
  ex : ∃ (fI : Addr) (fd : FuncData), XIn K C fI ∧ FnOk P w K mg base CX0 1 fI fd ["self", f1, f2] (spI2 C f1 f2) ∧ XB K fd ["self", f1, f2] [] (fun us _ => us) (fun vs _ => vs)
/-- what is wanted where C(v1, v2) is raised -/
def Ro2 (E : XK) (C : Addr) (f1 f2 : Str) (v1 v2 : V) (H : Hp) : Prop := ∀ H' dx, Same H H' → H' dx = some (.xd [(f2, v2), (f1, v1)]) → E (.ref C) (some dx) H'
theorem Ro2.same {E : XK} {C : Addr} {f1 f2 : Str} {v1 v2 : V} {H H1 : Hp} (h : Ro2 E C f1 f2 v1 v2 H) (s : Same H H1) : Ro2 E C f1 f2 v1 v2 H1 := fun H' dx s1 e => h H' dx (s.trans s1) e
/-- xs[i](e, ..): one of several defs -/
def tCallIx (S : Addr → Option Sp) (tf : TE) (t : TA) : TE := fun σ H Q => tf σ H fun v H1 => ∃ f sp, v = .ref f ∧ S f = some sp ∧ t σ H1 fun vs H2 => sp vs H2 Q (fun _ _ _ => False)
theorem pe_callIx {X : Cx} {k : Nat} {S : Addr → Option Sp} {a b e : Expr} {es : List Expr} {tf : TE} {t : TA} {p pos : Pos} (A : ∀ f sp, S f = some sp → Held X.prog X.w X.K X.mg X.base k f sp) (hr : Room k X.A) (hf : PE X (.Subscript a b p) tf) (ha : PA X (e :: es) t)
    (he : starEach (e :: es) X.env = (false, eval e X.env) :: starEach es X.env := by rfl) (hpl : (backTo pos (starEach es X.env)).any (·.1) = false := by rfl) : PE X (.Call (.Subscript a b p) (e :: es) [] pos) (tCallIx S tf t) := by
  refine ⟨fun pins s σ H Q I h => ?_⟩
  rw [show eval (.Call (.Subscript a b p) (e :: es) [] pos) X.env = (do callWith pos (← eval (.Subscript a b p) X.env) [] (backTo pos (starEach (e :: es) X.env)) (backToKw pos (keywordEach [] X.env))) from rfl]
  refine wpAny_bind (thn (hf.run pins s σ H _ I h) fun u s1 ⟨v, H1, I1, r1, f, sp, ev, hS, q1⟩ => ?_)
  subst ev
  cases r1
  obtain ⟨fd, ps, F, hk, hb⟩ := (A f sp hS).ex
  refine PySem.W.callWith_K (h₀ := X.base) I.ok.mod.kin hk (thn (ha.run pos pins s1 σ _ _ I1 q1) fun us s2 ⟨vs, H2, I2, r, q⟩ => ⟨I2.kIn, ?_⟩) he hpl
  have q' : sp (vs ++ []) H2 Q (fun _ _ _ => False) := by
    rw [List.append_nil]
    exact q
  exact run_fn F hr hb .nil (fun _ _ _ _ _ _ _ z => z.elim) I2 r q'
theorem Held.of {P : Program} {w : World} {K : PySem.W.Frag} {mg : Str → Option Value} {base : Heap} {k j : Nat} {f : Addr} {nm : Str} {ps : List Str} {sp : Sp} (F : Fk P w K mg base CX0 j nm ps sp) (h : j ≤ k) (m : mg nm = some (.ref f)) : Held P w K mg base k f sp := by
  obtain ⟨g, fd, m', kp, b, G⟩ := F.ex
  rw [m] at m'
  cases m'
  exact ⟨fd, ps, G.mono h, kp, b⟩
/-- f(e, ..) in a try -/
theorem pe_callSF {X : Cx} {CX : CXT} {k : Nat} {ps : List Str} {sp : Sp} {E : L2.St → XK} {x : Str} {p pos : Pos} {e : Expr} {es : List Expr} {t : TA} (F : Fk X.prog X.w X.K X.mg X.base CX k x ps sp) (hr : Room k X.A) (hg : Gl X x) (hx : ∀ σ, PassesAt CX X σ (E σ)) (ha : PA X (e :: es) t)
    (hdb : (x == ("__debug__" : Str)) = false := by decide) (he : starEach (e :: es) X.env = (false, eval e X.env) :: starEach es X.env := by rfl)
    (hpl : (backTo pos (starEach es X.env)).any (·.1) = false := by rfl) : PE X (.Call (.Name x p) (e :: es) [] pos) (tCallSD sp [] E t) := by
  obtain ⟨f, fd, m, kp, b, G⟩ := F.ex
  exact pe_callSD G hr hg m kp b .nil hx ha hdb he hpl
/-- what is known of a class of errors that is caught -/
structure Xc (K : PySem.W.Frag) (C R : Addr) : Prop where
  x : XCl K C
  em : PySem.W.exmOne K (.ref C) (.ref C) = some true
  ki : PySem.W.kitOne K (.ref C) (.ref R) = some true
theorem Xc.xf {K : PySem.W.Frag} {C R : Addr} (h : Xc K C R) : XfC K C := ⟨h.x.ga, h.x.gg, h.x.ex, h.x.hd⟩
/-- the class of an object, as the built-in isinstance asks for it -/
structure Cg (K : PySem.W.Frag) : Prop where
  cg : PySem.W.specialIn K (.builtin "object.__class__") "__get__" = some (some (.builtin "getset_descriptor.__get__"))
  ct : PySem.W.takesIn K (.builtin "object.__class__") = some true
end My

namespace My
open PySem PySem.Spec PyProof.Rows L2 Gy Xl Xs Xt Xo Xp Xd
/-! ### the program's channels -/
structure Cc (K : PySem.W.Frag) (C : Addr) : Prop where
  cl : Cls K C
  nL : NoAttr K C "held"
theorem fld_no {m : Str} {v : V} (h : (m == ("held" : Str)) = false) : ([("held", v)] : List (Str × V)).lookup m = none := by
  show (match m == ("held" : Str) with
    | true => some v
    | false => none) = none
  rw [h]
structure Fm (P : Program) (w : World) (K : PySem.W.Frag) (mg : Str → Option Value) (base : Heap) (CX : CXT) (k : Nat) (C : Addr) (nm : Str) (ps : List Str) (sp : Sp) : Prop where
  ex : ∃ (f : Addr) (fd : FuncData), Meth K C nm f ∧ Binds K fd ps [] ∧ FnOk P w K mg base CX k f fd ps sp
theorem lock_same {H H' : Hp} {d : Addr} {u : HO} {od : Obj} (h : H d = some u) (s : Same (upd H d (.frz od u)) H') : Same H (upd H' d u) := fun b o e => by
  by_cases c : b = d
  · subst c
    rw [h] at e
    cases e
    exact upd_same
  · rw [upd_ne c]
    exact s b o (by rw [upd_ne c]; exact e)
def fcount (ks : List (Str × Str)) (f : Str × Str → List PyData) : Nat := (ks.map fun k => (f k).length).sum
section
variable {P : Program} {w : World} {K : PySem.W.Frag} {mg : Str → Option Value} {base : Heap} {H : Hp} {C CI CN : Addr}
/-- a Channels that holds these items -/
def Chn (K : PySem.W.Frag) (C : Addr) (H : Hp) (p : Addr) (ks : List (Str × Str)) (f : Str × Str → List PyData) : Prop := ∃ (La dx : Addr) (ad : Str × Str → Addr), H p = some (.ins C dx [("held", .ref La)]) ∧ ChD K H La ks f ad
def spCInit (C : Addr) : Sp := fun vs H Q _ => ∃ (p dx : Addr), vs = [.ref p] ∧ H p = some (.ins C dx []) ∧ ∀ La, H La = none → Q .non (upd (upd H La (.dT [])) p (.ins C dx [("held", .ref La)]))
theorem ok_cinit {f : Addr} {fd : FuncData} (F : Fun K "__init__" "Channels.__init__" m_init f fd) (Y : Bn mg) (T : Cc K C) : FnOk P w K mg base CX0 1 f fd ["self"] (spCInit C) := by
  refine F.ok scm_init (fun vs H Q E h => ?_) (fun cdv A outer s H vs Q E hr h => ?_)
  · obtain ⟨p, dx, rfl, _⟩ := h
    rfl
  · obtain ⟨p, dx, rfl, hp, q⟩ := h
    refine ⟨_, (pss_one (ps_fld (pv 0) pe_dnewT rfl)), ?_⟩
    refine fun La nLa => ⟨_, rfl, p, C, dx, [], rfl, ?_, T.cl, T.nL, ?_, ?_⟩
    · exact same_upd nLa _ _ hp
    · exact (by show 0 < _; decide)
    · exact q La nLa
def spBusy (K : PySem.W.Frag) (C : Addr) : Sp := fun vs H Q _ => ∃ (p : Addr) (ks : List (Str × Str)) (f : Str × Str → List PyData), vs = [.ref p] ∧ Chn K C H p ks f ∧ ∀ (ys : List V) (qs : List (Str × Str)) (L : Addr), qs.Perm ks → qs.Pairwise leQ → Kps H ys qs → H L = none → Q (.ref L) (upd H L (.lst ys))
theorem ok_busy {f : Addr} {fd : FuncData} (F : Fun K "busy" "Channels.busy" m_busy f fd) (Y : Bn mg) (T : Cc K C) : FnOk P w K mg base CX0 1 f fd ["self"] (spBusy K C) := by
  refine F.ok scm_busy (fun vs H Q E h => ?_) (fun cdv A outer s H vs Q E hr h => ?_)
  · obtain ⟨p, ks, g, rfl, _⟩ := h
    rfl
  · obtain ⟨p, ks, g, rfl, ⟨La, dx, ad, hp, c⟩, q⟩ := h
    refine ⟨_, (pss_one (ps_ret (pe_callB (cr_sortD rfl) (by rfl) Y.sorted (by decide +kernel) (pa_cons (pe_fld (pv 0) rfl) pa_nil)))), ?_⟩
    refine ⟨_, rfl, p, C, dx, _, _, rfl, hp, T.cl, T.nL, rfl, La, ks, fun k => .ref (ad k), rfl, c.at_, fun ys qs L pm pw kp nL => ?_⟩
    exact q ys qs L pm pw kp nL
theorem nm_txt {x : Str} (h : Nm x) : textOf (.str x) LET 8 = true := by
  rw [show textOf (.str x) LET 8 = isHost (.str x) from rfl]
  show (decide ((1 : Int) ≤ (x.length : Int)) && decide ((x.length : Int) ≤ 8) && allIn LET x) = true
  rw [decide_eq_true (by have := h.1; omega), decide_eq_true (by have := h.2.1; omega)]
  exact List.all_eq_true.mpr fun c hc => decide_eq_true (h.2.2 c hc)
theorem kd_nmC {x : Str} (h : Nm x) : Kd K H (.str x) := .str x (le200 (by have := h.2.1; omega))
def inF (ks : List (Str × Str)) (f : Str × Str → List PyData) (k : Str × Str) : List PyData := if k ∈ ks then f k else []
def spFlight (K : PySem.W.Frag) (C : Addr) : Sp := fun vs H Q _ => ∃ (p : Addr) (a b : Str) (ks : List (Str × Str)) (f : Str × Str → List PyData), vs = [.ref p, .str a, .str b] ∧ Nm a ∧ Nm b ∧ Chn K C H p ks f ∧ ∀ H' L us, Same H H' → H L = none → H' L = some (.lst us) → Dns K (fz H') us (inF ks f (a, b)) → Q (.ref L) H'
theorem ok_flight {f : Addr} {fd : FuncData} (F : Fun K "in_flight" "Channels.in_flight" m_in_flight f fd) (Y : Bn mg) (T : Cc K C) (G_is_host_name : Fk P w K mg base CX0 2 "is_host_name" ["value"] (spHost K)) : FnOk P w K mg base CX0 3 f fd ["self", "source", "goal"] (spFlight K C) := by
  refine F.ok scm_in_flight (fun vs H Q E h => ?_) (fun cdv A outer s H vs Q E hr h => ?_)
  · obtain ⟨p, a, b, ks, g, rfl, _⟩ := h
    rfl
  · obtain ⟨p, a, b, ks, g, rfl, na, nb, ⟨La, dx, ad, hp, c⟩, q⟩ := h
    have hu1 := Nat.lt_of_le_of_lt (Nat.add_le_add_left (show 1 ≤ 64 by decide) _) hr.units
    refine ⟨_, (pss_cons (ps_if (PW.pt (pw_or (pt_not (pt_val (pe_callF G_is_host_name (hr.mono (by decide)) (by rfl) pass0 (pa_cons (pv 1) pa_nil)))) (pw_or1 (pt_not (pt_val (pe_callF G_is_host_name (hr.mono (by decide)) (by rfl) pass0 (pa_cons (pv 2) pa_nil)))))))
 (pss_one (ps_ret (pe_lst pa_nil)))
 pss_nil)
 (pss_one (ps_ret (pe_callTy call_list_of (by rfl) Y.list (by decide +kernel) (pa_cons (pe_dget2 hu1 (pe_fld (pv 0) rfl) (pe_tup (pa_cons (pv 1) (pa_cons (pv 2) pa_nil))) (pe_lst pa_nil) ⟨rfl, rfl, rfl, rfl⟩) pa_nil))))), ?_⟩
    refine ⟨_, rfl, .str a, rfl, kd_nmC na, fun H1 s1 => ⟨_, rfl, ?_⟩⟩
    rw [nm_txt na]
    refine iteF ⟨_, rfl, .str b, rfl, kd_nmC nb, fun H2 s2 => ⟨_, rfl, ?_⟩⟩
    rw [nm_txt nb]
    refine iteF ?_
    have s02 := s1.trans s2
    have c2 := c.same s02
    refine ⟨_, rfl, p, C, dx, _, _, rfl, s02 _ _ hp, T.cl, T.nL, rfl, La, rfl, .inr ⟨_, .inl c2.at_⟩, ?_⟩
    refine ⟨_, rfl, _, rfl, (by show 2 ≤ sizeLine; decide), fun t nt => ?_⟩
    have s3 := same_upd (o := .tup [.str a, .str b]) nt
    have gt : (upd H2 t (.tup [.str a, .str b])) t = some (.tup ((kq (a, b)).map kV)) := upd_same
    generalize upd H2 t (.tup [.str a, .str b]) = H3 at s3 gt ⊢
    refine ⟨Nat.zero_le _, fun l nl => ?_⟩
    generalize hg : upd H3 l _ = H4
    obtain ⟨s4, g4⟩ := upd_new hg nl
    clear hg
    have s24 := s3.trans s4
    have c4 := c2.same s24
    have gd := DGet.t c4.at_ (s4 _ _ gt)
    rw [ckv_val] at gd
    have s04 := s02.trans s24
    by_cases m : (a, b) ∈ ks
    · rw [if_pos m] at gd
      obtain ⟨us, e1, e2, _⟩ := c4.ls _ m
      refine ⟨_, gd, ad (a, b), us, rfl, .inl (SqL.of e1), fun L nL => ?_⟩
      have nL0 : H L = none := by
        cases z : H L with
        | none => rfl
        | some o => rw [s04 _ _ z] at nL; cases nL
      refine q _ L us (s04.trans (same_upd nL)) nL0 upd_same ?_
      unfold inF
      rw [if_pos m]
      exact Dns.same (fz_keep (.of (same_upd nL))) e2
    · rw [if_neg m] at gd
      refine ⟨_, gd, l, [], rfl, .inl (SqL.of g4), fun L nL => ?_⟩
      have nL0 : H L = none := by
        cases z : H L with
        | none => rfl
        | some o => rw [s04 _ _ z] at nL; cases nL
      refine q _ L [] (s04.trans (same_upd nL)) nL0 upd_same ?_
      unfold inF
      rw [if_neg m]
      exact .nil
def putKs (ks : List (Str × Str)) (k : Str × Str) : List (Str × Str) := if k ∈ ks then ks else ks ++ [k]
def putFn (ks : List (Str × Str)) (f : Str × Str → List PyData) (k : Str × Str) (d : PyData) : Str × Str → List PyData := fun j => if j = k then inF ks f k ++ [d] else f j
theorem ckv_snoc {ks : List (Str × Str)} {ad : Str × Str → Addr} {k : Str × Str} {l : Addr} (n : k ∉ ks) : putK (ckv ks ad) (kq k) (.ref l) = ckv (ks ++ [k]) (fun j => if j = k then l else ad j) := by
  have e : (ckv ks ad).any (fun kv => decide (kv.1 = kq k)) = false := by
    rw [List.any_eq_false]
    intro kv hkv
    obtain ⟨j, hj, rfl⟩ := List.mem_map.mp hkv
    rw [decide_eq_true_eq]
    exact fun z => n (by rw [← kq_inj z]; exact hj)
  unfold putK
  rw [e, if_neg Bool.false_ne_true]
  unfold ckv
  rw [List.map_append]
  congr 1
  · refine List.map_congr_left fun j hj => ?_
    dsimp only
    rw [if_neg fun z : j = k => n (by rw [← z]; exact hj)]
  · show [_] = [(kq k, V.ref (if k = k then l else ad k))]
    rw [if_pos rfl]
theorem ckv_snoc2 {ks : List (Str × Str)} {ad : Str × Str → Addr} {k : Str × Str} (n : k ∉ ks) : putK (ckv ks ad) (kq k) (.ref (ad k)) = ckv (ks ++ [k]) ad := by
  rw [ckv_snoc n]
  congr 1
  funext i
  by_cases e : i = k
  · rw [if_pos e, e]
  · rw [if_neg e]
def spPut (K : PySem.W.Frag) (C : Addr) : Sp := fun vs H Q _ => ∃ (p La dx : Addr) (a b : Str) (it : V) (d : PyData) (ks : List (Str × Str)) (f : Str × Str → List PyData) (ad : Str × Str → Addr), vs = [.ref p, .str a, .str b, it] ∧ Nm a ∧ Nm b ∧ a ≠ b ∧ Dn K H it d ∧ sml d = true ∧ isItem d = true ∧ H p = some (.ins C dx [("held", .ref La)]) ∧ ChD K H La ks f ad ∧ ks.length ≤ 500 ∧ (∀ k ∈ ks, (f k).length ≤ 500) ∧
  ∀ H' ad', FzK H H' → (∀ x o, H x = some o → x ≠ La → (∀ k ∈ ks, x ≠ ad k) → H' x = some o) → (∀ k ∈ putKs ks (a, b), k ∈ ks ∧ ad' k = ad k ∨ H (ad' k) = none) → ChD K H' La (putKs ks (a, b)) (putFn ks f (a, b) d) ad' → Q .non H'
theorem ok_put {f : Addr} {fd : FuncData} (F : Fun K "put" "Channels.put" m_put f fd) (Y : Bn mg) (T : Cc K C) (R : Rz P w K mg base "InvalidName" "value" CN) (G_is_host_name : Fk P w K mg base CX0 2 "is_host_name" ["value"] (spHost K)) (G_check_item : Fk P w K mg base (L2.CX P w) 6 "check_item" ["value"] (spChk K CI)) : FnOk P w K mg base (L2.CX P w) 7 f fd ["self", "source", "goal", "item"] (spPut K C) := by
  obtain ⟨fIR, fdIR, XI, GI, bI⟩ := R.ex
  refine F.okX scm_put (fun vs H Q E h => ?_) (fun cdv A outer s H vs Q E hr h => ?_)
  · obtain ⟨p, La, dx, a, b, it, d, ks, g, ad, rfl, _⟩ := h
    rfl
  · obtain ⟨p, La, dx, a, b, it, d, ks, g, ad, rfl, na, nb, nab, di, sm, isI, hp, c, kl, fl, q⟩ := h
    have hu1 := Nat.lt_of_le_of_lt (Nat.add_le_add_left (show 1 ≤ 64 by decide) _) hr.units
    refine ⟨_, (pss_cons (ps_if (pt_not (pt_val (pe_callF G_is_host_name (hr.mono (by decide)) (by rfl) pass0 (pa_cons (pv 1) pa_nil))))
 (pss_one (ps_raise1 rfl (takes_of rfl rfl rfl rfl) XI R.ty GI (hr.mono (by decide)) bI (by rfl) R.gm (pa_cons (pv 1) pa_nil)))
 pss_nil)
 (pss_cons (ps_if (PW.pt (pw_or (pt_not (pt_val (pe_callF G_is_host_name (hr.mono (by decide)) (by rfl) pass0 (pa_cons (pv 2) pa_nil)))) (pw_or1 (pt_cmpR op_eq (pv 2) (pv 1) (nomark _)))))
 (pss_one (ps_raise1 rfl (takes_of rfl rfl rfl rfl) XI R.ty GI (hr.mono (by decide)) bI (by rfl) R.gm (pa_cons (pv 2) pa_nil)))
 pss_nil)
 (pss_cons (ps_expr (pe_callF G_check_item (hr.mono (by decide)) (by rfl) (passes_call (E := E) (takes_of rfl rfl rfl rfl) (fun _ _ _ _ h => h)) (pa_cons (pv 3) pa_nil)))
 (pss_one (ps_expr (pe_bm PySem.F.plainAttrs_list PySem.F.slot_list_append PySem.F.type_list_append mt_append (pe_bm PySem.F.plainAttrs_dict PySem.F.slot_dict_setdefault PySem.F.type_dict_setdefault (mt_setd hu1) (pe_fld (pv 0) rfl) (pa_cons (pe_tup (pa_cons (pv 1) (pa_cons (pv 2) pa_nil))) (pa_cons (pe_lst pa_nil) pa_nil))) (pa_cons (pv 3) pa_nil))))))), ?_⟩
    refine ⟨_, rfl, .str a, rfl, kd_nmC na, fun H1 s1 => ⟨_, rfl, ?_⟩⟩
    rw [nm_txt na]
    refine iteF ⟨_, rfl, .str b, rfl, kd_nmC nb, fun H2 s2 => ⟨_, rfl, ?_⟩⟩
    rw [nm_txt nb]
    refine iteF ?_
    refine ⟨_, rfl, _, rfl, rfl, _, rfl, ?_⟩
    rw [decide_eq_false (show ¬ V.str b = V.str a from fun z => nab (by injection z with z; exact z.symm))]
    refine iteF ?_
    have s02 := s1.trans s2
    refine ⟨_, rfl, it, d, rfl, di.same s02, sm, fun _ H3 s3 => ?_, fun n => by rw [isI] at n; cases n⟩
    have s03 := s02.trans s3
    have c3 := c.same s03
    refine ⟨_, rfl, p, C, dx, _, _, rfl, s03 _ _ hp, T.cl, T.nL, rfl, .inr (.inr (.inl ⟨rfl, .inr ⟨_, c3.at_⟩⟩)), _, rfl, _, rfl, (by show 2 ≤ sizeLine; decide), fun t nt => ?_⟩
    have s4 := same_upd (o := .tup [.str a, .str b]) nt
    have gt : (upd H3 t (.tup [.str a, .str b])) t = some (.tup ((kq (a, b)).map kV)) := upd_same
    generalize upd H3 t (.tup [.str a, .str b]) = H4 at s4 gt ⊢
    refine ⟨Nat.zero_le _, fun l nl => ?_⟩
    generalize hg : upd H4 l _ = H5
    obtain ⟨s5, g5⟩ := upd_new hg nl
    clear hg
    have s45 := s4.trans s5
    have s05 := s03.trans s45
    have c5 := c3.same s45
    have di5 := (dn_fz di (item_noL isI)).same (fz_keep (.of s05))
    have nl0 : H l = none := by
      cases z : H l with
      | none => rfl
      | some o => rw [(s03.trans s4) _ _ z] at nl; cases nl
    refine ⟨La, t, _, kq (a, b), .ref l, rfl, rfl, c5.at_, s5 _ _ gt, by rw [ckv_len]; exact small200 (by omega), fun v hv => ?_, fun hn => ?_⟩
    · rw [ckv_val] at hv
      by_cases m : (a, b) ∈ ks
      · rw [if_pos m] at hv
        cases hv
        obtain ⟨us, e1, e2, e3⟩ := c5.ls _ m
        have lus := Dns.len e2
        refine ⟨.inl ⟨rfl, _, SqL.of e1⟩, _, rfl, ad (a, b), us, it, rfl, rfl, e1, small200 (by have := fl _ m; omega), ?_⟩
        have fk : FzK H (upd H5 (ad (a, b)) (.lst (us ++ [it]))) := (FzK.of s05).trans ((FzK.refl H5).upd e1 (fun _ _ z => nomatch z))
        refine q _ ad fk (fun x o e n1 n2 => by rw [upd_ne (n2 _ m)]; exact s05 _ _ e) (fun k hk => .inl ⟨by unfold putKs at hk; rw [if_pos m] at hk; exact hk, rfl⟩) ?_
        have nLa : La ≠ ad (a, b) := fun z => by
          have := c5.at_
          rw [z, e1] at this
          cases this
        refine ⟨?_, ?_, fun k hk => ?_, ?_⟩
        · unfold putKs
          rw [if_pos m, upd_ne nLa]
          exact c5.at_
        · unfold putKs
          rw [if_pos m]
          exact c5.nd
        · unfold putKs at hk
          rw [if_pos m] at hk
          have fk5 : FzK H5 (upd H5 (ad (a, b)) (.lst (us ++ [it]))) := (FzK.refl H5).upd e1 (fun _ _ z => nomatch z)
          unfold putFn
          by_cases ek : k = (a, b)
          · rw [if_pos ek, ek]
            refine ⟨us ++ [it], upd_same, ?_, by simp⟩
            unfold inF
            rw [if_pos m]
            exact dns_app (Dns.same (fz_keep fk5) e2) (.cons (di5.same (fz_keep fk5)) .nil)
          · rw [if_neg ek]
            obtain ⟨us2, h1, h2, h3⟩ := c5.ls k hk
            refine ⟨us2, by rw [upd_ne fun z => ek (c5.inj _ hk _ m z)]; exact h1, Dns.same (fz_keep fk5) h2, h3⟩
        · unfold putKs
          rw [if_pos m]
          exact c5.inj
      · rw [if_neg m] at hv
        cases hv
    · rw [ckv_val] at hn
      have m : (a, b) ∉ ks := fun z => by rw [if_pos z] at hn; cases hn
      rw [ckv_snoc m]
      have nLl : La ≠ l := ne_of_none (c3.same s4).at_ nl
      have gl : (upd H5 La (.dT (ckv (ks ++ [(a, b)]) fun j => if j = (a, b) then l else ad j))) l = some (.lst []) := by
        rw [upd_ne nLl.symm]
        exact g5
      refine ⟨.inl ⟨rfl, _, SqL.of gl⟩, _, rfl, l, [], it, rfl, rfl, gl, (by show 0 < sizeLine; decide), ?_⟩
      have fk5 : FzK H5 (upd (upd H5 La (.dT (ckv (ks ++ [(a, b)]) fun j => if j = (a, b) then l else ad j))) l (.lst ([] ++ [it]))) := ((FzK.refl H5).upd c5.at_ (fun _ _ z => nomatch z)).upd g5 (fun _ _ z => nomatch z)
      have nal : ∀ k ∈ ks, ad k ≠ l := fun k hk => by
        obtain ⟨us2, h1, _⟩ := (c3.same s4).ls k hk
        exact ne_of_none h1 nl
      have naL : ∀ k ∈ ks, ad k ≠ La := fun k hk z => by
        obtain ⟨us2, h1, _⟩ := c5.ls k hk
        rw [z, c5.at_] at h1
        cases h1
      refine q _ (fun j => if j = (a, b) then l else ad j) ((FzK.of s05).trans fk5) (fun x o e n1 n2 => ?_) (fun k hk => ?_) ⟨?_, ?_, fun k hk => ?_, fun k hk j hj e => ?_⟩
      · rw [upd_ne (ne_of_none e nl0), upd_ne n1]
        exact s05 _ _ e
      · by_cases ek : k = (a, b)
        · rw [if_pos ek]
          exact .inr nl0
        · rw [if_neg ek]
          unfold putKs at hk
          rw [if_neg m] at hk
          exact .inl ⟨(List.mem_append.mp hk).resolve_right fun z => ek (List.mem_singleton.mp z), rfl⟩
      · unfold putKs
        rw [if_neg m, upd_ne nLl, upd_same]
      · unfold putKs
        rw [if_neg m, List.nodup_append]
        exact ⟨c5.nd, List.nodup_cons.mpr ⟨(fun z => nomatch z), List.nodup_nil⟩, fun x hx y hy => by rw [List.mem_singleton.mp hy]; exact fun z => m (z ▸ hx)⟩
      · unfold putKs at hk
        rw [if_neg m] at hk
        unfold putFn
        by_cases ek : k = (a, b)
        · rw [if_pos ek, if_pos ek]
          refine ⟨[] ++ [it], upd_same, ?_, by simp⟩
          unfold inF
          rw [if_neg m]
          exact .cons (di5.same (fz_keep fk5)) .nil
        · have hk2 := (List.mem_append.mp hk).resolve_right fun z => ek (List.mem_singleton.mp z)
          rw [if_neg ek, if_neg ek]
          obtain ⟨us2, h1, h2, h3⟩ := c5.ls k hk2
          exact ⟨us2, by rw [upd_ne (nal k hk2), upd_ne (naL k hk2)]; exact h1, Dns.same (fz_keep fk5) h2, h3⟩
      · unfold putKs at hk hj
        rw [if_neg m] at hk hj
        by_cases ek : k = (a, b)
        · by_cases ej : j = (a, b)
          · rw [ek, ej]
          · have hj2 := (List.mem_append.mp hj).resolve_right fun z => ej (List.mem_singleton.mp z)
            rw [if_pos ek, if_neg ej] at e
            exact absurd e.symm (nal j hj2)
        · have hk2 := (List.mem_append.mp hk).resolve_right fun z => ek (List.mem_singleton.mp z)
          by_cases ej : j = (a, b)
          · rw [if_neg ek, if_pos ej] at e
            exact absurd e (nal k hk2)
          · have hj2 := (List.mem_append.mp hj).resolve_right fun z => ej (List.mem_singleton.mp z)
            rw [if_neg ek, if_neg ej] at e
            exact c5.inj _ hk2 _ hj2 e
theorem ckv_at {ks : List (Str × Str)} {ad : Str × Str → Addr} {i : Nat} {k : List L2.Key} {v : V} (h : (ckv ks ad)[i]? = some (k, v)) : ∃ j, ks[i]? = some j ∧ k = kq j ∧ v = .ref (ad j) := by
  unfold ckv at h
  rw [List.getElem?_map] at h
  obtain ⟨j, hj, e⟩ := Option.map_eq_some_iff.mp h
  injection e with e1 e2
  exact ⟨j, hj, e1.symm, e2.symm⟩
theorem fc_snoc (ks : List (Str × Str)) (f : Str × Str → List PyData) (k : Str × Str) : fcount (ks ++ [k]) f = fcount ks f + (f k).length := by
  unfold fcount
  rw [List.map_append, List.sum_append, List.map_cons, List.map_nil, List.sum_cons, List.sum_nil, Nat.add_zero]
theorem fc_take (ks : List (Str × Str)) (f : Str × Str → List PyData) (i : Nat) : fcount (ks.take i) f ≤ fcount ks f := by
  have e : fcount ks f = fcount (ks.take i) f + fcount (ks.drop i) f := by
    unfold fcount
    rw [← List.sum_append, ← List.map_append, List.take_append_drop]
  omega
theorem yes_of {σ : L2.St} {H : Hp} {Q : Bool → Hp → Prop} (h : Q true H) : tYes σ H Q := h
def spCLen (K : PySem.W.Frag) (C : Addr) : Sp := fun vs H Q _ => ∃ (p : Addr) (ks : List (Str × Str)) (f : Str × Str → List PyData), vs = [.ref p] ∧ Chn K C H p ks f ∧ fcount ks f ≤ 500 ∧ ∀ H', Same H H' → Q (.int (fcount ks f : Nat)) H'
theorem ok_clen {f : Addr} {fd : FuncData} (F : Fun K "__len__" "Channels.__len__" m_len f fd) (Y : Bn mg) (T : Cc K C) : FnOk P w K mg base CX0 1 f fd ["self"] (spCLen K C) := by
  refine F.ok scm_len (fun vs H Q E h => ?_) (fun cdv A outer s H vs Q E hr h => ?_)
  · obtain ⟨p, ks, g, rfl, _⟩ := h
    rfl
  · obtain ⟨p, ks, g, rfl, ⟨La, dx, ad, hp, c⟩, fl, q⟩ := h
    have hu1 := Nat.lt_of_le_of_lt (Nat.add_le_add_left (show 1 ≤ 64 by decide) _) hr.units
    refine ⟨_, (pss_one (ps_ret (pe_callB call_len_seq (by rfl) Y.len PySem.boot_len (pa_cons (pe_lock (pe_lc2 (wi1 := iList K (tDGet (tFld K (tVar 0) "held") (tVar 1))) (own := [("pair", 1), ("item", 2)]) (vs1 := [2]) (g := gName 1) (g1 := gName 2) rfl scm_len.nd (pi_keys (pe_fld (pv 0) rfl)) (blkOk_by (N := ["self", "pair", "item"]) (sc := defScope m_len) (by decide +kernel)) (by decide) (fun _ _ _ _ _ => (pg_name (i := 1) scm_len.nd rfl (Or.inl rfl))) (fun _ _ _ _ _ => pts_nil) (fun _ _ _ _ _ => (pi_list (pe_dget hu1 (pe_fld (pv 0) rfl) (pv 1) (fun _ _ => rfl)))) (fun _ _ _ _ _ => (pg_name (i := 2) scm_len.nd rfl (Or.inl rfl))) (fun _ _ _ _ _ => pts_nil) (fun _ _ _ _ _ => (pv 2)))) pa_nil)))), ?_⟩
    refine ⟨La, _, c.at_, True.intro, fun od => ?_⟩
    have npL : p ≠ La := ne_of hp c.at_ (by intro z; cases z)
    have hpK : (upd H La (.frz od (.dT (ckv ks ad)))) p = some (.ins C dx [("held", .ref La)]) := by rw [upd_ne npL]; exact hp
    have hLK : (upd H La (.frz od (.dT (ckv ks ad)))) La = some (.frz od (.dT (ckv ks ad))) := upd_same
    have hnK : ∀ k ∈ ks, ∃ us, (upd H La (.frz od (.dT (ckv ks ad)))) (ad k) = some (.lst us) ∧ us.length = (g k).length := fun k hk => by
      obtain ⟨us, e1, e2, _⟩ := c.ls k hk
      exact ⟨us, by rw [upd_ne (ne_of e1 c.at_ (by intro z; cases z))]; exact e1, Dns.len e2⟩
    generalize hk : upd H La (.frz od (.dT (ckv ks ad))) = Hk at hpK hLK hnK
    refine ⟨_, rfl, p, C, dx, _, _, rfl, hpK, T.cl, T.nL, rfl, La, od, rfl, .inr ⟨_, hLK, fun D nD => ?_⟩⟩
    refine lc_out (walk_keysT (d := La) (o := od) (kvs := ckv ks ad)) (fun i H' => Same Hk H' ∧ ∃ us, H' D = some (.lst us) ∧ us.length = fcount (ks.take i) g)
      ⟨same_upd nD, [], upd_same, rfl⟩ (fun i H' _ h => h.1 _ _ hLK) ?_ ?_
    · rintro i y H1 H2 hi ⟨s1, us, hD, lu⟩ ⟨rfl, k, v, qa, hkv, rfl, hq⟩
      obtain ⟨j, hj, rfl, rfl⟩ := ckv_at hkv
      have mj := List.mem_of_getElem? hj
      obtain ⟨ws, hw, lw⟩ := hnK j mj
      have gd : DGet H2 La (.ref qa) (some (.ref (ad j))) := by
        have z : DGet H2 La (.ref qa) (valV (ckv ks ad) (kq j)) := .inr ⟨_, _, _, .inr ⟨od, s1 _ _ hLK⟩, rfl, hq, rfl⟩
        rw [ckv_val, if_pos mj] at z
        exact z
      have tk1 : fcount (ks.take (i + 1)) g = fcount (ks.take i) g + (g j).length := by
        rw [List.take_add_one, hj]
        exact fc_snoc _ _ _
      have tle := fc_take ks g (i + 1)
      refine ⟨rfl, ?_⟩
      refine yes_of ?_
      refine iteT ?_
      refine ⟨_, rfl, p, C, dx, _, _, rfl, s1 _ _ hpK, T.cl, T.nL, rfl, _, rfl, La, _, rfl, gd, ad j, rfl, ⟨_, SqL.of (s1 _ _ hw)⟩, ?_⟩
      refine lc_in (walk_list (K := K) (a := ad j) (xs := ws)) (D := D) (fun m H' => Same Hk H' ∧ ∃ us, H' D = some (.lst us) ∧ us.length = fcount (ks.take i) g + m)
        ⟨s1, us, hD, by rw [lu, Nat.add_zero]⟩ (fun m H' _ h => SqL.of (h.1 _ _ hw)) ?_ ?_
      · rintro m z H3 H4 hm ⟨s3, us, hD, lu⟩ ⟨rfl, hz⟩
        have hm' : m < ws.length := hm
        refine ⟨rfl, ?_⟩
        dsimp only [tYes]
        refine iteT ?_
        refine ⟨_, rfl, us, hD, small200 (by omega), same_upd2 s3 nD, us ++ [z], upd_same, by rw [List.length_append, lu]; rfl⟩
      · rintro H3 ⟨s3, us, hD, lu⟩
        exact ⟨s3, us, hD, by rw [tk1, lu, lw]⟩
    · rintro H1 ⟨s1, us, hD, lu⟩
      rw [ckv_len, List.take_of_length_le (Nat.le_refl _)] at lu
      have e1 : (upd H1 La (.dT (ckv ks ad))) D = some (.lst us) := by
        rw [upd_ne (ne_of hD (s1 _ _ hLK) (by intro z; cases z))]
        exact hD
      refine ⟨s1 _ _ hLK, D, us, rfl, .inl (SqL.of e1), ?_⟩
      rw [lu]
      exact q _ (lock_same c.at_ (hk ▸ s1))
theorem text_str {v : V} {cs : Str} {n : Int} (h : textOf v cs n = true) : ∃ x, v = .str x := by
  cases v with
  | str x => exact ⟨x, rfl⟩
  | _ => exact absurd (show false = true from h) (by decide)
def keepK (v : V) (k : Str × Str) : Bool := !decide (V.str k.2 = v)
def leftKs (ks : List (Str × Str)) (v : V) : List (Str × Str) := if textOf v LET 8 = true then ks.filter (keepK v) else ks
theorem fc_filter (ks : List (Str × Str)) (f : Str × Str → List PyData) (p : Str × Str → Bool) : fcount (ks.filter p) f ≤ fcount ks f := by
  induction ks with
  | nil => exact Nat.le_refl _
  | cons k ks ih =>
    have e : fcount (k :: ks) f = (f k).length + fcount ks f := rfl
    by_cases c : p k = true
    · rw [List.filter_cons, if_pos c]
      show (f k).length + fcount (ks.filter p) f ≤ _
      omega
    · rw [List.filter_cons, if_neg c]
      omega
theorem putF_held {v w : V} : putF ("held" : Str) v [(("held" : Str), w)] = [(("held" : Str), v)] := if_pos rfl
end
end My

namespace My
open PySem PySem.Spec PyProof.Rows L2 Gy Xl Xs Xt Xo Xp Xd
/-! ### the first item taken -/
def takeKs (ks : List (Str × Str)) (f : Str × Str → List PyData) (k : Str × Str) : List (Str × Str) := if (f k).length = 1 then ks.filter fun j => decide (j ≠ k) else ks
def takeFn (f : Str × Str → List PyData) (k : Str × Str) : Str × Str → List PyData := fun j => if j = k then (f k).tail else f j
theorem ckv_drop (ks : List (Str × Str)) (ad : Str × Str → Addr) (j : Str × Str) : dropK (ckv ks ad) (kq j) = ckv (ks.filter fun k => decide (k ≠ j)) ad := by
  unfold dropK ckv
  rw [List.filter_map]
  congr 1
  refine List.filter_congr fun k _ => ?_
  show decide (kq k ≠ kq j) = decide (k ≠ j)
  by_cases c : k = j
  · rw [c]
    rw [decide_eq_false (fun z => z rfl), decide_eq_false (fun z => z rfl)]
  · rw [decide_eq_true (show k ≠ j from c), decide_eq_true (show kq k ≠ kq j from fun z => c (kq_inj z))]
theorem ckv_old {ks : List (Str × Str)} {ad : Str × Str → Addr} {k : Str × Str} {l : Addr} (m : k ∈ ks) : putK (ckv ks ad) (kq k) (.ref l) = ckv ks (fun j => if j = k then l else ad j) := by
  have e : (ckv ks ad).any (fun kv => decide (kv.1 = kq k)) = true := by
    rw [List.any_eq_true]
    exact ⟨_, List.mem_map_of_mem (f := fun k => (kq k, V.ref (ad k))) m, decide_eq_true rfl⟩
  unfold putK
  rw [e, if_pos rfl]
  unfold ckv
  rw [List.map_map]
  refine List.map_congr_left fun j hj => ?_
  show (if kq j = kq k then (kq j, V.ref l) else (kq j, V.ref (ad j))) = _
  by_cases ej : j = k
  · show _ = (kq j, V.ref (if j = k then l else ad j))
    rw [if_pos (show kq j = kq k by rw [ej]), if_pos ej]
  · show _ = (kq j, V.ref (if j = k then l else ad j))
    rw [if_neg fun z => ej (kq_inj z), if_neg ej]
section
variable {P : Program} {w : World} {K : PySem.W.Frag} {mg : Str → Option Value} {base : Heap} {H : Hp} {C CE : Addr}
/-- a dict whose key k has lost its first item: the key is gone -/
theorem ChD.gone {La : Addr} {ks : List (Str × Str)} {f : Str × Str → List PyData} {ad : Str × Str → Addr} {k : Str × Str} (c : ChD K H La ks f ad) (l1 : (f k).length = 1) : ChD K (upd H La (.dT (dropK (ckv ks ad) (kq k)))) La (takeKs ks f k) (takeFn f k) ad := by
  have e : takeKs ks f k = ks.filter fun j => decide (j ≠ k) := if_pos l1
  rw [e, ckv_drop]
  refine ⟨upd_same, c.nd.sublist List.filter_sublist, fun j hj => ?_, fun i hi j hj => c.inj i (List.mem_filter.mp hi).1 j (List.mem_filter.mp hj).1⟩
  obtain ⟨mj, nj⟩ := List.mem_filter.mp hj
  have nj := of_decide_eq_true nj
  obtain ⟨us, h1, h2, h3⟩ := c.ls j mj
  refine ⟨us, ?_, ?_, ?_⟩
  · rw [upd_ne (ne_of h1 c.at_ (fun z => nomatch z))]
    exact h1
  · unfold takeFn
    rw [if_neg nj]
    exact Dns.same (fz_keep ((FzK.refl H).upd c.at_ (fun _ _ z => nomatch z))) h2
  · unfold takeFn
    rw [if_neg nj]
    exact h3
/-- .. some are left -/
theorem ChD.less {La N : Addr} {ks : List (Str × Str)} {f : Str × Str → List PyData} {ad : Str × Str → Addr} {k : Str × Str} {us : List V} (c : ChD K H La ks f ad) (m : k ∈ ks) (l1 : (f k).length ≠ 1) (nN : ∀ j ∈ ks, ad j ≠ N) (hN : H N = some (.lst us)) (du : Dns K (fz H) us (f k).tail) :
    ChD K (upd H La (.dT (putK (ckv ks ad) (kq k) (.ref N)))) La (takeKs ks f k) (takeFn f k) (fun j => if j = k then N else ad j) := by
  have e : takeKs ks f k = ks := if_neg l1
  rw [e, ckv_old m]
  have fk : FzK H (upd H La (.dT (ckv ks fun j => if j = k then N else ad j))) := (FzK.refl H).upd c.at_ (fun _ _ z => nomatch z)
  refine ⟨upd_same, c.nd, fun j hj => ?_, fun i hi j hj e => ?_⟩
  · unfold takeFn
    by_cases ej : j = k
    · rw [if_pos ej, if_pos ej]
      refine ⟨us, ?_, Dns.same (fz_keep fk) du, ?_⟩
      · rw [upd_ne (ne_of hN c.at_ (fun z => nomatch z))]
        exact hN
      · obtain ⟨_, _, _, h3⟩ := c.ls k m
        cases hf : f k with
        | nil => exact absurd hf h3
        | cons x xs =>
          cases xs with
          | nil => rw [hf] at l1; exact absurd rfl l1
          | cons y ys => exact fun z => nomatch z
    · rw [if_neg ej, if_neg ej]
      obtain ⟨ws, h1, h2, h3⟩ := c.ls j hj
      refine ⟨ws, ?_, Dns.same (fz_keep fk) h2, h3⟩
      rw [upd_ne (ne_of h1 c.at_ (fun z => nomatch z))]
      exact h1
  · by_cases ei : i = k
    · by_cases ej : j = k
      · rw [ei, ej]
      · rw [if_pos ei, if_neg ej] at e
        exact absurd e.symm (nN j hj)
    · by_cases ej : j = k
      · rw [if_neg ei, if_pos ej] at e
        exact absurd e (nN i hi)
      · rw [if_neg ei, if_neg ej] at e
        exact c.inj i hi j hj e
def spTake (K : PySem.W.Frag) (C : Addr) : Sp := fun vs H Q _ => ∃ (p La dx : Addr) (a b : Str) (ks : List (Str × Str)) (f : Str × Str → List PyData) (ad : Str × Str → Addr), vs = [.ref p, .str a, .str b] ∧ Nm a ∧ Nm b ∧ H p = some (.ins C dx [("held", .ref La)]) ∧ ChD K H La ks f ad ∧ (a, b) ∈ ks ∧ (f (a, b)).length ≤ 500 ∧ ks.length ≤ 500 ∧
  ∀ H' ad' v d r, f (a, b) = d :: r → FzK H H' → (∀ x o, H x = some o → x ≠ La → H' x = some o) → (∀ k ∈ takeKs ks f (a, b), k ∈ ks ∧ (ad' k = ad k ∨ H (ad' k) = none)) → Dn K (fz H') v d → ChD K H' La (takeKs ks f (a, b)) (takeFn f (a, b)) ad' → Q v H'
theorem ok_take {f : Addr} {fd : FuncData} (F : Fun K "take" "Channels.take" m_take f fd) (Y : Bn mg) (T : Cc K C) (R : Rz2 P w K mg base "EmptyChannel" "source" "goal" CE) (M_in_flight : Fm P w K mg base CX0 3 C "in_flight" ["self", "source", "goal"] (spFlight K C)) : FnOk P w K mg base (L2.CX P w) 4 f fd ["self", "source", "goal"] (spTake K C) := by
  obtain ⟨fIR, fdIR, XI, GI, bI⟩ := R.ex
  obtain ⟨_, _, MM_in_flight, MB_in_flight, MF_in_flight⟩ := M_in_flight.ex
  refine F.okX scm_take (fun vs H Q E h => ?_) (fun cdv A outer s H vs Q E hr h => ?_)
  · obtain ⟨p, La, dx, a, b, ks, g, ad, rfl, _⟩ := h
    rfl
  · obtain ⟨p, La, dx, a, b, ks, g, ad, rfl, na, nb, hp, c, m, fl, kl, q⟩ := h
    have hu1 := Nat.lt_of_le_of_lt (Nat.add_le_add_left (show 1 ≤ 64 by decide) _) hr.units
    refine ⟨_, (pss_cons (ps_set (i := 3) scm_take.nd rfl (.inl rfl) (pe_meth (pv 0) T.cl MM_in_flight MF_in_flight (hr.mono (by decide)) MB_in_flight .nil pass0 (pa_cons (pv 1) (pa_cons (pv 2) pa_nil))))
 (pss_cons (ps_if (pt_not (pt_truth (pv 3) (by intro _; rfl)))
 (pss_one (ps_raise2 rfl (takes_of rfl rfl rfl rfl) XI R.ty GI (hr.mono (by decide)) bI (by rfl) R.gm (pa_cons (pv 1) (pa_cons (pv 2) pa_nil))))
 pss_nil)
 (pss_cons (ps_if (pt_cmpR op_eq (pe_callB call_len_seq (by rfl) Y.len PySem.boot_len (pa_cons (pv 3) pa_nil)) pe_int (nomark _))
 (pss_one (ps_delT hu1 (pe_fld (pv 0) rfl) (pe_tup (pa_cons (pv 1) (pa_cons (pv 2) pa_nil)))))
 (pss_one (ps_dput hu1 (pe_fld (pv 0) rfl) (pe_tup (pa_cons (pv 1) (pa_cons (pv 2) pa_nil))) (pe_slice sl_list (pv 3) (po_some pe_int) po_none) rfl)))
 (pss_one (ps_ret (pe_ix ix_list (pv 3) pe_int (fun _ _ => rfl))))))), ?_⟩
    refine ⟨_, rfl, p, dx, _, rfl, hp, fld_no (by decide +kernel), _, rfl, _, rfl, p, a, b, ks, g, rfl, na, nb, ⟨La, dx, ad, hp, c⟩, fun H1 L us s1 nL hL du => ?_⟩
    rw [show inF ks g (a, b) = g (a, b) from if_pos m] at du
    have lu := Dns.len du
    have c1 := c.same s1
    have hp1 := s1 _ _ hp
    obtain ⟨_, _, _, ne0⟩ := c.ls _ m
    obtain ⟨d, r, hg⟩ : ∃ d r, g (a, b) = d :: r := by
      cases h : g (a, b) with
      | nil => exact absurd h ne0
      | cons d r => exact ⟨d, r, rfl⟩
    rw [hg] at du
    obtain ⟨v, vs, rfl, dv, dvs⟩ : ∃ v vs, us = v :: vs ∧ Dn K (fz H1) v d ∧ Dns K (fz H1) vs r := by
      cases du with
      | cons h t => exact ⟨_, _, rfl, h, t⟩
    have lr : (v :: vs).length = (g (a, b)).length := lu
    refine ⟨_, rfl, true, .inl ⟨_, SqL.of hL, rfl⟩, iteF ?_⟩
    have nLLa : L ≠ La := (ne_of_none c.at_ nL).symm
    refine ⟨_, rfl, L, _, rfl, .inl (SqL.of hL), rfl, _, rfl, ite2 (fun c1 => ?_) (fun c1 => ?_)⟩
    · have l1 : (g (a, b)).length = 1 := by
        have := of_decide_eq_true c1
        injection this with this
        omega
      refine ⟨_, rfl, p, C, dx, _, _, rfl, hp1, T.cl, T.nL, rfl, _, rfl, _, rfl, (by show 2 ≤ sizeLine; decide), fun t nt => ?_⟩
      have s2 := same_upd (o := .tup [.str a, .str b]) nt
      have gt : (upd H1 t (.tup [.str a, .str b])) t = some (.tup ((kq (a, b)).map kV)) := upd_same
      generalize upd H1 t (.tup [.str a, .str b]) = H2 at s2 gt ⊢
      have c2 := c1
      have cd := (c.same s1).same s2
      refine ⟨La, t, _, kq (a, b), .ref (ad (a, b)), rfl, rfl, cd.at_, gt, by rw [ckv_val, if_pos m], ?_⟩
      have fk : FzK H2 (upd H2 La (.dT (dropK (ckv ks ad) (kq (a, b))))) := (FzK.refl H2).upd cd.at_ (fun _ _ z => nomatch z)
      refine ⟨_, rfl, L, _, 0, v, rfl, rfl, SqL.of (by rw [upd_ne nLLa]; exact s2 _ _ hL), (show atI (v :: vs) ((0 : Nat) : Int) = some v from atI_nat rfl), ?_⟩
      refine q _ ad v d r hg ((FzK.of (s1.trans s2)).trans fk) (fun x o e n => by rw [upd_ne n]; exact s2 _ _ (s1 _ _ e)) (fun k hk => ?_) (dv.same (fz_keep ((FzK.of s2).trans fk))) (cd.gone l1)
      unfold takeKs at hk
      rw [if_pos l1] at hk
      exact ⟨(List.mem_filter.mp hk).1, .inl rfl⟩
    · have l1 : (g (a, b)).length ≠ 1 := fun z => c1 (by rw [lr, z]; exact decide_eq_true rfl)
      refine ⟨_, rfl, 1, rfl, L, _, rfl, SqL.of hL, fun N nN => ?_⟩
      rw [cut1]
      have s2 := same_upd (o := .lst vs) nN
      have gN : (upd H1 N (.lst vs)) N = some (.lst vs) := upd_same
      have nN0 : H N = none := by
        cases z : H N with
        | none => rfl
        | some o => rw [s1 _ _ z] at nN; cases nN
      generalize upd H1 N (.lst vs) = H2 at s2 gN ⊢
      refine ⟨_, rfl, p, C, dx, _, _, rfl, s2 _ _ hp1, T.cl, T.nL, rfl, _, rfl, _, rfl, (by show 2 ≤ sizeLine; decide), fun t nt => ?_⟩
      have s3 := same_upd (o := .tup [.str a, .str b]) nt
      have gt : (upd H2 t (.tup [.str a, .str b])) t = some (.tup ((kq (a, b)).map kV)) := upd_same
      generalize upd H2 t (.tup [.str a, .str b]) = H3 at s3 gt ⊢
      have s03 := (s1.trans s2).trans s3
      have cd := c.same s03
      refine ⟨La, _, rfl, DPut.t cd.at_ gt (by rw [ckv_len]; exact small200 (by omega)), ?_⟩
      have fk : FzK H3 (upd H3 La (.dT (putK (ckv ks ad) (kq (a, b)) (.ref N)))) := (FzK.refl H3).upd cd.at_ (fun _ _ z => nomatch z)
      have hL3 := s3 _ _ (s2 _ _ hL)
      refine ⟨_, rfl, L, _, 0, v, rfl, rfl, SqL.of (by rw [upd_ne nLLa]; exact hL3), (show atI (v :: vs) ((0 : Nat) : Int) = some v from atI_nat rfl), ?_⟩
      have nal : ∀ k ∈ ks, ad k ≠ N := fun k hk => by
        obtain ⟨us2, h1, _⟩ := c.ls k hk
        exact ne_of_none h1 nN0
      refine q _ _ v d r hg ((FzK.of s03).trans fk) (fun x o e n => by rw [upd_ne n]; exact s03 _ _ e) (fun k hk => ?_) (dv.same (fz_keep ((FzK.of (s2.trans s3)).trans fk))) (cd.less m l1 nal (s3 _ _ gN) (by rw [hg]; exact dvs.same (fz_keep (.of (s2.trans s3)))))
      unfold takeKs at hk
      rw [if_neg l1] at hk
      refine ⟨hk, ?_⟩
      by_cases ek : k = (a, b)
      · rw [if_pos ek]
        exact .inr nN0
      · rw [if_neg ek]
        exact .inl rfl
end
end My

namespace My
open PySem PySem.Spec PyProof.Rows L2 Gy Xl Xs Xt Xo Xp Xd
/-! ### the law's hosts -/
section
variable {P : Program} {w : World} {K : PySem.W.Frag} {mg : Str → Option Value} {base : Heap} {H : Hp}
def spNms : Sp := fun vs H Q _ => ∃ (r : Addr) (n : Nat), vs = [.ref r, .int (n : Int)] ∧ Rng H r ∧ n ≤ 12 ∧ ∀ (H' : Hp) (L : Addr) (xs : List Str), But r H H' → Rng H' r → H L = none → H' L = some (.lst (xs.map V.str)) → xs.length = n → (∀ x ∈ xs, Nm x) → xs.Nodup → Q (.ref L) H'
theorem ok_nms {f : Addr} {fd : FuncData} (F : Fun K "_law_names" "_law_names" s_law_names f fd) (Y : Bn mg) (G_law_name : Fk P w K mg base CX0 2 "_law_name" ["_law_pot_here", "_law_used"] spName) : FnOk P w K mg base CX0 3 f fd ["_law_pot_here", "_law_many"] spNms := by
  refine F.ok sc_law_names (fun vs H Q E h => ?_) (fun cdv A outer s H vs Q E hr h => ?_)
  · obtain ⟨r, n, rfl, _⟩ := h
    rfl
  · obtain ⟨r, n, rfl, R, n12, q⟩ := h
    refine ⟨_, (pss_cons (ps_set (i := 2) sc_law_names.nd rfl (.inl rfl) (pe_lst pa_nil))
 (pss_cons (ps_for PassesOwn.never rfl (pi_range1 (by rfl) Y.range (pa_cons (pv 1) pa_nil)) (pg_name (i := 3) sc_law_names.nd rfl (Or.inl rfl))
 (pss_one (ps_expr (pe_bm PySem.F.plainAttrs_list PySem.F.slot_list_append PySem.F.type_list_append mt_append (pv 2) (pa_cons (pe_callF G_law_name (hr.mono (by decide)) (by rfl) pass0 (pa_cons (pv 0) (pa_cons (pv 2) pa_nil))) pa_nil)))))
 (pss_one (ps_ret (pv 2))))), ?_⟩
    refine ⟨Nat.zero_le _, fun L nL => ?_⟩
    have neL := R.ne nL
    generalize hg : upd _ L _ = H1
    obtain ⟨s1, gL⟩ := upd_new hg nL
    clear hg
    have R1 := R.same s1
    refine ⟨_, rfl, (n : Int), rfl, by omega, by omega, ?_⟩
    refine for_it (walk_range (lo := 0) (n := ((n : Int) - 0).toNat)) (fun i σ H' => (∃ c, σ = [some (.ref r), some (.int (n : Int)), some (.ref L), c]) ∧ But r H H' ∧ Rng H' r ∧ ∃ xs : List Str, H' L = some (.lst (xs.map V.str)) ∧ xs.length = i ∧ (∀ x ∈ xs, Nm x) ∧ xs.Nodup)
      ⟨⟨_, rfl⟩, But.of s1, R1, [], gL, rfl, (fun _ z => nomatch z), List.nodup_nil⟩ (fun _ _ _ _ _ => trivial) ?_ ?_
    · rintro i y σ H5 H6 hi ⟨⟨c, rfl⟩, b5, R5, xs, hL, el, nm, nd⟩ ⟨rfl, rfl⟩
      refine ⟨_, rfl, .inl ⟨rfl, _, SqL.of hL⟩, _, rfl, _, rfl, r, L, xs, rfl, R5, neL, hL, by omega, fun H7 x b7 R7 nx ni => ?_⟩
      have hL7 := b7 _ _ neL hL
      refine ⟨L, _, _, rfl, rfl, hL7, (by rw [List.length_map]; exact small200 (by omega)), ⟨_, rfl⟩, ?_, R7.upd2 neL, xs ++ [x], ?_, ?_, ?_, ?_⟩
      · refine fun b' o nb e => ?_
        rw [upd_ne (fun w => by rw [w, nL] at e; cases e)]
        exact (b5.trans b7) b' o nb e
      · rw [upd_same, List.map_append]
        rfl
      · rw [List.length_append, el]
        rfl
      · intro y hy
        rcases List.mem_append.mp hy with hy | hy
        · exact nm y hy
        · rw [List.mem_singleton.mp hy]
          exact nx
      · rw [List.nodup_append]
        exact ⟨nd, (List.nodup_cons.mpr ⟨(fun z => nomatch z), List.nodup_nil⟩), fun a ha b hb => by rw [List.mem_singleton.mp hb]; exact fun z => ni (z ▸ ha)⟩
    · rintro σ H5 ⟨⟨c, rfl⟩, b5, R5, xs, hL, el, nm, nd⟩
      exact ⟨_, rfl, q _ L xs b5 R5 nL hL (by omega) nm nd⟩
def spEnds : Sp := fun vs H Q _ => ∃ (r la : Addr) (ns : List Str), vs = [.ref r, .ref la] ∧ Rng H r ∧ la ≠ r ∧ H la = some (.lst (ns.map V.str)) ∧ 2 ≤ ns.length ∧ ns.length ≤ 20 ∧ ns.Nodup ∧ ∀ (H' : Hp) (t : Addr) (a b : Str), But r H H' → Rng H' r → Tz H' t [.str a, .str b] → a ∈ ns → b ∈ ns → a ≠ b → Q (.ref t) H'
theorem ok_ends {f : Addr} {fd : FuncData} (F : Fun K "_law_ends" "_law_ends" s_law_ends f fd) (Y : Bn mg) (G_law_draw : Fk P w K mg base CX0 1 "_law_draw" ["_law_pot_here", "_law_many"] spDraw) : FnOk P w K mg base CX0 2 f fd ["_law_pot_here", "_law_names_here"] spEnds := by
  refine F.ok sc_law_ends (fun vs H Q E h => ?_) (fun cdv A outer s H vs Q E hr h => ?_)
  · obtain ⟨r, la, ns, rfl, _⟩ := h
    rfl
  · obtain ⟨r, la, ns, rfl, R, ne, hla, l2, l20, nd, q⟩ := h
    have lm : (ns.map V.str).length = ns.length := List.length_map ..
    refine ⟨_, (pss_cons (ps_set (i := 2) sc_law_ends.nd rfl (.inl rfl) (pe_callF G_law_draw (hr.mono (by decide)) (by rfl) pass0 (pa_cons (pv 0) (pa_cons (pe_callB call_len_seq (by rfl) Y.len PySem.boot_len (pa_cons (pv 1) pa_nil)) pa_nil))))
 (pss_one (ps_ret (pe_tupZ (pa_cons (pe_ix ix_list (pv 1) (pv 2) (fun _ _ => rfl)) (pa_cons (pe_ix ix_list (pv 1) (pe_op op_mod (pe_op op_add (pe_op op_add (pv 2) pe_int) (pe_callF G_law_draw (hr.mono (by decide)) (by rfl) pass0 (pa_cons (pv 0) (pa_cons (pe_op op_sub (pe_callB call_len_seq (by rfl) Y.len PySem.boot_len (pa_cons (pv 1) pa_nil)) pe_int) pa_nil)))) (pe_callB call_len_seq (by rfl) Y.len PySem.boot_len (pa_cons (pv 1) pa_nil))) (fun _ _ => rfl)) pa_nil)))))), ?_⟩
    refine ⟨_, rfl, _, rfl, la, _, rfl, .inl (SqL.of hla), r, _, rfl, R, (by omega), (by omega), fun H1 e1 b1 R1 f1 g1 => ?_⟩
    obtain ⟨i, rfl⟩ := Int.eq_ofNat_of_zero_le f1
    have hla1 := b1 _ _ ne hla
    have hi : i < ns.length := by omega
    have ea : atI (ns.map V.str) (i : Int) = some (.str ns[i]) := atI_nat (by rw [List.getElem?_map, List.getElem?_eq_getElem hi]; rfl)
    refine ⟨_, rfl, _, rfl, la, _, (i : Int), _, rfl, rfl, SqL.of hla1, ea, ?_⟩
    refine ⟨_, rfl, _, rfl, _, _, rfl, rfl, _, rfl, _, rfl, la, _, rfl, .inl (SqL.of hla1), _, _, rfl, rfl, r, _, rfl, R1, (by omega), (by omega), fun H2 e2 b2 R2 f2 g2 => ?_⟩
    obtain ⟨e, rfl⟩ := Int.eq_ofNat_of_zero_le f2
    have hla2 := b2 _ _ ne hla1
    have ee : e + 1 < ns.length := by omega
    obtain ⟨k, ek, kl, kn⟩ : ∃ k, (i + 1 + e) % (ns.map V.str).length = k ∧ k < ns.length ∧ k ≠ i := by
      refine ⟨_, rfl, by rw [lm]; exact Nat.mod_lt _ (by omega), ?_⟩
      rw [lm]
      by_cases c : i + 1 + e < ns.length
      · rw [Nat.mod_eq_of_lt c]
        omega
      · rw [Nat.mod_eq_sub_mod (by omega), Nat.mod_eq_of_lt (by omega)]
        omega
    have em : ((i : Int) + 1 + (e : Int)) % ((ns.map V.str).length : Int) = (k : Int) := by
      rw [← ek]
      exact (Int.natCast_emod (i + 1 + e) (ns.map V.str).length).symm
    have eb : atI (ns.map V.str) (((i : Int) + 1 + (e : Int)) % ((ns.map V.str).length : Int)) = some (.str ns[k]) := by
      rw [em]
      exact atI_nat (by rw [List.getElem?_map, List.getElem?_eq_getElem kl]; rfl)
    refine ⟨_, _, rfl, rfl, _, rfl, la, _, rfl, .inl (SqL.of hla2), _, _, rfl, rfl, (by omega), la, _, _, _, rfl, rfl, SqL.of hla2, eb, (by show 2 ≤ sizeLine; decide), fun t o nt st tz => ?_⟩
    exact q _ t _ _ ((b1.trans b2).trans (But.of st)) (R2.same st) tz (List.getElem_mem _) (List.getElem_mem _) fun z => kn ((nd.idxOf_getElem k kl).symm.trans ((congrArg (fun x => ns.idxOf x) z.symm).trans (nd.idxOf_getElem i hi)))
/-- the law's own dict -/
def spHeld (K : PySem.W.Frag) : Sp := fun vs H Q _ => ∃ (La : Addr) (a b : Str) (ks : List (Str × Str)) (f : Str × Str → List PyData) (ad : Str × Str → Addr), vs = [.ref La, .str a, .str b] ∧ ChD K H La ks f ad ∧ ∀ H' L us, Same H H' → H L = none → H' L = some (.lst us) → Dns K (fz H') us (inF ks f (a, b)) → Q (.ref L) H'
theorem ok_held {f : Addr} {fd : FuncData} (F : Fun K "_law_held" "_law_held" s_law_held f fd) (Y : Bn mg) : FnOk P w K mg base CX0 1 f fd ["_law_rows", "_law_src", "_law_dst"] (spHeld K) := by
  refine F.ok sc_law_held (fun vs H Q E h => ?_) (fun cdv A outer s H vs Q E hr h => ?_)
  · obtain ⟨La, a, b, ks, g, ad, rfl, _⟩ := h
    rfl
  · obtain ⟨La, a, b, ks, g, ad, rfl, c, q⟩ := h
    have hu1 := Nat.lt_of_le_of_lt (Nat.add_le_add_left (show 1 ≤ 64 by decide) _) hr.units
    refine ⟨_, (pss_one (ps_ret (pe_callTy call_list_of (by rfl) Y.list (by decide +kernel) (pa_cons (pe_dget2 hu1 (pv 0) (pe_tup (pa_cons (pv 1) (pa_cons (pv 2) pa_nil))) (pe_lst pa_nil) ⟨rfl, rfl, rfl, rfl⟩) pa_nil)))), ?_⟩
    refine ⟨_, rfl, La, rfl, .inr ⟨_, .inl c.at_⟩, _, rfl, _, rfl, (by show 2 ≤ sizeLine; decide), fun t nt => ?_⟩
    have s3 := same_upd (o := .tup [.str a, .str b]) nt
    have gt : (upd H t (.tup [.str a, .str b])) t = some (.tup ((kq (a, b)).map kV)) := upd_same
    generalize upd H t (.tup [.str a, .str b]) = H3 at s3 gt ⊢
    refine ⟨Nat.zero_le _, fun l nl => ?_⟩
    generalize hg : upd H3 l _ = H4
    obtain ⟨s4, g4⟩ := upd_new hg nl
    clear hg
    have s04 := s3.trans s4
    have c4 := c.same s04
    have gd := DGet.t c4.at_ (s4 _ _ gt)
    rw [ckv_val] at gd
    have nLo : ∀ L, H4 L = none → H L = none := fun L nL => by
      cases z : H L with
      | none => rfl
      | some o => rw [s04 _ _ z] at nL; cases nL
    by_cases m : (a, b) ∈ ks
    · rw [if_pos m] at gd
      obtain ⟨us, e1, e2, _⟩ := c4.ls _ m
      refine ⟨_, gd, ad (a, b), us, rfl, .inl (SqL.of e1), fun L nL => ?_⟩
      refine q _ L us (s04.trans (same_upd nL)) (nLo L nL) upd_same ?_
      unfold inF
      rw [if_pos m]
      exact Dns.same (fz_keep (.of (same_upd nL))) e2
    · rw [if_neg m] at gd
      refine ⟨_, gd, l, [], rfl, .inl (SqL.of g4), fun L nL => ?_⟩
      refine q _ L [] (s04.trans (same_upd nL)) (nLo L nL) upd_same ?_
      unfold inF
      rw [if_neg m]
      exact .nil
theorem ckv_put (ks : List (Str × Str)) (ad : Str × Str → Addr) (k : Str × Str) (l : Addr) : putK (ckv ks ad) (kq k) (.ref l) = ckv (putKs ks k) (fun j => if j = k then l else ad j) := by
  unfold putKs
  by_cases m : k ∈ ks
  · rw [if_pos m]
    have e : (ckv ks ad).any (fun kv => decide (kv.1 = kq k)) = true := by
      rw [List.any_eq_true]
      exact ⟨_, List.mem_map_of_mem (f := fun k => (kq k, V.ref (ad k))) m, decide_eq_true rfl⟩
    unfold putK
    rw [e, if_pos rfl]
    unfold ckv
    rw [List.map_map]
    refine List.map_congr_left fun j hj => ?_
    show (if kq j = kq k then (kq j, V.ref l) else (kq j, V.ref (ad j))) = _
    by_cases ej : j = k
    · show _ = (kq j, V.ref (if j = k then l else ad j))
      rw [if_pos (show kq j = kq k by rw [ej]), if_pos ej]
    · show _ = (kq j, V.ref (if j = k then l else ad j))
      rw [if_neg fun z => ej (kq_inj z), if_neg ej]
  · rw [if_neg m]
    exact ckv_snoc m
def spPutIn (K : PySem.W.Frag) : Sp := fun vs H Q _ => ∃ (La : Addr) (a b : Str) (it : V) (d : PyData) (ks : List (Str × Str)) (f : Str × Str → List PyData) (ad : Str × Str → Addr), vs = [.ref La, .str a, .str b, it] ∧ ChD K H La ks f ad ∧ Dn K H it d ∧ noL d = true ∧ ks.length ≤ 500 ∧ (∀ k ∈ ks, (f k).length ≤ 500) ∧
  ∀ H' ad', FzK H H' → (∀ x o, H x = some o → x ≠ La → H' x = some o) → (∀ k ∈ putKs ks (a, b), k ∈ ks ∧ ad' k = ad k ∨ H (ad' k) = none) → ChD K H' La (putKs ks (a, b)) (putFn ks f (a, b) d) ad' → Q .non H'
theorem ok_putin {f : Addr} {fd : FuncData} (F : Fun K "_law_put_in" "_law_put_in" s_law_put_in f fd) (G_law_held : Fk P w K mg base CX0 1 "_law_held" ["_law_rows", "_law_src", "_law_dst"] (spHeld K)) : FnOk P w K mg base CX0 2 f fd ["_law_rows", "_law_src", "_law_dst", "_law_entry_here"] (spPutIn K) := by
  refine F.ok sc_law_put_in (fun vs H Q E h => ?_) (fun cdv A outer s H vs Q E hr h => ?_)
  · obtain ⟨La, a, b, it, d, ks, g, ad, rfl, _⟩ := h
    rfl
  · obtain ⟨La, a, b, it, d, ks, g, ad, rfl, c, di, nl, kl, fl, q⟩ := h
    have hu1 := Nat.lt_of_le_of_lt (Nat.add_le_add_left (show 1 ≤ 64 by decide) _) hr.units
    refine ⟨_, (pss_one (ps_dput hu1 (pv 0) (pe_tup (pa_cons (pv 1) (pa_cons (pv 2) pa_nil))) (pe_op op_cat (pe_callF G_law_held (hr.mono (by decide)) (by rfl) pass0 (pa_cons (pv 0) (pa_cons (pv 1) (pa_cons (pv 2) pa_nil)))) (pe_lst (pa_cons (pv 3) pa_nil))) rfl)), ?_⟩
    refine ⟨_, rfl, _, rfl, _, rfl, La, a, b, ks, g, ad, rfl, c, fun H1 L us s1 nL hL du => ?_⟩
    have lin : (inF ks g (a, b)).length ≤ 500 := by
      unfold inF
      by_cases m : (a, b) ∈ ks
      · rw [if_pos m]
        exact fl _ m
      · rw [if_neg m]
        exact Nat.zero_le _
    have lus := Dns.len du
    refine ⟨_, rfl, (by show 1 ≤ sizeLine; decide), fun M nM => ?_⟩
    have s2 := same_upd (o := .lst [it]) nM
    have gM : (upd H1 M (.lst [it])) M = some (.lst [it]) := upd_same
    generalize upd H1 M (.lst [it]) = H2 at s2 gM ⊢
    refine ⟨L, M, us, [it], rfl, rfl, s2 _ _ hL, gM, small200 (by have : [it].length = 1 := rfl; omega), fun N nN => ?_⟩
    have s3 := same_upd (o := .lst (us ++ [it])) nN
    have gN : (upd H2 N (.lst (us ++ [it]))) N = some (.lst (us ++ [it])) := upd_same
    have s02 := s1.trans s2
    have nN0 : H N = none := by
      cases z : H N with
      | none => rfl
      | some o => rw [s02 _ _ z] at nN; cases nN
    generalize upd H2 N (.lst (us ++ [it])) = H3 at s3 gN ⊢
    refine ⟨_, rfl, _, rfl, _, rfl, (by show 2 ≤ sizeLine; decide), fun t nt => ?_⟩
    have s4 := same_upd (o := .tup [.str a, .str b]) nt
    have gt : (upd H3 t (.tup [.str a, .str b])) t = some (.tup ((kq (a, b)).map kV)) := upd_same
    generalize upd H3 t (.tup [.str a, .str b]) = H4 at s4 gt ⊢
    have s04 := s02.trans (s3.trans s4)
    have c4 := c.same s04
    refine ⟨La, _, rfl, DPut.t c4.at_ gt (by rw [ckv_len]; show ks.length < sizeLine; exact Nat.lt_of_le_of_lt kl (by decide)), ?_⟩
    show Q .non _
    rw [ckv_put]
    have gN4 := s4 _ _ gN
    have nLN : La ≠ N := ne_of_none c.at_ nN0
    have fk4 : FzK H4 (upd H4 La (.dT (ckv (putKs ks (a, b)) fun j => if j = (a, b) then N else ad j))) := (FzK.refl H4).upd c4.at_ (fun _ _ z => nomatch z)
    have nal : ∀ k ∈ ks, ad k ≠ N := fun k hk => by
      obtain ⟨us2, h1, _⟩ := c.ls k hk
      exact ne_of_none h1 nN0
    have naL : ∀ k ∈ ks, ad k ≠ La := fun k hk z => by
      obtain ⟨us2, h1, _⟩ := c4.ls k hk
      rw [z, c4.at_] at h1
      cases h1
    have mk : ∀ k ∈ putKs ks (a, b), k = (a, b) ∨ k ≠ (a, b) ∧ k ∈ ks := fun k hk => by
      by_cases e : k = (a, b)
      · exact .inl e
      · refine .inr ⟨e, ?_⟩
        unfold putKs at hk
        split at hk
        · exact hk
        · exact (List.mem_append.mp hk).resolve_right fun z => e (List.mem_singleton.mp z)
    refine q _ (fun j => if j = (a, b) then N else ad j) ((FzK.of s04).trans fk4) (fun x o e n1 => by rw [upd_ne n1]; exact s04 _ _ e) (fun k hk => ?_) ⟨upd_same, ?_, fun k hk => ?_, fun k hk j hj e => ?_⟩
    · by_cases ek : k = (a, b)
      · rw [if_pos ek]
        exact .inr nN0
      · rw [if_neg ek]
        exact .inl ⟨((mk k hk).resolve_left ek).2, rfl⟩
    · unfold putKs
      by_cases m : (a, b) ∈ ks
      · rw [if_pos m]
        exact c.nd
      · rw [if_neg m, List.nodup_append]
        exact ⟨c.nd, List.nodup_cons.mpr ⟨(fun z => nomatch z), List.nodup_nil⟩, fun x hx y hy => by rw [List.mem_singleton.mp hy]; exact fun z => m (z ▸ hx)⟩
    · unfold putFn
      by_cases ek : k = (a, b)
      · rw [if_pos ek, if_pos ek]
        refine ⟨us ++ [it], by rw [upd_ne nLN.symm]; exact gN4, ?_, by simp⟩
        have fk14 : FzK H1 (upd H4 La (.dT (ckv (putKs ks (a, b)) fun j => if j = (a, b) then N else ad j))) := (FzK.of (s2.trans (s3.trans s4))).trans fk4
        exact dns_app (Dns.same (fz_keep fk14) du) (.cons ((dn_fz di nl).same (fz_keep ((FzK.of s04).trans fk4))) .nil)
      · have hk2 := ((mk k hk).resolve_left ek).2
        rw [if_neg ek, if_neg ek]
        obtain ⟨us2, h1, h2, h3⟩ := c4.ls k hk2
        exact ⟨us2, by rw [upd_ne (naL k hk2)]; exact h1, Dns.same (fz_keep fk4) h2, h3⟩
    · by_cases ek : k = (a, b)
      · by_cases ej : j = (a, b)
        · rw [ek, ej]
        · have hj2 := ((mk j hj).resolve_left ej).2
          rw [if_pos ek, if_neg ej] at e
          exact absurd e.symm (nal j hj2)
      · have hk2 := ((mk k hk).resolve_left ek).2
        by_cases ej : j = (a, b)
        · rw [if_neg ek, if_pos ej] at e
          exact absurd e (nal k hk2)
        · have hj2 := ((mk j hj).resolve_left ej).2
          rw [if_neg ek, if_neg ej] at e
          exact c.inj _ hk2 _ hj2 e
end
end My

namespace My
open PySem PySem.Spec PyProof.Rows L2 Gy Xl Xs Xt Xo Xp Xd
/-! ### the law's dict beside the program's -/
section
variable {P : Program} {w : World} {K : PySem.W.Frag} {mg : Str → Option Value} {base : Heap} {H : Hp} {C : Addr}
theorem fc_ints (f : Str × Str → List PyData) : ∀ ks : List (Str × Str), (ks.map fun k => ((f k).length : Int)).sum = (fcount ks f : Nat)
  | [] => rfl
  | k :: ks => by
    have e : fcount (k :: ks) f = (f k).length + fcount ks f := rfl
    rw [List.map_cons, List.sum_cons, fc_ints f ks, e]
    omega
theorem fits_lst {n W : Nat} {ds : List PyData} (h : ∀ d ∈ ds, Bd n W d) (a : n ≤ 59) (b : ds.length * (W + 1) ≤ 300000) : Fits (.list ds) := by
  obtain ⟨a1, a2, a3, a4, _⟩ := bds h
  refine ⟨a1, Nat.succ_le_of_lt (by show PyData.depthAll ds < 60; omega), ?_⟩
  have l := PyData.shown_le 40 (by decide) (.list ds) a2
  have w : PyData.weight (.list ds) ≤ 300000 := Nat.le_trans a4 b
  have m : (40 + 2) * PyData.weight (.list ds) ≤ 42 * 300000 := Nat.mul_le_mul (by decide) w
  rw [sizeLine_eq]
  omega
theorem prs_fit {ps : List (Str × Str)} (h : ∀ k ∈ ps, Nm k.1 ∧ Nm k.2) (l : ps.length ≤ 500) : Fits (.list (ps.map prD)) := by
  refine fits_lst (n := 2) (W := 2 * 121) (fun d hd => ?_) (by decide) (by rw [List.length_map]; omega)
  obtain ⟨k, hk, rfl⟩ := List.mem_map.mp hd
  refine Bd.tup (L := 2) (fun e he => ?_) (Nat.le_refl 2) (by decide)
  rcases List.mem_cons.mp he with rfl | he
  · exact a0_nm (h k hk).1
  · rw [List.mem_singleton.mp he]
    exact a0_nm (h k hk).2
def rLenS (K : PySem.W.Frag) : List V → Hp → VK → Prop := fun xs H Q => ∃ p ys, xs = [V.ref p] ∧ (SqL K H p ys ∨ SqT K H p ys) ∧ Q (.int ys.length) H
theorem fc_mem {f : Str × Str → List PyData} : ∀ {ks : List (Str × Str)} {k : Str × Str}, k ∈ ks → (f k).length ≤ fcount ks f
  | j :: ks, k, h => by
    have e : fcount (j :: ks) f = (f j).length + fcount ks f := rfl
    rcases List.mem_cons.mp h with rfl | h
    · omega
    · have := fc_mem (f := f) h
      omega
theorem inF_fit {ks : List (Str × Str)} {f : Str × Str → List PyData} (h : ∀ k ∈ ks, ∀ d ∈ f k, Bd 9 150 d) (l : fcount ks f ≤ 500) (k : Str × Str) : Fits (.list (inF ks f k)) := by
  unfold inF
  by_cases m : k ∈ ks
  · rw [if_pos m]
    refine fits_lst (h k m) (by decide) ?_
    have := fc_mem (f := f) m
    omega
  · rw [if_neg m]
    exact fits_lst (n := 1) (W := 1) (fun _ z => nomatch z) (by decide) (by decide)
/-- both dicts stand, and are the same -/
def spStands (K : PySem.W.Frag) (C : Addr) : Sp := fun vs H Q _ => ∃ (p Ls La : Addr) (ns : List Str) (ks : List (Str × Str)) (f : Str × Str → List PyData) (ad : Str × Str → Addr), vs = [.ref p, .ref La, .ref Ls] ∧ H Ls = some (.lst (ns.map V.str)) ∧ (∀ x ∈ ns, Nm x) ∧ ns.length ≤ 20 ∧ Chn K C H p ks f ∧ ChD K H La ks f ad ∧ (∀ k ∈ ks, Nm k.1 ∧ Nm k.2) ∧ (∀ k ∈ ks, ∀ d ∈ f k, Bd 9 150 d) ∧ ks.length ≤ 500 ∧ fcount ks f ≤ 500 ∧ ∀ H', Same H H' → Q (.bl true) H'
theorem ok_stands {f : Addr} {fd : FuncData} (F : Fun K "_law_stands" "_law_stands" s_law_stands f fd) (Y : Bn mg) (gsum : mg "sum" = none) (T : Cc K C) (G_law_held : Fk P w K mg base CX0 1 "_law_held" ["_law_rows", "_law_src", "_law_dst"] (spHeld K))
    (M_busy : Fm P w K mg base CX0 1 C "busy" ["self"] (spBusy K C)) (M_len : Fm P w K mg base CX0 1 C "__len__" ["self"] (spCLen K C)) (M_in_flight : Fm P w K mg base CX0 3 C "in_flight" ["self", "source", "goal"] (spFlight K C)) : FnG P w K mg base CX0 8 f fd ["_law_channels", "_law_rows", "_law_names_here"] (spStands K C) := by
  obtain ⟨_, _, MM_busy, MB_busy, MF_busy⟩ := M_busy.ex
  obtain ⟨_, _, MM_len, MB_len, MF_len⟩ := M_len.ex
  obtain ⟨_, _, MM_in_flight, MB_in_flight, MF_in_flight⟩ := M_in_flight.ex
  refine fun_g0 F sc_law_stands (fun {vs H Q E} h => ?_) (fun cdv A outer s H vs Q E gd hr h => ?_)
  · obtain ⟨p, Ls, La, ns, ks, g, ad, rfl, _⟩ := h
    rfl
  · obtain ⟨p, Ls, La, ns, ks, g, ad, rfl, hLs, nm, nl, ch, cd, kn, fn, kl, fl, q⟩ := h
    have hu1 := Nat.lt_of_le_of_lt (Nat.add_le_add_left (show 1 ≤ 64 by decide) _) hr.units
    have hu70 := Room.units70 hr
    refine ⟨_, (pss_cons (ps_if (PW.pt (pw_or (pt_cmpR op_ne (pe_callB (repr_kps gd hu70) (by rfl) Y.repr (by decide +kernel) (pa_cons (pe_meth0 (pv 0) T.cl MM_busy MF_busy (hr.mono (by decide)) MB_busy .nil pass0) pa_nil)) (pe_callB (repr_kps gd hu70) (by rfl) Y.repr (by decide +kernel) (pa_cons (pe_callB (cr_sortD rfl) (by rfl) Y.sorted (by decide +kernel) (pa_cons (pv 1) pa_nil)) pa_nil)) (nomark _)) (pw_or1 (pt_cmpR op_ne (pe_callB (call_lenO MF_len (hr.mono (by decide)) MM_len MB_len pass0) (by rfl) Y.len PySem.boot_len (pa_cons (pv 0) pa_nil)) (pe_callB (cr_sum rfl) (by rfl) gsum (by decide +kernel) (pa_cons (pe_lock (pe_lc (own := [("_law_pair", 5)]) (g := gName 5) (tt := tYes) rfl sc_law_stands.nd (pi_keys (pv 1)) (blkOk_by (N := ["_law_channels", "_law_rows", "_law_names_here", "_law_src", "_law_dst", "_law_pair"]) (sc := defScope s_law_stands) (by decide +kernel)) (fun _ _ _ _ _ => (pg_name (i := 5) sc_law_stands.nd rfl (Or.inl rfl))) (fun _ _ _ _ _ => pts_nil) (fun _ _ _ _ _ => (pe_callB (show CallR _ (.builtin "len") (rLenS K) from call_len_seq) (by rfl) Y.len PySem.boot_len (pa_cons (pe_dget hu1 (pv 1) (pv 5) (fun _ _ => rfl)) pa_nil))))) pa_nil)) (nomark _)))))
 (pss_one (ps_ret pe_bl))
 pss_nil)
 (pss_cons (ps_for PassesOwn.never rfl (pi_list (pv 2)) (pg_name (i := 3) sc_law_stands.nd rfl (Or.inl rfl))
 (pss_one (ps_for PassesOwn.never rfl (pi_list (pv 2)) (pg_name (i := 4) sc_law_stands.nd rfl (Or.inl rfl))
 (pss_one (ps_if (pt_cmpR op_ne (pe_callB (show CallR _ (.builtin "repr") (rReprN K) from repr_dn gd hu70) (by rfl) Y.repr (by decide +kernel) (pa_cons (pe_meth (pv 0) T.cl MM_in_flight MF_in_flight (hr.mono (by decide)) MB_in_flight .nil pass0 (pa_cons (pv 3) (pa_cons (pv 4) pa_nil))) pa_nil)) (pe_callB (show CallR _ (.builtin "repr") (rReprN K) from repr_dn gd hu70) (by rfl) Y.repr (by decide +kernel) (pa_cons (pe_callF G_law_held (hr.mono (by decide)) (by rfl) pass0 (pa_cons (pv 1) (pa_cons (pv 3) (pa_cons (pv 4) pa_nil)))) pa_nil)) (nomark _))
 (pss_one (ps_ret pe_bl))
 pss_nil)))))
 (pss_one (ps_ret pe_bl)))), ?_⟩
    obtain ⟨Lp, dx, adp, hp, cp⟩ := ch
    refine ⟨_, rfl, p, dx, _, rfl, hp, rfl, p, ks, g, rfl, ⟨Lp, dx, adp, hp, cp⟩, fun ys qs L pm pw kp nL => ?_⟩
    have s1 := same_upd (o := .lst ys) nL
    have gL : (upd H L (.lst ys)) L = some (.lst ys) := upd_same
    generalize upd H L (.lst ys) = H1 at s1 gL ⊢
    have fq : Fits (.list (qs.map prD)) := prs_fit (fun k hk => kn k (pm.mem_iff.mp hk)) (by rw [pm.length_eq]; exact kl)
    refine ⟨L, ys, qs, rfl, gL, kp.same s1, fq.1, fq.2.2, ?_⟩
    have cd1 := cd.same s1
    refine ⟨_, rfl, La, ks, fun k => .ref (ad k), rfl, cd1.at_, fun zs rs M pm2 pw2 kp2 nM => ?_⟩
    have er : rs = qs := sortQ_one (pm2.trans pm.symm) pw2 pw
    subst er
    have s2 := same_upd (o := .lst zs) nM
    have gM : (upd H1 M (.lst zs)) M = some (.lst zs) := upd_same
    generalize upd H1 M (.lst zs) = H2 at s2 gM ⊢
    refine ⟨M, zs, rs, rfl, gM, kp2.same s2, fq.1, fq.2.2, ?_⟩
    have s02 := s1.trans s2
    refine ⟨rfl, _, rfl, ?_⟩
    rw [decide_eq_true rfl]
    refine iteF ?_
    have cd2 := cd.same s02
    refine ⟨_, rfl, p, dx, _, rfl, s02 _ _ hp, p, ks, g, rfl, ⟨Lp, dx, adp, s02 _ _ hp, cp.same s02⟩, by omega, fun H3 s3 => ⟨_, rfl, by omega, ?_⟩⟩
    have s03 := s02.trans s3
    have cd3 := cd.same s03
    refine ⟨La, _, cd3.at_, True.intro, fun od => ?_⟩
    have hLK : (upd H3 La (.frz od (.dT (ckv ks ad)))) La = some (.frz od (.dT (ckv ks ad))) := upd_same
    have hnK : ∀ k ∈ ks, ∃ us, (upd H3 La (.frz od (.dT (ckv ks ad)))) (ad k) = some (.lst us) ∧ us.length = (g k).length := fun k hk => by
      obtain ⟨us, e1, e2, _⟩ := cd3.ls k hk
      exact ⟨us, by rw [upd_ne (ne_of e1 cd3.at_ (by intro z; cases z))]; exact e1, Dns.len e2⟩
    generalize hk : upd H3 La (.frz od (.dT (ckv ks ad))) = Hk at hLK hnK
    refine ⟨_, rfl, La, od, rfl, .inr ⟨_, hLK, fun D nD => ?_⟩⟩
    refine lc_it (walk_keysT (d := La) (o := od) (kvs := ckv ks ad)) (fun i H' => Same Hk H' ∧ H' D = some (.lst (((ks.take i).map fun k => ((g k).length : Int)).map V.int)))
      ⟨same_upd nD, upd_same⟩ (fun i H' _ h => h.1 _ _ hLK) ?_ ?_
    · rintro i y H5 H6 hi ⟨s5, hD⟩ ⟨rfl, k, v, qa, hkv, rfl, hq⟩
      obtain ⟨j, hj, rfl, rfl⟩ := ckv_at hkv
      have mj := List.mem_of_getElem? hj
      obtain ⟨ws, hw, lw⟩ := hnK j mj
      have gd2 : DGet H6 La (.ref qa) (some (.ref (ad j))) := by
        have z : DGet H6 La (.ref qa) (valV (ckv ks ad) (kq j)) := .inr ⟨_, _, _, .inr ⟨od, s5 _ _ hLK⟩, rfl, hq, rfl⟩
        rw [ckv_val, if_pos mj] at z
        exact z
      have tk1 : ks.take (i + 1) = ks.take i ++ [j] := by
        rw [List.take_add_one, hj]
        rfl
      refine ⟨rfl, ?_⟩
      refine yes_of ?_
      refine iteT ?_
      refine ⟨_, rfl, _, rfl, La, _, rfl, gd2, ad j, ws, rfl, .inl (SqL.of (s5 _ _ hw)), _, hD, ?_, same_upd2 s5 nD, ?_⟩
      · rw [List.length_map, List.length_map, List.length_take]
        exact small200 (by omega)
      · rw [upd_same, tk1, List.map_append, List.map_append, lw]
        rfl
    · rintro H5 ⟨s5, hD⟩
      rw [ckv_len, List.take_of_length_le (Nat.le_refl _)] at hD
      have e1 : (upd H5 La (.dT (ckv ks ad))) D = some (.lst ((ks.map fun k => ((g k).length : Int)).map V.int)) := by
        rw [upd_ne (ne_of hD (s5 _ _ hLK) (by intro z; cases z))]
        exact hD
      have s06 := s03.trans (lock_same cd3.at_ (hk ▸ s5))
      refine ⟨s5 _ _ hLK, D, _, rfl, SqL.of e1, ?_⟩
      generalize upd H5 La (.dT (ckv ks ad)) = H6 at s06
      refine ⟨rfl, _, rfl, ?_⟩
      rw [fc_ints, decide_eq_true rfl]
      refine iteF ?_
      have atS : ∀ {i : Nat} {y : V}, (ns.map V.str)[i]? = some y → ∃ x, y = V.str x ∧ Nm x := fun h => by
        rw [List.getElem?_map] at h
        obtain ⟨x, hx, rfl⟩ := Option.map_eq_some_iff.mp h
        exact ⟨x, rfl, nm x (List.mem_of_getElem? hx)⟩
      refine ⟨_, rfl, Ls, rfl, ⟨_, SqL.of (s06 _ _ hLs)⟩, for_it (walk_list (K := K) (a := Ls) (xs := ns.map V.str)) (fun i σ H' => (∃ c d e, σ = [some (.ref p), some (.ref La), some (.ref Ls), c, d, e]) ∧ Same H H')
        ⟨⟨_, _, _, rfl⟩, s06⟩ (fun _ _ _ _ h => SqL.of (h.2 _ _ hLs)) ?_ ?_⟩
      · rintro i y σ H7 H8 hi ⟨⟨c, d, e, rfl⟩, s7⟩ ⟨rfl, hy⟩
        obtain ⟨x, rfl, nx⟩ := atS hy
        refine ⟨_, rfl, Ls, rfl, ⟨_, SqL.of (s7 _ _ hLs)⟩, for_it (walk_list (K := K) (a := Ls) (xs := ns.map V.str)) (fun j σ H' => (∃ d e, σ = [some (.ref p), some (.ref La), some (.ref Ls), some (.str x), d, e]) ∧ Same H H')
          ⟨⟨_, _, rfl⟩, s7⟩ (fun _ _ _ _ h => SqL.of (h.2 _ _ hLs)) ?_ ?_⟩
        · rintro j y σ H9 H10 hj ⟨⟨d, e, rfl⟩, s9⟩ ⟨rfl, hy⟩
          obtain ⟨z, rfl, nz⟩ := atS hy
          have ft := inF_fit fn fl (x, z)
          refine ⟨_, rfl, p, dx, _, rfl, s9 _ _ hp, rfl, _, rfl, _, rfl, p, x, z, ks, g, rfl, nx, nz, ⟨Lp, dx, adp, s9 _ _ hp, cp.same s9⟩, fun H11 L1 u1 s11 nL1 hL1 du1 => ?_⟩
          refine ⟨_, _, rfl, Dn.lst hL1 (Dns.same (fz_same H11) du1), ft.1, ft.2.1, ft.2.2, ?_⟩
          have s011 := s9.trans s11
          refine ⟨_, rfl, _, rfl, _, rfl, La, x, z, ks, g, ad, rfl, cd.same s011, fun H12 L2 u2 s12 nL2 hL2 du2 => ?_⟩
          refine ⟨_, _, rfl, Dn.lst hL2 (Dns.same (fz_same H12) du2), ft.1, ft.2.1, ft.2.2, ?_⟩
          refine ⟨rfl, _, rfl, ?_⟩
          rw [decide_eq_true rfl]
          exact iteF ⟨⟨_, _, rfl⟩, s011.trans s12⟩
        · rintro σ H9 ⟨⟨d, e, rfl⟩, s9⟩
          exact ⟨⟨_, _, _, rfl⟩, s9⟩
      · rintro σ H7 ⟨⟨c, d, e, rfl⟩, s7⟩
        exact q _ s7
end
end My

/-! Defs that are called with keywords. -/
namespace My
open PySem PySem.Spec PyProof.Rows L2 Gy Xl Xs Xt
/-- a def of the top: n values by position, keywords ks; gV puts them into the parameters' order -/
structure Fw (P : Program) (w : World) (K : PySem.W.Frag) (mg : Str → Option Value) (base : Heap) (CX : CXT) (k : Nat) (nm : Str) (ps : List Str) (n : Nat) (ks : List Str) (gV : List V → List V → List V) (sp : Sp) : Prop where
  ex : ∃ (f : Addr) (fd : FuncData) (g : List Value → List Value → List Value), mg nm = some (.ref f) ∧ PySem.W.keepIn K (.ref f) = true ∧ KBn K fd ps n ks g gV ∧ FnOk P w K mg base CX k f fd ps sp
section
variable {X : Cx} {CX : CXT} {k n : Nat} {ps ks : List Str} {sp : Sp} {E : XK} {x : Str} {p pos : Pos} {e : Expr} {es : List Expr} {kws : List Keyword} {t tk : TA} {gV : List V → List V → List V}
theorem pe_callNF (F : Fw X.prog X.w X.K X.mg X.base CX k x ps n ks gV sp) (hr : Room k X.A) (hg : Gl X x) (hx : Passes CX X E) (ha : PA X (e :: es) t) (hkw : PK X kws tk)
    (hall : (backToKw pos (keywordEach kws X.env)).all (·.1.isSome) = true := by rfl) (hks : (backToKw pos (keywordEach kws X.env)).filterMap (·.1) = ks := by rfl) (hdb : (x == ("__debug__" : Str)) = false := by decide)
    (he : starEach (e :: es) X.env = (false, eval e X.env) :: starEach es X.env := by rfl) (hpl : ((backTo pos (starEach (e :: es) X.env)).any (·.1) || (backToKw pos (keywordEach kws X.env)).any (·.1.isNone)) = false := by rfl) :
    PE X (.Call (.Name x p) (e :: es) kws pos) (tCallN n ks.length sp gV E t tk) := by
  obtain ⟨f, fd, g, m, kp, b, G⟩ := F.ex
  exact pe_callN G hr hg m kp b hx ha hkw hall hks hdb he hpl
/-- f(k = v, ..) -/
def tCall0 (m : Nat) (sp : Sp) (gV : List V → List V → List V) (E : XK) (tk : TA) : TE := fun σ H Q => tk σ H fun zs H2 => zs.length = m ∧ sp (gV [] zs) H2 Q E
theorem pe_call0F (F : Fw X.prog X.w X.K X.mg X.base CX k x ps 0 ks gV sp) (hr : Room k X.A) (hg : Gl X x) (hx : Passes CX X E) (hkw : PK X kws tk)
    (hall : (backToKw pos (keywordEach kws X.env)).all (·.1.isSome) = true := by rfl) (hks : (backToKw pos (keywordEach kws X.env)).filterMap (·.1) = ks := by rfl) (hdb : (x == ("__debug__" : Str)) = false := by decide)
    (hpl : ((backTo pos (starEach [] X.env)).any (·.1) || (backToKw pos (keywordEach kws X.env)).any (·.1.isNone)) = false := by rfl) :
    PE X (.Call (.Name x p) [] kws pos) (tCall0 ks.length sp gV E tk) := by
  obtain ⟨f, fd, g, m, kp, b, G⟩ := F.ex
  constructor
  intro pins s σ H Q I h
  refine wpAny_Call_Name_kw (ld_glob I hg m ?_ hdb)
  refine PySem.W.callWith_KW0 (h₀ := X.base) I.ok.mod.kin kp hall (thn (hkw.run pos pins s σ H _ I h) ?_) hpl
  rintro ws s2 ⟨zs, H2, I2, rz, l2, q2⟩
  rw [hks]
  exact ⟨I2.kIn, run_fnN (us := []) G hr b hx I2 .nil rz rfl l2 q2⟩
end
theorem vals_back : ∀ {xs : List V} {us : List Value}, Vals xs us → Vals xs.reverse us.reverse
  | _, _, .nil => .nil
  | _, _, .cons h t => by
    rw [List.reverse_cons, List.reverse_cons]
    exact (vals_back t).append (.cons h .nil)
/-- the keywords in the parameters' order, or turned about -/
theorem kbn_fwd {K : PySem.W.Frag} {x qual : Str} {st : Stmt} {f : Addr} {fd : FuncData} {ps ks : List Str} {n : Nat} (F : Fun K x qual st f fd)
    (h : ∀ (kV doc pm : Value) (an : Option Addr) (cdv ct : Value) (us ws : List Value), us.length = n → ws.length = ks.length → bindArgs (PySem.W.fnOf x qual (defArgs st) (defBody st) (defScope st) .none kV doc pm an cdv ct) ⟨us, ks.zip ws⟩ = pure (ps.zip (us ++ ws))) :
    KBn K fd ps n ks (fun us ws => us ++ ws) (fun vs zs => vs ++ zs) := by
  obtain ⟨oc, od, kV, doc, pm, an, cdv, ct, osl, rfl, lk, hcd⟩ := F.ex
  exact ⟨fun s us ws _ h1 h2 => .of_eq (h kV doc pm an cdv ct us ws h1 h2), fun r z => r.append z⟩
theorem kbn_back {K : PySem.W.Frag} {x qual : Str} {st : Stmt} {f : Addr} {fd : FuncData} {ps ks : List Str} {n : Nat} (F : Fun K x qual st f fd)
    (h : ∀ (kV doc pm : Value) (an : Option Addr) (cdv ct : Value) (us ws : List Value), us.length = n → ws.length = ks.length → bindArgs (PySem.W.fnOf x qual (defArgs st) (defBody st) (defScope st) .none kV doc pm an cdv ct) ⟨us, ks.zip ws⟩ = pure (ps.zip (us ++ ws.reverse))) :
    KBn K fd ps n ks (fun us ws => us ++ ws.reverse) (fun vs zs => vs ++ zs.reverse) := by
  obtain ⟨oc, od, kV, doc, pm, an, cdv, ct, osl, rfl, lk, hcd⟩ := F.ex
  exact ⟨fun s us ws _ h1 h2 => .of_eq (h kV doc pm an cdv ct us ws h1 h2), fun r z => r.append (vals_back z)⟩
end My

/-! text == v, for any value of data. -/
namespace Gy
open PySem PySem.Spec PyProof.Rows L2 Xt Xd Xp
theorem rc_str_dict {A : Around} {s : Shared} {l : Addr} {o : Obj} {es : Array DictEntry} {ep : Nat} (b : Str) (u : Tok) (ho : s.heap.get? l = some o) (hc : o.cls = .type "dict") (hd : o.data = .dict es ep) (hu : A.units < cLine)
    {prog : Program} {w : World} {E Q : Value → Shared → Prop} (h : Q (.bool false) s) : wpAny (model prog w) A (richCompare .Eq (.str b u) (.ref l)) Q E s := by
  obtain ⟨cls, dd, dat, sl⟩ := o
  dsimp only at hc hd
  subst hc hd
  refine SeqAt.rc_eq_decline_or (k := false) (typeIs_str s b u) ⟨_, ho, rfl⟩ (by decide) F.sub_dict_str F.slot_str_eq F.slot_dict_eq_refl ?_ ?_ ?_ (.inr hu) h
  · exact fun _ q => call_meets F.slot_str_eq (typeIs_str s b u) F.entry_str_eq (F.args_str_eq_2 _ _) (str_no_dict l es ep dd sl b u) ⟨ho, q⟩
  · exact fun _ q => call_meets F.slot_dict_eq_refl ⟨_, ho, rfl⟩ F.entry_dict_eq (F.args_dict_eq_2 _ _) (dict_no_str l es ep dd sl b u) ⟨ho, q⟩
  · exact fun _ q => wpAny_of_eq (rfl : isSame (.str b u) (.ref l) = pure false) q
/-- whether this text is it -/
def rEqR (K : PySem.W.Frag) : R2 := fun a b H Q => ∃ (d : PyData) (x : Str), a = .str x ∧ Dq K H b d ∧ Q (.bl (decide (V.str x = b))) H
theorem op_eqR {X : Cx} (hu : X.A.units < cLine) : OpR X (compareOp .Eq) (rEqR X.K) := by
  intro pins s σ H a b v u Q I rx ry h
  obtain ⟨d, x, rfl, dq, q⟩ := h
  rcases dq with dn | ⟨p, ⟨a, rfl, h1⟩, rfl⟩
  rotate_left
  · cases ry
    obtain ⟨t, rfl⟩ := rx
    obtain ⟨its, _, ht, _⟩ := I.tuple (.inl (.inl h1))
    rw [decide_eq_false (show ¬ V.str x = V.ref a from fun z => nomatch z)] at q
    exact SeqAt.RcAt.str_tuple x t ht hu _ _ _ _ ⟨.bl false, H, I, rfl, q⟩
  cases dn with
  | non => exact op_eq pins s σ H _ _ v u Q I rx ry ⟨rfl, q⟩
  | bl c => exact op_eq pins s σ H _ _ v u Q I rx ry ⟨rfl, q⟩
  | int i => exact op_eq pins s σ H _ _ v u Q I rx ry ⟨rfl, q⟩
  | str y => exact op_eq pins s σ H _ _ v u Q I rx ry ⟨rfl, q⟩
  | @lst a xs ds h1 _ =>
    cases ry
    obtain ⟨t, rfl⟩ := rx
    obtain ⟨its, _, hl, _⟩ := I.list (SqL.of h1)
    rw [decide_eq_false (show ¬ V.str x = V.ref a from fun z => nomatch z)] at q
    exact SeqAt.RcAt.str_list x t hl.isList hu _ _ _ _ ⟨.bl false, H, I, rfl, q⟩
  | @tup a xs ds h1 _ =>
    cases ry
    obtain ⟨t, rfl⟩ := rx
    obtain ⟨its, _, ht, _⟩ := I.tuple h1.sq
    rw [decide_eq_false (show ¬ V.str x = V.ref a from fun z => nomatch z)] at q
    exact SeqAt.RcAt.str_tuple x t ht hu _ _ _ _ ⟨.bl false, H, I, rfl, q⟩
  | @dic a h1 =>
    cases ry
    obtain ⟨t, rfl⟩ := rx
    obtain ⟨_, o, es, ep, g1, g2, g3, _, _⟩ := dict_at I h1
    rw [decide_eq_false (show ¬ V.str x = V.ref a from fun z => nomatch z)] at q
    exact rc_str_dict x t g1 g2 g3 hu ⟨.bl false, H, I, rfl, q⟩
end Gy

namespace My
open PySem PySem.Spec PyProof.Rows L2 Gy Xl Xs Xt Xo Xp Xd
/-! ### the program's channels, asked with values of any kind -/
theorem host_nm {x : Str} (h : isHost (.str x) = true) : Nm x := by
  have h : (decide ((1 : Int) ≤ (x.length : Int)) && decide ((x.length : Int) ≤ 8) && x.cps.toList.all fun c => decide (c ∈ LET.cps.toList)) = true := h
  rw [Bool.and_eq_true, Bool.and_eq_true, decide_eq_true_eq, decide_eq_true_eq, List.all_eq_true] at h
  exact ⟨by omega, by omega, fun c hc => of_decide_eq_true (h.2 c hc)⟩
theorem txt_nm {v : V} (h : textOf v LET 8 = true) : ∃ x, v = .str x ∧ Nm x := by
  obtain ⟨x, rfl⟩ := text_str h
  exact ⟨x, rfl, host_nm h⟩
section
variable {P : Program} {w : World} {K : PySem.W.Frag} {mg : Str → Option Value} {base : Heap} {H : Hp} {C CI CN CE : Addr}
theorem same_none0 {H H' : Hp} {a : Addr} (s : Same H H') (n : H' a = none) : H a = none := by
  cases z : H a with
  | none => rfl
  | some o => rw [s _ _ z] at n; cases n
open Classical in
noncomputable def inZ (ks : List (Str × Str)) (f : Str × Str → List PyData) (v1 v2 : V) : List PyData := if h : ∃ a b, v1 = .str a ∧ v2 = .str b ∧ Nm a ∧ Nm b then inF ks f (h.choose, h.choose_spec.choose) else []
theorem inZ_str (ks : List (Str × Str)) (f : Str × Str → List PyData) {a b : Str} (na : Nm a) (nb : Nm b) : inZ ks f (.str a) (.str b) = inF ks f (a, b) := by
  have h : ∃ a' b', V.str a = .str a' ∧ V.str b = .str b' ∧ Nm a' ∧ Nm b' := ⟨a, b, rfl, rfl, na, nb⟩
  unfold inZ
  rw [dif_pos h]
  have e1 := h.choose_spec.choose_spec.1
  have e2 := h.choose_spec.choose_spec.2.1
  injection e1 with e1
  injection e2 with e2
  exact congrArg (inF ks f) (Prod.ext e1.symm e2.symm)
theorem inZ_no1 (ks : List (Str × Str)) (f : Str × Str → List PyData) {v1 v2 : V} (h : textOf v1 LET 8 = false) : inZ ks f v1 v2 = [] := by
  unfold inZ
  rw [dif_neg]
  rintro ⟨a, b, rfl, _, na, _⟩
  rw [nm_txt na] at h
  cases h
theorem inZ_no2 (ks : List (Str × Str)) (f : Str × Str → List PyData) {v1 v2 : V} (h : textOf v2 LET 8 = false) : inZ ks f v1 v2 = [] := by
  unfold inZ
  rw [dif_neg]
  rintro ⟨a, b, _, rfl, _, nb⟩
  rw [nm_txt nb] at h
  cases h
def spFlightX (K : PySem.W.Frag) (C : Addr) : Sp := fun vs H Q _ => ∃ (p : Addr) (v1 v2 : V) (ks : List (Str × Str)) (f : Str × Str → List PyData), vs = [.ref p, v1, v2] ∧ Kd K H v1 ∧ (∀ H', Same H H' → Kd K H' v2) ∧ Chn K C H p ks f ∧ ∀ H' L us, Same H H' → H L = none → H' L = some (.lst us) → Dns K (fz H') us (inZ ks f v1 v2) → Q (.ref L) H'
theorem ok_flightX {f : Addr} {fd : FuncData} (F : Fun K "in_flight" "Channels.in_flight" m_in_flight f fd) (Y : Bn mg) (T : Cc K C) (G_is_host_name : Fk P w K mg base CX0 2 "is_host_name" ["value"] (spHost K)) : FnOk P w K mg base CX0 3 f fd ["self", "source", "goal"] (spFlightX K C) := by
  refine F.ok scm_in_flight (fun vs H Q E h => ?_) (fun cdv A outer s H vs Q E hr h => ?_)
  · obtain ⟨p, v1, v2, ks, g, rfl, _⟩ := h
    rfl
  · obtain ⟨p, v1, v2, ks, g, rfl, k1, k2, ⟨La, dx, ad, hp, c⟩, q⟩ := h
    have hu1 := Nat.lt_of_le_of_lt (Nat.add_le_add_left (show 1 ≤ 64 by decide) _) hr.units
    refine ⟨_, (pss_cons (ps_if (PW.pt (pw_or (pt_not (pt_val (pe_callF G_is_host_name (hr.mono (by decide)) (by rfl) pass0 (pa_cons (pv 1) pa_nil)))) (pw_or1 (pt_not (pt_val (pe_callF G_is_host_name (hr.mono (by decide)) (by rfl) pass0 (pa_cons (pv 2) pa_nil)))))))
 (pss_one (ps_ret (pe_lst pa_nil)))
 pss_nil)
 (pss_one (ps_ret (pe_callTy call_list_of (by rfl) Y.list (by decide +kernel) (pa_cons (pe_dget2 hu1 (pe_fld (pv 0) rfl) (pe_tup (pa_cons (pv 1) (pa_cons (pv 2) pa_nil))) (pe_lst pa_nil) ⟨rfl, rfl, rfl, rfl⟩) pa_nil))))), ?_⟩
    refine ⟨_, rfl, v1, rfl, k1, fun H1 s1 => ⟨_, rfl, ?_⟩⟩
    cases t1 : textOf v1 LET 8 with
    | false =>
      refine iteT (iteT ⟨Nat.zero_le _, fun L nL => ?_⟩)
      refine q _ L [] (s1.trans (same_upd nL)) (same_none0 s1 nL) upd_same ?_
      rw [inZ_no1 ks g t1]
      exact .nil
    | true =>
    obtain ⟨a, rfl, na⟩ := txt_nm t1
    refine iteF ⟨_, rfl, v2, rfl, k2 _ s1, fun H2 s2 => ⟨_, rfl, ?_⟩⟩
    cases t2 : textOf v2 LET 8 with
    | false =>
      refine iteT ⟨Nat.zero_le _, fun L nL => ?_⟩
      refine q _ L [] ((s1.trans s2).trans (same_upd nL)) (same_none0 (s1.trans s2) nL) upd_same ?_
      rw [inZ_no2 ks g t2]
      exact .nil
    | true =>
    obtain ⟨b, rfl, nb⟩ := txt_nm t2
    rw [inZ_str ks g na nb] at q
    refine iteF ?_
    have s02 := s1.trans s2
    have c2 := c.same s02
    refine ⟨_, rfl, p, C, dx, _, _, rfl, s02 _ _ hp, T.cl, T.nL, rfl, La, rfl, .inr ⟨_, .inl c2.at_⟩, ?_⟩
    refine ⟨_, rfl, _, rfl, (by show 2 ≤ sizeLine; decide), fun t nt => ?_⟩
    have s3 := same_upd (o := .tup [.str a, .str b]) nt
    have gt : (upd H2 t (.tup [.str a, .str b])) t = some (.tup ((kq (a, b)).map kV)) := upd_same
    generalize upd H2 t (.tup [.str a, .str b]) = H3 at s3 gt ⊢
    refine ⟨Nat.zero_le _, fun l nl => ?_⟩
    generalize hg : upd H3 l _ = H4
    obtain ⟨s4, g4⟩ := upd_new hg nl
    clear hg
    have s24 := s3.trans s4
    have c4 := c2.same s24
    have gd := DGet.t c4.at_ (s4 _ _ gt)
    rw [ckv_val] at gd
    have s04 := s02.trans s24
    by_cases m : (a, b) ∈ ks
    · rw [if_pos m] at gd
      obtain ⟨us, e1, e2, _⟩ := c4.ls _ m
      refine ⟨_, gd, ad (a, b), us, rfl, .inl (SqL.of e1), fun L nL => ?_⟩
      have nL0 : H L = none := by
        cases z : H L with
        | none => rfl
        | some o => rw [s04 _ _ z] at nL; cases nL
      refine q _ L us (s04.trans (same_upd nL)) nL0 upd_same ?_
      unfold inF
      rw [if_pos m]
      exact Dns.same (fz_keep (.of (same_upd nL))) e2
    · rw [if_neg m] at gd
      refine ⟨_, gd, l, [], rfl, .inl (SqL.of g4), fun L nL => ?_⟩
      have nL0 : H L = none := by
        cases z : H L with
        | none => rfl
        | some o => rw [s04 _ _ z] at nL; cases nL
      refine q _ L [] (s04.trans (same_upd nL)) nL0 upd_same ?_
      unfold inF
      rw [if_neg m]
      exact .nil
def spPutX (K : PySem.W.Frag) (C CN CI : Addr) : Sp := fun vs H Q E => ∃ (p La dx : Addr) (v1 v2 : V) (it : V) (d : PyData) (ks : List (Str × Str)) (f : Str × Str → List PyData) (ad : Str × Str → Addr), vs = [.ref p, v1, v2, it] ∧ Kd K H v1 ∧ (∀ H', Same H H' → Kd K H' v2) ∧ Dn K H it d ∧ sml d = true ∧ H p = some (.ins C dx [("held", .ref La)]) ∧ ChD K H La ks f ad ∧ ks.length ≤ 500 ∧ (∀ k ∈ ks, (f k).length ≤ 500) ∧
  (textOf v1 LET 8 = false → Ro E CN "value" v1 H) ∧ (textOf v1 LET 8 = true → textOf v2 LET 8 = false ∨ v2 = v1 → Ro E CN "value" v2 H) ∧ (∀ a b, v1 = .str a → v2 = .str b → Nm a → Nm b → a ≠ b → isItem d = false → Ro E CI "value" it H) ∧
  ∀ a b, v1 = .str a → v2 = .str b → Nm a → Nm b → a ≠ b → isItem d = true → ∀ H' ad', FzK H H' → (∀ x o, H x = some o → x ≠ La → (∀ k ∈ ks, x ≠ ad k) → H' x = some o) → (∀ k ∈ putKs ks (a, b), k ∈ ks ∧ ad' k = ad k ∨ H (ad' k) = none) → ChD K H' La (putKs ks (a, b)) (putFn ks f (a, b) d) ad' → Q .non H'
theorem ok_putX {f : Addr} {fd : FuncData} (F : Fun K "put" "Channels.put" m_put f fd) (Y : Bn mg) (T : Cc K C) (R : Rz P w K mg base "InvalidName" "value" CN) (G_is_host_name : Fk P w K mg base CX0 2 "is_host_name" ["value"] (spHost K)) (G_check_item : Fk P w K mg base (L2.CX P w) 6 "check_item" ["value"] (spChk K CI)) : FnOk P w K mg base (L2.CX P w) 7 f fd ["self", "source", "goal", "item"] (spPutX K C CN CI) := by
  obtain ⟨fIR, fdIR, XI, GI, bI⟩ := R.ex
  refine F.okX scm_put (fun vs H Q E h => ?_) (fun cdv A outer s H vs Q E hr h => ?_)
  · obtain ⟨p, La, dx, v1, v2, it, d, ks, g, ad, rfl, _⟩ := h
    rfl
  · obtain ⟨p, La, dx, v1, v2, it, d, ks, g, ad, rfl, k1, k2, di, sm, hp, c, kl, fl, x1, x2, x3, q⟩ := h
    have hu1 := Nat.lt_of_le_of_lt (Nat.add_le_add_left (show 1 ≤ 64 by decide) _) hr.units
    refine ⟨_, (pss_cons (ps_if (pt_not (pt_val (pe_callF G_is_host_name (hr.mono (by decide)) (by rfl) pass0 (pa_cons (pv 1) pa_nil))))
 (pss_one (ps_raise1 rfl (takes_of rfl rfl rfl rfl) XI R.ty GI (hr.mono (by decide)) bI (by rfl) R.gm (pa_cons (pv 1) pa_nil)))
 pss_nil)
 (pss_cons (ps_if (PW.pt (pw_or (pt_not (pt_val (pe_callF G_is_host_name (hr.mono (by decide)) (by rfl) pass0 (pa_cons (pv 2) pa_nil)))) (pw_or1 (pt_cmpR op_eq (pv 2) (pv 1) (nomark _)))))
 (pss_one (ps_raise1 rfl (takes_of rfl rfl rfl rfl) XI R.ty GI (hr.mono (by decide)) bI (by rfl) R.gm (pa_cons (pv 2) pa_nil)))
 pss_nil)
 (pss_cons (ps_expr (pe_callF G_check_item (hr.mono (by decide)) (by rfl) (passes_call (E := E) (takes_of rfl rfl rfl rfl) (fun _ _ _ _ h => h)) (pa_cons (pv 3) pa_nil)))
 (pss_one (ps_expr (pe_bm PySem.F.plainAttrs_list PySem.F.slot_list_append PySem.F.type_list_append mt_append (pe_bm PySem.F.plainAttrs_dict PySem.F.slot_dict_setdefault PySem.F.type_dict_setdefault (mt_setd hu1) (pe_fld (pv 0) rfl) (pa_cons (pe_tup (pa_cons (pv 1) (pa_cons (pv 2) pa_nil))) (pa_cons (pe_lst pa_nil) pa_nil))) (pa_cons (pv 3) pa_nil))))))), ?_⟩
    refine ⟨_, rfl, v1, rfl, k1, fun H1 s1 => ⟨_, rfl, ?_⟩⟩
    cases t1 : textOf v1 LET 8 with
    | false => exact iteT ⟨_, rfl, _, rfl, fun ex nd => x1 t1 _ ex (s1.trans (same_upd nd)) upd_same⟩
    | true =>
    refine iteF ⟨_, rfl, v2, rfl, k2 _ s1, fun H2 s2 => ⟨_, rfl, ?_⟩⟩
    cases t2 : textOf v2 LET 8 with
    | false => exact iteT (iteT ⟨_, rfl, _, rfl, fun ex nd => x2 t1 (.inl t2) _ ex ((s1.trans s2).trans (same_upd nd)) upd_same⟩)
    | true =>
    obtain ⟨a, rfl, na⟩ := txt_nm t1
    obtain ⟨b, rfl, nb⟩ := txt_nm t2
    refine iteF ?_
    refine ⟨_, rfl, _, rfl, rfl, _, rfl, ?_⟩
    by_cases eab : V.str b = V.str a
    · rw [decide_eq_true eab]
      exact iteT ⟨_, rfl, _, rfl, fun ex nd => x2 t1 (.inr eab) _ ex ((s1.trans s2).trans (same_upd nd)) upd_same⟩
    rw [decide_eq_false eab]
    have nab : a ≠ b := fun z => eab (by rw [z])
    refine iteF ?_
    have x3 := x3 a b rfl rfl na nb nab
    have q := q a b rfl rfl na nb nab
    have s02 := s1.trans s2
    cases isI : isItem d with
    | false => exact ⟨_, rfl, it, d, rfl, di.same s02, sm, fun n => by rw [isI] at n; (try cases n), fun n => (x3 isI).same s02⟩
    | true =>
    have q := q isI
    refine ⟨_, rfl, it, d, rfl, di.same s02, sm, fun _ H3 s3 => ?_, fun n => by rw [isI] at n; cases n⟩
    have s03 := s02.trans s3
    have c3 := c.same s03
    refine ⟨_, rfl, p, C, dx, _, _, rfl, s03 _ _ hp, T.cl, T.nL, rfl, .inr (.inr (.inl ⟨rfl, .inr ⟨_, c3.at_⟩⟩)), _, rfl, _, rfl, (by show 2 ≤ sizeLine; decide), fun t nt => ?_⟩
    have s4 := same_upd (o := .tup [.str a, .str b]) nt
    have gt : (upd H3 t (.tup [.str a, .str b])) t = some (.tup ((kq (a, b)).map kV)) := upd_same
    generalize upd H3 t (.tup [.str a, .str b]) = H4 at s4 gt ⊢
    refine ⟨Nat.zero_le _, fun l nl => ?_⟩
    generalize hg : upd H4 l _ = H5
    obtain ⟨s5, g5⟩ := upd_new hg nl
    clear hg
    have s45 := s4.trans s5
    have s05 := s03.trans s45
    have c5 := c3.same s45
    have di5 := (dn_fz di (item_noL isI)).same (fz_keep (.of s05))
    have nl0 : H l = none := by
      cases z : H l with
      | none => rfl
      | some o => rw [(s03.trans s4) _ _ z] at nl; cases nl
    refine ⟨La, t, _, kq (a, b), .ref l, rfl, rfl, c5.at_, s5 _ _ gt, by rw [ckv_len]; exact small200 (by omega), fun v hv => ?_, fun hn => ?_⟩
    · rw [ckv_val] at hv
      by_cases m : (a, b) ∈ ks
      · rw [if_pos m] at hv
        cases hv
        obtain ⟨us, e1, e2, e3⟩ := c5.ls _ m
        have lus := Dns.len e2
        refine ⟨.inl ⟨rfl, _, SqL.of e1⟩, _, rfl, ad (a, b), us, it, rfl, rfl, e1, small200 (by have := fl _ m; omega), ?_⟩
        have fk : FzK H (upd H5 (ad (a, b)) (.lst (us ++ [it]))) := (FzK.of s05).trans ((FzK.refl H5).upd e1 (fun _ _ z => nomatch z))
        refine q _ ad fk (fun x o e n1 n2 => by rw [upd_ne (n2 _ m)]; exact s05 _ _ e) (fun k hk => .inl ⟨by unfold putKs at hk; rw [if_pos m] at hk; exact hk, rfl⟩) ?_
        have nLa : La ≠ ad (a, b) := fun z => by
          have := c5.at_
          rw [z, e1] at this
          cases this
        refine ⟨?_, ?_, fun k hk => ?_, ?_⟩
        · unfold putKs
          rw [if_pos m, upd_ne nLa]
          exact c5.at_
        · unfold putKs
          rw [if_pos m]
          exact c5.nd
        · unfold putKs at hk
          rw [if_pos m] at hk
          have fk5 : FzK H5 (upd H5 (ad (a, b)) (.lst (us ++ [it]))) := (FzK.refl H5).upd e1 (fun _ _ z => nomatch z)
          unfold putFn
          by_cases ek : k = (a, b)
          · rw [if_pos ek, ek]
            refine ⟨us ++ [it], upd_same, ?_, by simp⟩
            unfold inF
            rw [if_pos m]
            exact dns_app (Dns.same (fz_keep fk5) e2) (.cons (di5.same (fz_keep fk5)) .nil)
          · rw [if_neg ek]
            obtain ⟨us2, h1, h2, h3⟩ := c5.ls k hk
            refine ⟨us2, by rw [upd_ne fun z => ek (c5.inj _ hk _ m z)]; exact h1, Dns.same (fz_keep fk5) h2, h3⟩
        · unfold putKs
          rw [if_pos m]
          exact c5.inj
      · rw [if_neg m] at hv
        cases hv
    · rw [ckv_val] at hn
      have m : (a, b) ∉ ks := fun z => by rw [if_pos z] at hn; cases hn
      rw [ckv_snoc m]
      have nLl : La ≠ l := ne_of_none (c3.same s4).at_ nl
      have gl : (upd H5 La (.dT (ckv (ks ++ [(a, b)]) fun j => if j = (a, b) then l else ad j))) l = some (.lst []) := by
        rw [upd_ne nLl.symm]
        exact g5
      refine ⟨.inl ⟨rfl, _, SqL.of gl⟩, _, rfl, l, [], it, rfl, rfl, gl, (by show 0 < sizeLine; decide), ?_⟩
      have fk5 : FzK H5 (upd (upd H5 La (.dT (ckv (ks ++ [(a, b)]) fun j => if j = (a, b) then l else ad j))) l (.lst ([] ++ [it]))) := ((FzK.refl H5).upd c5.at_ (fun _ _ z => nomatch z)).upd g5 (fun _ _ z => nomatch z)
      have nal : ∀ k ∈ ks, ad k ≠ l := fun k hk => by
        obtain ⟨us2, h1, _⟩ := (c3.same s4).ls k hk
        exact ne_of_none h1 nl
      have naL : ∀ k ∈ ks, ad k ≠ La := fun k hk z => by
        obtain ⟨us2, h1, _⟩ := c5.ls k hk
        rw [z, c5.at_] at h1
        cases h1
      refine q _ (fun j => if j = (a, b) then l else ad j) ((FzK.of s05).trans fk5) (fun x o e n1 n2 => ?_) (fun k hk => ?_) ⟨?_, ?_, fun k hk => ?_, fun k hk j hj e => ?_⟩
      · rw [upd_ne (ne_of_none e nl0), upd_ne n1]
        exact s05 _ _ e
      · by_cases ek : k = (a, b)
        · rw [if_pos ek]
          exact .inr nl0
        · rw [if_neg ek]
          unfold putKs at hk
          rw [if_neg m] at hk
          exact .inl ⟨(List.mem_append.mp hk).resolve_right fun z => ek (List.mem_singleton.mp z), rfl⟩
      · unfold putKs
        rw [if_neg m, upd_ne nLl, upd_same]
      · unfold putKs
        rw [if_neg m, List.nodup_append]
        exact ⟨c5.nd, List.nodup_cons.mpr ⟨(fun z => nomatch z), List.nodup_nil⟩, fun x hx y hy => by rw [List.mem_singleton.mp hy]; exact fun z => m (z ▸ hx)⟩
      · unfold putKs at hk
        rw [if_neg m] at hk
        unfold putFn
        by_cases ek : k = (a, b)
        · rw [if_pos ek, if_pos ek]
          refine ⟨[] ++ [it], upd_same, ?_, by simp⟩
          unfold inF
          rw [if_neg m]
          exact .cons (di5.same (fz_keep fk5)) .nil
        · have hk2 := (List.mem_append.mp hk).resolve_right fun z => ek (List.mem_singleton.mp z)
          rw [if_neg ek, if_neg ek]
          obtain ⟨us2, h1, h2, h3⟩ := c5.ls k hk2
          exact ⟨us2, by rw [upd_ne (nal k hk2), upd_ne (naL k hk2)]; exact h1, Dns.same (fz_keep fk5) h2, h3⟩
      · unfold putKs at hk hj
        rw [if_neg m] at hk hj
        by_cases ek : k = (a, b)
        · by_cases ej : j = (a, b)
          · rw [ek, ej]
          · have hj2 := (List.mem_append.mp hj).resolve_right fun z => ej (List.mem_singleton.mp z)
            rw [if_pos ek, if_neg ej] at e
            exact absurd e.symm (nal j hj2)
        · have hk2 := (List.mem_append.mp hk).resolve_right fun z => ek (List.mem_singleton.mp z)
          by_cases ej : j = (a, b)
          · rw [if_neg ek, if_pos ej] at e
            exact absurd e (nal k hk2)
          · have hj2 := (List.mem_append.mp hj).resolve_right fun z => ej (List.mem_singleton.mp z)
            rw [if_neg ek, if_neg ej] at e
            exact c5.inj _ hk2 _ hj2 e
def spTakeX (K : PySem.W.Frag) (C CE : Addr) : Sp := fun vs H Q E => ∃ (p La dx : Addr) (v1 v2 : V) (ks : List (Str × Str)) (f : Str × Str → List PyData) (ad : Str × Str → Addr), vs = [.ref p, v1, v2] ∧ Kd K H v1 ∧ (∀ H', Same H H' → Kd K H' v2) ∧ H p = some (.ins C dx [("held", .ref La)]) ∧ ChD K H La ks f ad ∧ (∀ k ∈ ks, (f k).length ≤ 500) ∧ ks.length ≤ 500 ∧
  ((∀ a b, v1 = .str a → v2 = .str b → Nm a → Nm b → (a, b) ∉ ks) → Ro2 E CE "source" "goal" v1 v2 H) ∧
  ∀ a b, v1 = .str a → v2 = .str b → Nm a → Nm b → (a, b) ∈ ks → ∀ H' ad' v d r, f (a, b) = d :: r → FzK H H' → (∀ x o, H x = some o → x ≠ La → H' x = some o) → (∀ k ∈ takeKs ks f (a, b), k ∈ ks ∧ (ad' k = ad k ∨ H (ad' k) = none)) → Dn K (fz H') v d → ChD K H' La (takeKs ks f (a, b)) (takeFn f (a, b)) ad' → Q v H'
theorem ok_takeX {f : Addr} {fd : FuncData} (F : Fun K "take" "Channels.take" m_take f fd) (Y : Bn mg) (T : Cc K C) (R : Rz2 P w K mg base "EmptyChannel" "source" "goal" CE) (M_in_flight : Fm P w K mg base CX0 3 C "in_flight" ["self", "source", "goal"] (spFlightX K C)) : FnOk P w K mg base (L2.CX P w) 4 f fd ["self", "source", "goal"] (spTakeX K C CE) := by
  obtain ⟨fIR, fdIR, XI, GI, bI⟩ := R.ex
  obtain ⟨_, _, MM_in_flight, MB_in_flight, MF_in_flight⟩ := M_in_flight.ex
  refine F.okX scm_take (fun vs H Q E h => ?_) (fun cdv A outer s H vs Q E hr h => ?_)
  · obtain ⟨p, La, dx, v1, v2, ks, g, ad, rfl, _⟩ := h
    rfl
  · obtain ⟨p, La, dx, v1, v2, ks, g, ad, rfl, k1, k2, hp, c, fl0, kl, x1, q0⟩ := h
    have hu1 := Nat.lt_of_le_of_lt (Nat.add_le_add_left (show 1 ≤ 64 by decide) _) hr.units
    refine ⟨_, (pss_cons (ps_set (i := 3) scm_take.nd rfl (.inl rfl) (pe_meth (pv 0) T.cl MM_in_flight MF_in_flight (hr.mono (by decide)) MB_in_flight .nil pass0 (pa_cons (pv 1) (pa_cons (pv 2) pa_nil))))
 (pss_cons (ps_if (pt_not (pt_truth (pv 3) (by intro _; rfl)))
 (pss_one (ps_raise2 rfl (takes_of rfl rfl rfl rfl) XI R.ty GI (hr.mono (by decide)) bI (by rfl) R.gm (pa_cons (pv 1) (pa_cons (pv 2) pa_nil))))
 pss_nil)
 (pss_cons (ps_if (pt_cmpR op_eq (pe_callB call_len_seq (by rfl) Y.len PySem.boot_len (pa_cons (pv 3) pa_nil)) pe_int (nomark _))
 (pss_one (ps_delT hu1 (pe_fld (pv 0) rfl) (pe_tup (pa_cons (pv 1) (pa_cons (pv 2) pa_nil)))))
 (pss_one (ps_dput hu1 (pe_fld (pv 0) rfl) (pe_tup (pa_cons (pv 1) (pa_cons (pv 2) pa_nil))) (pe_slice sl_list (pv 3) (po_some pe_int) po_none) rfl)))
 (pss_one (ps_ret (pe_ix ix_list (pv 3) pe_int (fun _ _ => rfl))))))), ?_⟩
    refine ⟨_, rfl, p, dx, _, rfl, hp, fld_no (by decide +kernel), _, rfl, _, rfl, p, v1, v2, ks, g, rfl, k1, k2, ⟨La, dx, ad, hp, c⟩, fun H1 L us s1 nL hL du => ?_⟩
    by_cases ex : ∃ a b, v1 = .str a ∧ v2 = .str b ∧ Nm a ∧ Nm b ∧ (a, b) ∈ ks
    case neg =>
      have e0 : inZ ks g v1 v2 = [] := by
        unfold inZ
        split
        · next h =>
          have e1 := h.choose_spec.choose_spec
          refine if_neg fun m => ex ⟨_, _, e1.1, e1.2.1, e1.2.2.1, e1.2.2.2, m⟩
        · rfl
      rw [e0] at du
      cases du
      refine ⟨_, rfl, false, .inl ⟨_, SqL.of hL, rfl⟩, iteT ?_⟩
      exact ⟨_, rfl, _, rfl, _, _, rfl, fun dd nd => x1 (fun a b h1 h2 na nb m => ex ⟨a, b, h1, h2, na, nb, m⟩) _ dd (s1.trans (same_upd nd)) upd_same⟩
    obtain ⟨a, b, rfl, rfl, na, nb, m⟩ := ex
    rw [inZ_str ks g na nb] at du
    have q := q0 a b rfl rfl na nb m
    have fl := fl0 _ m
    rw [show inF ks g (a, b) = g (a, b) from if_pos m] at du
    have lu := Dns.len du
    have c1 := c.same s1
    have hp1 := s1 _ _ hp
    obtain ⟨_, _, _, ne0⟩ := c.ls _ m
    obtain ⟨d, r, hg⟩ : ∃ d r, g (a, b) = d :: r := by
      cases h : g (a, b) with
      | nil => exact absurd h ne0
      | cons d r => exact ⟨d, r, rfl⟩
    rw [hg] at du
    obtain ⟨v, vs, rfl, dv, dvs⟩ : ∃ v vs, us = v :: vs ∧ Dn K (fz H1) v d ∧ Dns K (fz H1) vs r := by
      cases du with
      | cons h t => exact ⟨_, _, rfl, h, t⟩
    have lr : (v :: vs).length = (g (a, b)).length := lu
    refine ⟨_, rfl, true, .inl ⟨_, SqL.of hL, rfl⟩, iteF ?_⟩
    have nLLa : L ≠ La := (ne_of_none c.at_ nL).symm
    refine ⟨_, rfl, L, _, rfl, .inl (SqL.of hL), rfl, _, rfl, ite2 (fun c1 => ?_) (fun c1 => ?_)⟩
    · have l1 : (g (a, b)).length = 1 := by
        have := of_decide_eq_true c1
        injection this with this
        omega
      refine ⟨_, rfl, p, C, dx, _, _, rfl, hp1, T.cl, T.nL, rfl, _, rfl, _, rfl, (by show 2 ≤ sizeLine; decide), fun t nt => ?_⟩
      have s2 := same_upd (o := .tup [.str a, .str b]) nt
      have gt : (upd H1 t (.tup [.str a, .str b])) t = some (.tup ((kq (a, b)).map kV)) := upd_same
      generalize upd H1 t (.tup [.str a, .str b]) = H2 at s2 gt ⊢
      have c2 := c1
      have cd := (c.same s1).same s2
      refine ⟨La, t, _, kq (a, b), .ref (ad (a, b)), rfl, rfl, cd.at_, gt, by rw [ckv_val, if_pos m], ?_⟩
      have fk : FzK H2 (upd H2 La (.dT (dropK (ckv ks ad) (kq (a, b))))) := (FzK.refl H2).upd cd.at_ (fun _ _ z => nomatch z)
      refine ⟨_, rfl, L, _, 0, v, rfl, rfl, SqL.of (by rw [upd_ne nLLa]; exact s2 _ _ hL), (show atI (v :: vs) ((0 : Nat) : Int) = some v from atI_nat rfl), ?_⟩
      refine q _ ad v d r hg ((FzK.of (s1.trans s2)).trans fk) (fun x o e n => by rw [upd_ne n]; exact s2 _ _ (s1 _ _ e)) (fun k hk => ?_) (dv.same (fz_keep ((FzK.of s2).trans fk))) (cd.gone l1)
      unfold takeKs at hk
      rw [if_pos l1] at hk
      exact ⟨(List.mem_filter.mp hk).1, .inl rfl⟩
    · have l1 : (g (a, b)).length ≠ 1 := fun z => c1 (by rw [lr, z]; exact decide_eq_true rfl)
      refine ⟨_, rfl, 1, rfl, L, _, rfl, SqL.of hL, fun N nN => ?_⟩
      rw [cut1]
      have s2 := same_upd (o := .lst vs) nN
      have gN : (upd H1 N (.lst vs)) N = some (.lst vs) := upd_same
      have nN0 : H N = none := by
        cases z : H N with
        | none => rfl
        | some o => rw [s1 _ _ z] at nN; cases nN
      generalize upd H1 N (.lst vs) = H2 at s2 gN ⊢
      refine ⟨_, rfl, p, C, dx, _, _, rfl, s2 _ _ hp1, T.cl, T.nL, rfl, _, rfl, _, rfl, (by show 2 ≤ sizeLine; decide), fun t nt => ?_⟩
      have s3 := same_upd (o := .tup [.str a, .str b]) nt
      have gt : (upd H2 t (.tup [.str a, .str b])) t = some (.tup ((kq (a, b)).map kV)) := upd_same
      generalize upd H2 t (.tup [.str a, .str b]) = H3 at s3 gt ⊢
      have s03 := (s1.trans s2).trans s3
      have cd := c.same s03
      refine ⟨La, _, rfl, DPut.t cd.at_ gt (by rw [ckv_len]; exact small200 (by omega)), ?_⟩
      have fk : FzK H3 (upd H3 La (.dT (putK (ckv ks ad) (kq (a, b)) (.ref N)))) := (FzK.refl H3).upd cd.at_ (fun _ _ z => nomatch z)
      have hL3 := s3 _ _ (s2 _ _ hL)
      refine ⟨_, rfl, L, _, 0, v, rfl, rfl, SqL.of (by rw [upd_ne nLLa]; exact hL3), (show atI (v :: vs) ((0 : Nat) : Int) = some v from atI_nat rfl), ?_⟩
      have nal : ∀ k ∈ ks, ad k ≠ N := fun k hk => by
        obtain ⟨us2, h1, _⟩ := c.ls k hk
        exact ne_of_none h1 nN0
      refine q _ _ v d r hg ((FzK.of s03).trans fk) (fun x o e n => by rw [upd_ne n]; exact s03 _ _ e) (fun k hk => ?_) (dv.same (fz_keep ((FzK.of (s2.trans s3)).trans fk))) (cd.less m l1 nal (s3 _ _ gN) (by rw [hg]; exact dvs.same (fz_keep (.of (s2.trans s3)))))
      unfold takeKs at hk
      rw [if_neg l1] at hk
      refine ⟨hk, ?_⟩
      by_cases ek : k = (a, b)
      · rw [if_pos ek]
        exact .inr nN0
      · rw [if_neg ek]
        exact .inl rfl
end
end My

namespace My
open PySem PySem.Spec PyProof.Rows L2 Gy Xl Xs Xt
/-! ### the law's own checks -/
def rNoSg : R2 := fun x y H Q => ∃ (c : Nat) (z : Str), x = .str ⟨#[c]⟩ ∧ y = .str z ∧ Q (.bl (!decide (c ∈ z.cps.toList))) H
section
variable {P : Program} {w : World} {K : PySem.W.Frag} {mg : Str → Option Value} {base : Heap} {H : Hp}
def spIsName (K : PySem.W.Frag) : Sp := fun vs H Q _ => ∃ (v : V) (d : PyData), vs = [v] ∧ Dn K H v d ∧ sml d = true ∧ ∀ H', Same H H' → Q (.bl (isHost d)) H'
theorem ok_isName {f : Addr} {fd : FuncData} (F : Fun K "_law_is_name" "_law_is_name" s_law_is_name f fd) (Y : Bn mg) : FnOk P w K mg base CX0 1 f fd ["_law_thing"] (spIsName K) := by
  refine F.ok sc_law_is_name (fun vs H Q E h => ?_) (fun cdv A outer s H vs Q E hr h => ?_)
  · obtain ⟨v, d, rfl, _⟩ := h
    rfl
  · obtain ⟨v, d, rfl, dn, sm, q⟩ := h
    have hu0 := Nat.lt_of_le_of_lt (Nat.le_add_right _ 64) hr.units
    refine ⟨_, (pss_cons (ps_set (i := 1) sc_law_is_name.nd rfl (.inr rfl) pe_str)
 (pss_one (ps_ret (pe_and (pe_callB call_isi (by rfl) Y.isinstance (by decide +kernel) (pa_cons (pv 0) (pa_cons (pe_bltn (v := .ty "str") (by rfl) Y.str (by decide +kernel) rfl) pa_nil))) (pe_and (pe_chain op_lt op_lt pe_int (pe_callB call_len_str (by rfl) Y.len PySem.boot_len (pa_cons (pv 0) pa_nil)) pe_int) (pe_one (pe_cmpR (op_eqEmL hu0) (pe_lc (own := [("_law_sign", 2)]) (g := gName 2) (tt := tTest (tOp rNoSg (tVar 2) (tVar 1))) rfl sc_law_is_name.nd (pi_str (pv 0)) (blkOk_by (N := ["_law_thing", "_law_letters", "_law_sign"]) (sc := defScope s_law_is_name) (by decide +kernel)) (fun _ _ _ _ _ => (pg_name (i := 2) sc_law_is_name.nd rfl (Or.inl rfl))) (fun _ _ _ _ _ => (pts_one (pt_cmpR (show OpR _ _ rNoSg from op_notIn_sign) (pv 2) (pv 1) rfl))) (fun _ _ _ _ _ => (pv 2))) (pe_lst pa_nil) (nomark _)))))))), ?_⟩
    rcases str_or dn with ⟨x, rfl, rfl⟩ | ⟨no, t, ty, kt⟩
    · have lx : x.length ≤ 20 := by simpa only [sml, decide_eq_true_eq] using sm
      refine ⟨_, rfl, _, _, _, _, true, rfl, .ty "str", .base (.str x), kit_ty (by decide +kernel), _, rfl, iteT ?_⟩
      have e1 : isHost (.str x) = (decide ((1 : Int) ≤ (x.length : Int)) && decide ((x.length : Int) ≤ 8) && allIn LET x) := rfl
      rw [e1] at q
      refine ⟨_, rfl, _, rfl, le200 (by omega), 0, _, rfl, rfl, _, rfl, ?_⟩
      refine ite2 (fun c1 => ?_) (fun c1 => ?_)
      · have c1' : (0 : Int) < (x.length : Int) := of_decide_eq_true c1
        rw [decide_eq_true (show (1 : Int) ≤ (x.length : Int) by omega), Bool.true_and] at q
        refine ⟨_, _, rfl, rfl, _, rfl, ite2 (fun c2 => ?_) (fun c2 => ?_)⟩
        · have c2' : (x.length : Int) < 9 := of_decide_eq_true c2
          rw [decide_eq_true (show (x.length : Int) ≤ 8 by omega), Bool.true_and] at q
          refine ⟨_, rfl, x, rfl, fun D hD => ?_⟩
          refine lc_it (walk_str (z := x)) (fun i H' => Same H H' ∧ H' D = some (.lst (((x.cps.toList.take i).filter fun c => !decide (c ∈ (LET).cps.toList)).map fun c => V.str ⟨#[c]⟩)))
            ⟨same_upd hD, upd_same⟩ (fun _ _ _ _ => trivial) ?_ ?_
          · rintro i y H1 H2 hi ⟨sm1, hL⟩ ⟨rfl, c, hc, rfl⟩
            have hc' : x.cps.toList[i]? = some c := by rw [Array.getElem?_toList]; exact hc
            refine ⟨rfl, ?_⟩
            refine ⟨_, rfl, _, rfl, c, LET, rfl, rfl, _, rfl, ite2 (fun c3 => ?_) (fun c3 => ?_)⟩
            · refine ⟨_, rfl, _, hL, ?_, same_upd2 sm1 hD, ?_⟩
              · rw [List.length_map]
                refine small200 (Nat.le_trans (List.length_filter_le _ _) ?_)
                rw [List.length_take, Array.length_toList]
                have lx' : x.cps.size ≤ 20 := lx
                omega
              · rw [upd_same, List.take_add_one, hc', List.filter_append, List.map_append]
                show some (HO.lst _) = some (HO.lst (_ ++ (List.filter _ [c]).map _))
                rw [List.filter_cons_of_pos (by exact c3)]
                rfl
            · refine ⟨sm1, ?_⟩
              rw [hL, List.take_add_one, hc', List.filter_append]
              show some (HO.lst _) = some (HO.lst ((_ ++ List.filter _ [c]).map _))
              rw [List.filter_cons_of_neg (by exact c3), List.filter_nil, List.append_nil]
          · rintro H1 ⟨sm1, hL⟩
            refine ⟨(by show 0 ≤ sizeLine; decide), fun l nl => ?_⟩
            have s2 := same_upd (o := .lst []) nl
            refine ⟨D, l, _, rfl, rfl, SqL.of (s2 _ _ hL), SqL.of upd_same, ?_⟩
            have e2 : (((x.cps.toList.take x.cps.size).filter fun c => !decide (c ∈ (LET).cps.toList)).map fun c => V.str ⟨#[c]⟩).isEmpty = allIn LET x := by
              rw [List.take_of_length_le (by rw [Array.length_toList]; exact Nat.le_refl _), List.isEmpty_map]
              unfold allIn
              rw [Bool.eq_iff_iff, List.isEmpty_iff, List.filter_eq_nil_iff, List.all_eq_true]
              refine ⟨fun h c hc => ?_, fun h c hc => ?_⟩
              · have := h c hc
                simpa using this
              · have := h c hc
                simpa using this
            rw [e2]
            exact q _ (sm1.trans s2)
        · have c2' : ¬ (x.length : Int) < 9 := fun z => c2 (decide_eq_true z)
          rw [decide_eq_false (show ¬ (x.length : Int) ≤ 8 by omega), Bool.false_and] at q
          exact q _ (Same.refl _)
      · have c1' : ¬ (0 : Int) < (x.length : Int) := fun z => c1 (decide_eq_true z)
        rw [decide_eq_false (show ¬ (1 : Int) ≤ (x.length : Int) by omega), Bool.false_and, Bool.false_and] at q
        exact ⟨_, rfl, iteF (q _ (Same.refl _))⟩
    · refine ⟨v, rfl, v, _, _, _, false, rfl, .ty "str", ty, kit_ty kt, _, rfl, iteF ?_⟩
      have z : isHost d = false := by
        cases d with
        | str x => exact absurd rfl (no x)
        | _ => rfl
      rw [z] at q
      exact q _ (Same.refl _)
def spIsWord (K : PySem.W.Frag) : Sp := fun vs H Q _ => ∃ (v : V) (d : PyData), vs = [v] ∧ Dn K H v d ∧ sml d = true ∧ ∀ H', Same H H' → Q (.bl (isWord d)) H'
theorem ok_isWord {f : Addr} {fd : FuncData} (F : Fun K "_law_is_word" "_law_is_word" s_law_is_word f fd) (Y : Bn mg) : FnOk P w K mg base CX0 1 f fd ["_law_thing"] (spIsWord K) := by
  refine F.ok sc_law_is_word (fun vs H Q E h => ?_) (fun cdv A outer s H vs Q E hr h => ?_)
  · obtain ⟨v, d, rfl, _⟩ := h
    rfl
  · obtain ⟨v, d, rfl, dn, sm, q⟩ := h
    have hu0 := Nat.lt_of_le_of_lt (Nat.le_add_right _ 64) hr.units
    refine ⟨_, (pss_cons (ps_set (i := 1) sc_law_is_word.nd rfl (.inr rfl) pe_str)
 (pss_one (ps_ret (pe_and (pe_callB call_isi (by rfl) Y.isinstance (by decide +kernel) (pa_cons (pv 0) (pa_cons (pe_bltn (v := .ty "str") (by rfl) Y.str (by decide +kernel) rfl) pa_nil))) (pe_and (pe_chain op_lt op_lt pe_int (pe_callB call_len_str (by rfl) Y.len PySem.boot_len (pa_cons (pv 0) pa_nil)) pe_int) (pe_one (pe_cmpR (op_eqEmL hu0) (pe_lc (own := [("_law_sign", 2)]) (g := gName 2) (tt := tTest (tOp rNoSg (tVar 2) (tVar 1))) rfl sc_law_is_word.nd (pi_str (pv 0)) (blkOk_by (N := ["_law_thing", "_law_signs", "_law_sign"]) (sc := defScope s_law_is_word) (by decide +kernel)) (fun _ _ _ _ _ => (pg_name (i := 2) sc_law_is_word.nd rfl (Or.inl rfl))) (fun _ _ _ _ _ => (pts_one (pt_cmpR (show OpR _ _ rNoSg from op_notIn_sign) (pv 2) (pv 1) rfl))) (fun _ _ _ _ _ => (pv 2))) (pe_lst pa_nil) (nomark _)))))))), ?_⟩
    rcases str_or dn with ⟨x, rfl, rfl⟩ | ⟨no, t, ty, kt⟩
    · have lx : x.length ≤ 20 := by simpa only [sml, decide_eq_true_eq] using sm
      refine ⟨_, rfl, _, _, _, _, true, rfl, .ty "str", .base (.str x), kit_ty (by decide +kernel), _, rfl, iteT ?_⟩
      have e1 : isWord (.str x) = (decide ((1 : Int) ≤ (x.length : Int)) && decide ((x.length : Int) ≤ 12) && allIn WSG x) := rfl
      rw [e1] at q
      refine ⟨_, rfl, _, rfl, le200 (by omega), 0, _, rfl, rfl, _, rfl, ?_⟩
      refine ite2 (fun c1 => ?_) (fun c1 => ?_)
      · have c1' : (0 : Int) < (x.length : Int) := of_decide_eq_true c1
        rw [decide_eq_true (show (1 : Int) ≤ (x.length : Int) by omega), Bool.true_and] at q
        refine ⟨_, _, rfl, rfl, _, rfl, ite2 (fun c2 => ?_) (fun c2 => ?_)⟩
        · have c2' : (x.length : Int) < 13 := of_decide_eq_true c2
          rw [decide_eq_true (show (x.length : Int) ≤ 12 by omega), Bool.true_and] at q
          refine ⟨_, rfl, x, rfl, fun D hD => ?_⟩
          refine lc_it (walk_str (z := x)) (fun i H' => Same H H' ∧ H' D = some (.lst (((x.cps.toList.take i).filter fun c => !decide (c ∈ (WSG).cps.toList)).map fun c => V.str ⟨#[c]⟩)))
            ⟨same_upd hD, upd_same⟩ (fun _ _ _ _ => trivial) ?_ ?_
          · rintro i y H1 H2 hi ⟨sm1, hL⟩ ⟨rfl, c, hc, rfl⟩
            have hc' : x.cps.toList[i]? = some c := by rw [Array.getElem?_toList]; exact hc
            refine ⟨rfl, ?_⟩
            refine ⟨_, rfl, _, rfl, c, WSG, rfl, rfl, _, rfl, ite2 (fun c3 => ?_) (fun c3 => ?_)⟩
            · refine ⟨_, rfl, _, hL, ?_, same_upd2 sm1 hD, ?_⟩
              · rw [List.length_map]
                refine small200 (Nat.le_trans (List.length_filter_le _ _) ?_)
                rw [List.length_take, Array.length_toList]
                have lx' : x.cps.size ≤ 20 := lx
                omega
              · rw [upd_same, List.take_add_one, hc', List.filter_append, List.map_append]
                show some (HO.lst _) = some (HO.lst (_ ++ (List.filter _ [c]).map _))
                rw [List.filter_cons_of_pos (by exact c3)]
                rfl
            · refine ⟨sm1, ?_⟩
              rw [hL, List.take_add_one, hc', List.filter_append]
              show some (HO.lst _) = some (HO.lst ((_ ++ List.filter _ [c]).map _))
              rw [List.filter_cons_of_neg (by exact c3), List.filter_nil, List.append_nil]
          · rintro H1 ⟨sm1, hL⟩
            refine ⟨(by show 0 ≤ sizeLine; decide), fun l nl => ?_⟩
            have s2 := same_upd (o := .lst []) nl
            refine ⟨D, l, _, rfl, rfl, SqL.of (s2 _ _ hL), SqL.of upd_same, ?_⟩
            have e2 : (((x.cps.toList.take x.cps.size).filter fun c => !decide (c ∈ (WSG).cps.toList)).map fun c => V.str ⟨#[c]⟩).isEmpty = allIn WSG x := by
              rw [List.take_of_length_le (by rw [Array.length_toList]; exact Nat.le_refl _), List.isEmpty_map]
              unfold allIn
              rw [Bool.eq_iff_iff, List.isEmpty_iff, List.filter_eq_nil_iff, List.all_eq_true]
              refine ⟨fun h c hc => ?_, fun h c hc => ?_⟩
              · have := h c hc
                simpa using this
              · have := h c hc
                simpa using this
            rw [e2]
            exact q _ (sm1.trans s2)
        · have c2' : ¬ (x.length : Int) < 13 := fun z => c2 (decide_eq_true z)
          rw [decide_eq_false (show ¬ (x.length : Int) ≤ 12 by omega), Bool.false_and] at q
          exact q _ (Same.refl _)
      · have c1' : ¬ (0 : Int) < (x.length : Int) := fun z => c1 (decide_eq_true z)
        rw [decide_eq_false (show ¬ (1 : Int) ≤ (x.length : Int) by omega), Bool.false_and, Bool.false_and] at q
        exact ⟨_, rfl, iteF (q _ (Same.refl _))⟩
    · refine ⟨v, rfl, v, _, _, _, false, rfl, .ty "str", ty, kit_ty kt, _, rfl, iteF ?_⟩
      have z : isWord d = false := by
        cases d with
        | str x => exact absurd rfl (no x)
        | _ => rfl
      rw [z] at q
      exact q _ (Same.refl _)
def isWhole (l m : Int) : PyData → Bool
  | .int i => decide (l ≤ i) && decide (i ≤ m)
  | _ => false
def spWhole (K : PySem.W.Frag) : Sp := fun vs H Q _ => ∃ (v : V) (l m : Int) (d : PyData), vs = [v, .int l, .int m] ∧ Dn K H v d ∧ Q (.bl (isWhole l m d)) H
theorem ok_whole {f : Addr} {fd : FuncData} (F : Fun K "_law_is_whole" "_law_is_whole" s_law_is_whole f fd) (Y : Bn mg) : FnOk P w K mg base CX0 1 f fd ["_law_thing", "_law_least", "_law_most"] (spWhole K) := by
  refine F.ok sc_law_is_whole (fun vs H Q E h => ?_) (fun cdv A outer s H vs Q E hr h => ?_)
  · obtain ⟨v, l, m, d, rfl, _⟩ := h
    rfl
  · obtain ⟨v, l, m, d, rfl, dn, q⟩ := h
    refine ⟨_, (pss_one (ps_ret (pe_and (pe_callB call_isi (by rfl) Y.isinstance (by decide +kernel) (pa_cons (pv 0) (pa_cons (pe_bltn (v := .ty "int") (by rfl) Y.int (by decide +kernel) rfl) pa_nil))) (pe_and (pe_not (pe_callB call_isi (by rfl) Y.isinstance (by decide +kernel) (pa_cons (pv 0) (pa_cons (pe_bltn (v := .ty "bool") (by rfl) Y.bool (by decide +kernel) rfl) pa_nil)))) (pe_one (pe_chain op_le op_le (pv 1) (pv 0) (pv 2))))))), ?_⟩
    rcases int_or dn with ⟨i, rfl, rfl⟩ | ⟨b, rfl, rfl⟩ | ⟨no, t, ty, kt⟩
    · refine ⟨_, rfl, _, _, _, _, true, rfl, .ty "int", .base (.int i), kit_ty (by decide +kernel), _, rfl, iteT ?_⟩
      refine ⟨_, rfl, _, _, _, _, false, rfl, .ty "bool", .base (.int i), kit_ty (by decide +kernel), _, rfl, _, rfl, iteT ?_⟩
      have e : isWhole l m (.int i) = (decide (l ≤ i) && decide (i ≤ m)) := rfl
      rw [e] at q
      refine ⟨_, rfl, _, rfl, _, _, rfl, rfl, _, rfl, ite2 (fun c => ?_) (fun c => ?_)⟩
      · rw [c, Bool.true_and] at q
        exact ⟨_, rfl, _, _, rfl, rfl, q⟩
      · rw [Bool.eq_false_iff.mpr c, Bool.false_and] at q
        exact q
    · refine ⟨_, rfl, _, _, _, _, true, rfl, .ty "int", .base (.bl b), kit_ty (by decide +kernel), _, rfl, iteT ?_⟩
      refine ⟨_, rfl, _, _, _, _, true, rfl, .ty "bool", .base (.bl b), kit_ty (by decide +kernel), _, rfl, _, rfl, iteF ?_⟩
      exact q
    · refine ⟨v, rfl, v, _, _, _, false, rfl, .ty "int", ty, kit_ty kt, _, rfl, iteF ?_⟩
      have z : isWhole l m d = false := by
        cases d with
        | int i => exact absurd rfl (no i)
        | _ => rfl
      rw [z] at q
      exact q
end
end My

namespace My
open PySem PySem.Spec PyProof.Rows L2 Gy Xl Xs Xt
theorem whole_idx (n : Int) (e : PyData) : isWhole 0 (n - 2) e = isIdx (n - 1) e := by
  cases e with
  | int i =>
    show (decide ((0 : Int) ≤ i) && decide (i ≤ n - 2)) = (decide ((0 : Int) ≤ i) && decide (i < n - 1))
    congr 1
    congr 1
    rw [eq_iff_iff]
    omega
  | _ => rfl
theorem whole_bit (e : PyData) : isWhole 0 1 e = isIdx 2 e := by
  have := whole_idx 3 e
  exact this
section
variable {P : Program} {w : World} {K : PySem.W.Frag} {mg : Str → Option Value} {base : Heap} {H : Hp}
def spIsRel (K : PySem.W.Frag) : Sp := fun vs H Q _ => ∃ (v c : V) (d e : PyData), vs = [v, c] ∧ Dn K H v d ∧ Dn K H c e ∧ sml d = true ∧ ∀ H', Same H H' → Q (.bl (isRel (.tuple [d, e]))) H'
theorem ok_isRel {f : Addr} {fd : FuncData} (F : Fun K "_law_is_relink" "_law_is_relink" s_law_is_relink f fd) (Y : Bn mg) (G_law_is_name : Fk P w K mg base CX0 1 "_law_is_name" ["_law_thing"] (spIsName K)) (G_law_is_whole : Fk P w K mg base CX0 1 "_law_is_whole" ["_law_thing", "_law_least", "_law_most"] (spWhole K)) :
    FnOk P w K mg base CX0 2 f fd ["_law_path_here", "_law_cut"] (spIsRel K) := by
  refine F.ok sc_law_is_relink (fun vs H Q E h => ?_) (fun cdv A outer s H vs Q E hr h => ?_)
  · obtain ⟨v, c, d, e, rfl, _⟩ := h
    rfl
  · obtain ⟨v, c0, d, e, rfl, dn, dc, sm, q⟩ := h
    refine ⟨_, (pss_cons (ps_if (PW.pt (pw_or (pt_not (pt_val (pe_callB call_isi (by rfl) Y.isinstance (by decide +kernel) (pa_cons (pv 0) (pa_cons (pe_bltn (v := .ty "tuple") (by rfl) Y.tuple (by decide +kernel) rfl) pa_nil))))) (pw_or (pt_cmpR op_lt (pe_callB call_len_seq (by rfl) Y.len PySem.boot_len (pa_cons (pv 0) pa_nil)) pe_int (nomark _)) (pw_or1 (pt_not (pt_val (pe_callB (cr_all rfl) (by rfl) Y.all (by decide +kernel) (pa_cons (pe_lc (own := [("_law_one", 2)]) (g := gName 2) (tt := tYes) rfl sc_law_is_relink.nd (pi_tup (pv 0)) (blkOk_by (N := ["_law_path_here", "_law_cut", "_law_one"]) (sc := defScope s_law_is_relink) (by decide +kernel)) (fun _ _ _ _ _ => (pg_name (i := 2) sc_law_is_relink.nd rfl (Or.inl rfl))) (fun _ _ _ _ _ => pts_nil) (fun _ _ _ _ _ => (pe_callF G_law_is_name (hr.mono (by decide)) (by rfl) pass0 (pa_cons (pv 2) pa_nil)))) pa_nil))))))))
 (pss_one (ps_ret pe_bl))
 pss_nil)
 (pss_one (ps_ret (pe_and (pe_cmpR op_eq (pe_lenTexts (by rfl) Y.len (by rfl) Y.set (pv 0)) (pe_callB call_len_seq (by rfl) Y.len PySem.boot_len (pa_cons (pv 0) pa_nil)) (nomark _)) (pe_one (pe_callF G_law_is_whole (hr.mono (by decide)) (by rfl) pass0 (pa_cons (pv 1) (pa_cons pe_int (pa_cons (pe_op op_sub (pe_callB call_len_seq (by rfl) Y.len PySem.boot_len (pa_cons (pv 0) pa_nil)) pe_int) pa_nil))))))))), ?_⟩
    rcases tup_or dn with ⟨a, xs, ds, rfl, rfl, ha, hd⟩ | ⟨no, t, ty, kt⟩
    · have sm2 : ds.length ≤ 14 ∧ smls ds = true := by simpa only [sml, Bool.and_eq_true, decide_eq_true_eq] using sm
      have el := Dns.len hd
      have eR : isRel (.tuple [.tuple ds, e]) = (isPath (.tuple ds) && isIdx ((ds.length : Int) - 1) e) := rfl
      rw [eR] at q
      refine ⟨_, rfl, _, _, _, _, true, rfl, .ty "tuple", ha.ty, kit_ty (by decide +kernel), _, rfl, iteF ?_⟩
      refine ⟨_, rfl, a, _, rfl, .inr (ha.sq), _, 3, rfl, rfl, _, rfl, ite2 (fun c => ?_) (fun c => ?_)⟩
      · have c' := of_decide_eq_true c
        have z : isPath (.tuple ds) = false := by
          rw [isPath_t]
          rw [decide_eq_false (show ¬ 3 ≤ ds.length by omega), Bool.false_and]
        rw [z, Bool.false_and] at q
        exact iteT (q _ (Same.refl _))
      · have c' : ¬ (xs.length : Int) < 3 := fun z => c (decide_eq_true z)
        refine ⟨_, rfl, a, rfl, ⟨_, ha.sq⟩, fun D hD => ?_⟩
        refine lc_it (walk_tup (K := K) (a := a) (xs := xs)) (fun i H' => Same H H' ∧ H' D = some (.lst (((ds.take i).map isHost).map V.bl))) ⟨same_upd hD, upd_same⟩ (fun i H' _ h => (ha.same h.1).sq) ?_ ?_
        · rintro i y H1 H2 hi ⟨s1, hL⟩ ⟨rfl, hy⟩
          obtain ⟨di, hdi, dni⟩ := Dns.get hd hy
          refine ⟨rfl, ?_⟩
          dsimp only [tYes]
          refine iteT ?_
          refine ⟨_, rfl, y, di, rfl, dni.same s1, smls_mem sm2.2 (List.mem_of_getElem? hdi), fun H3 s3 => ?_⟩
          refine ⟨_, s3 _ _ hL, ?_, same_upd2 (s1.trans s3) hD, ?_⟩
          · rw [List.length_map, List.length_map, List.length_take]
            exact small200 (by omega)
          · rw [upd_same, List.take_add_one, hdi, List.map_append, List.map_append]
            rfl
        · rintro H1 ⟨s1, hL⟩
          rw [el, List.take_of_length_le (Nat.le_refl _)] at hL
          refine ⟨D, _, rfl, SqL.of hL, _, rfl, ?_⟩
          rw [List.all_map]
          have e3 : ds.all (id ∘ isHost) = ds.all isHost := rfl
          rw [e3]
          cases c2 : ds.all isHost with
          | true =>
            refine iteF ?_
            have et := txts_all c2
            have ha1 := ha.same s1
            have ex : xs = (txts ds).map V.str := by
              rw [et] at hd
              exact Dns.txts hd
            have el2 : xs.length = (txts ds).length := by rw [ex, List.length_map]
            refine ⟨_, rfl, a, txts ds, rfl, (by rw [← ex]; exact ha1.sq), (by omega), _, rfl, a, _, rfl, .inr (ha1.sq), rfl, _, rfl, ?_⟩
            have z : isPath (.tuple ds) = decide (V.int ((numd (txts ds) (txts ds).length : Nat) : Int) = V.int (xs.length : Int)) := by
              rw [isPath_t]
              rw [c2, decide_eq_true (show 3 ≤ ds.length by omega), Bool.true_and, Bool.true_and]
              congr 1
              have nf := numd_full (txts ds) (txts ds).length (Nat.le_refl _)
              rw [List.take_of_length_le (Nat.le_refl _)] at nf
              rw [← nf, eq_iff_iff, el2]
              refine ⟨fun z => by rw [z], fun z => ?_⟩
              injection z with z
              omega
            rw [← z]
            refine ite2 (fun c3 => ?_) (fun c3 => ?_)
            · rw [c3, Bool.true_and] at q
              refine ⟨_, rfl, _, rfl, a, _, rfl, .inr ha1.sq, _, _, rfl, rfl, c0, 0, _, e, rfl, dc.same s1, ?_⟩
              rw [el, whole_idx]
              exact q _ s1
            · rw [Bool.eq_false_iff.mpr c3, Bool.false_and] at q
              exact q _ s1
          | false =>
            refine iteT ?_
            have z : isPath (.tuple ds) = false := by
              rw [isPath_t]
              rw [c2, Bool.false_and, Bool.and_false]
            rw [z, Bool.false_and] at q
            exact q _ s1
    · refine ⟨v, rfl, v, _, _, _, false, rfl, .ty "tuple", ty, kit_ty kt, _, rfl, ?_⟩
      refine iteT (iteT ?_)
      have z : isRel (.tuple [d, e]) = false := by
        cases d with
        | tuple ds => exact absurd rfl (no ds)
        | _ => rfl
      rw [z] at q
      exact q _ (Same.refl _)
def spEnt (K : PySem.W.Frag) : Sp := fun vs H Q _ => ∃ (v : V) (d : PyData), vs = [v] ∧ Dn K H v d ∧ sml d = true ∧ ∀ H', Same H H' → Q (.bl (isItem d)) H'
theorem ok_ent {f : Addr} {fd : FuncData} (F : Fun K "_law_is_entry" "_law_is_entry" s_law_is_entry f fd) (Y : Bn mg) (G_law_is_name : Fk P w K mg base CX0 1 "_law_is_name" ["_law_thing"] (spIsName K)) (G_law_is_word : Fk P w K mg base CX0 1 "_law_is_word" ["_law_thing"] (spIsWord K))
    (G_law_is_whole : Fk P w K mg base CX0 1 "_law_is_whole" ["_law_thing", "_law_least", "_law_most"] (spWhole K)) (G_law_is_relink : Fk P w K mg base CX0 2 "_law_is_relink" ["_law_path_here", "_law_cut"] (spIsRel K)) : FnOk P w K mg base CX0 3 f fd ["_law_thing"] (spEnt K) := by
  refine F.ok sc_law_is_entry (fun vs H Q E h => ?_) (fun cdv A outer s H vs Q E hr h => ?_)
  · obtain ⟨v, d, rfl, _⟩ := h
    rfl
  · obtain ⟨v, d, rfl, dn, sm, q⟩ := h
    have hu0 := Nat.lt_of_le_of_lt (Nat.le_add_right _ 64) hr.units
    refine ⟨_, (pss_cons (ps_if (PW.pt (pw_or (pt_not (pt_val (pe_callB call_isi (by rfl) Y.isinstance (by decide +kernel) (pa_cons (pv 0) (pa_cons (pe_bltn (v := .ty "tuple") (by rfl) Y.tuple (by decide +kernel) rfl) pa_nil))))) (pw_or1 (pt_cmpR (op_eqEmT hu0) (pv 0) (pe_tupZ pa_nil) (nomark _)))))
 (pss_one (ps_ret pe_bl))
 pss_nil)
 (pss_cons (ps_if (pt_cmpR (op_eqS hu0) (pe_ix ix_tup (pv 0) pe_int (fun _ _ => rfl)) pe_str (nomark _))
 (pss_cons (ps_if (PW.pt (pw_or (pt_cmpR op_ne (pe_callB call_len_seq (by rfl) Y.len PySem.boot_len (pa_cons (pv 0) pa_nil)) pe_int (nomark _)) (pw_or (pt_not (pt_val (pe_callF G_law_is_name (hr.mono (by decide)) (by rfl) pass0 (pa_cons (pe_ix ix_tup (pv 0) pe_int (fun _ _ => rfl)) pa_nil)))) (pw_or1 (pt_not (pt_val (pe_callF G_law_is_word (hr.mono (by decide)) (by rfl) pass0 (pa_cons (pe_ix ix_tup (pv 0) pe_int (fun _ _ => rfl)) pa_nil))))))))
 (pss_one (ps_ret pe_bl))
 pss_nil)
 (pss_one (ps_ret (pe_callF G_law_is_whole (hr.mono (by decide)) (by rfl) pass0 (pa_cons (pe_ix ix_tup (pv 0) pe_int (fun _ _ => rfl)) (pa_cons pe_int (pa_cons pe_int pa_nil)))))))
 pss_nil)
 (pss_cons (ps_if (pt_cmpR (op_eqS hu0) (pe_ix ix_tup (pv 0) pe_int (fun _ _ => rfl)) pe_str (nomark _))
 (pss_one (ps_ret (pe_cmpR op_eq (pe_callB call_len_seq (by rfl) Y.len PySem.boot_len (pa_cons (pv 0) pa_nil)) pe_int (nomark _))))
 pss_nil)
 (pss_cons (ps_if (PW.pt (pw_or (pt_not (pt_val (pe_callB call_isi (by rfl) Y.isinstance (by decide +kernel) (pa_cons (pe_ix ix_tup (pv 0) pe_int (fun _ _ => rfl)) (pa_cons (pe_bltn (v := .ty "str") (by rfl) Y.str (by decide +kernel) rfl) pa_nil))))) (pw_or1 (pt_cmpR op_notIn_seq (pe_ix ix_tup (pv 0) pe_int (fun _ _ => rfl)) (pe_tupZ (pa_cons pe_str (pa_cons pe_str (pa_cons pe_str (pa_cons pe_str (pa_cons pe_str pa_nil)))))) rfl))))
 (pss_one (ps_ret pe_bl))
 pss_nil)
 (pss_one (ps_ret (pe_and (pe_cmpR op_eq (pe_callB call_len_seq (by rfl) Y.len PySem.boot_len (pa_cons (pv 0) pa_nil)) pe_int (nomark _)) (pe_one (pe_callF G_law_is_relink (hr.mono (by decide)) (by rfl) pass0 (pa_cons (pe_ix ix_tup (pv 0) pe_int (fun _ _ => rfl)) (pa_cons (pe_ix ix_tup (pv 0) pe_int (fun _ _ => rfl)) pa_nil))))))))))), ?_⟩
    rcases tup_or dn with ⟨a, xs, ds, rfl, rfl, ha, hd⟩ | ⟨no, t, ty, kt⟩
    · have sm2 : ds.length ≤ 14 ∧ smls ds = true := by simpa only [sml, Bool.and_eq_true, decide_eq_true_eq] using sm
      refine ⟨_, rfl, _, _, _, _, true, rfl, .ty "tuple", ha.ty, kit_ty (by decide +kernel), _, rfl, iteF ?_⟩
      refine ⟨_, rfl, (by show 0 ≤ sizeLine; decide), fun t0 o0 n0 s0 z0 => ?_⟩
      refine ⟨a, t0, _, rfl, rfl, (ha.same s0).sq, z0.sq, _, rfl, ?_⟩
      generalize upd _ t0 o0 = H0 at s0 z0 ⊢
      cases hd with
      | nil =>
        refine iteT ?_
        exact q _ s0
      | @cons x xs d0 ds h0 hd =>
        refine iteF ?_
        have ha0 := ha.same s0
        have el1 := Dns.len hd
        have hd0 := hd.same s0
        have sp : smls ds = true := smls_tail sm2.2
        have lp : ds.length ≤ 13 := by have := sm2.1; rw [List.length_cons] at this; omega
        refine ⟨_, rfl, a, _, 0, x, rfl, rfl, ha0.sq, atI_nat (j := 0) rfl, d0, "message", rfl, h0.same s0, _, rfl, ?_⟩
        cases c1 : isTx "message" d0 with
        | true =>
          refine iteT ?_
          have e0 : d0 = .str "message" := by
            cases d0 with
            | str k =>
              have z := of_decide_eq_true c1
              injection z with z
              rw [z]
            | _ => cases c1
          subst e0
          have eI : isItem (.tuple (.str "message" :: ds)) = isMsg ds := rfl
          rw [eI] at q
          refine ⟨_, rfl, a, _, rfl, .inr ha0.sq, rfl, _, rfl, ite2 (fun c2 => ?_) (fun c2 => ?_)⟩
          · have c2' : ds.length ≠ 3 := fun z => by
              rw [decide_eq_true (show V.int ((x :: xs).length : Int) = V.int 4 by rw [List.length_cons, el1, z]; rfl)] at c2
              cases c2
            rw [isMsg_n c2'] at q
            exact iteT (q _ s0)
          · have c2' : xs.length = 3 := by
              have z : V.int ((x :: xs).length : Int) = V.int 4 := Decidable.of_not_not fun z => c2 (by rw [decide_eq_false z]; rfl)
              injection z with z
              rw [List.length_cons] at z
              omega
            obtain ⟨y1, y2, y3, rfl⟩ : ∃ x y z, xs = [x, y, z] := by
              match xs, c2' with
              | [x, y, z], _ => exact ⟨x, y, z, rfl⟩
            cases hd0 with
            | @cons _ _ d1 _ h1 hd0 =>
            cases hd0 with
            | @cons _ _ d2 _ h2 hd0 =>
            cases hd0 with
            | @cons _ _ d3 _ h3 hd0 =>
              cases hd0
              have m1 : sml d1 = true := smls_mem sp List.mem_cons_self
              have m2 : sml d2 = true := smls_mem sp (List.mem_cons_of_mem _ List.mem_cons_self)
              have eM : isMsg [d1, d2, d3] = (isHost d1 && (isWord d2 && isIdx 2 d3)) := rfl
              rw [eM] at q
              refine ⟨_, rfl, a, _, 1, y1, rfl, rfl, ha0.sq, atI_nat (j := 1) rfl, y1, d1, rfl, h1, m1, fun H1 s1 => ⟨_, rfl, ?_⟩⟩
              cases c3 : isHost d1 with
              | false =>
                rw [c3, Bool.false_and] at q
                exact iteT (iteT (q _ (s0.trans s1)))
              | true =>
                rw [c3, Bool.true_and] at q
                refine iteF ?_
                refine ⟨_, rfl, a, _, 2, y2, rfl, rfl, (ha0.same s1).sq, atI_nat (j := 2) rfl, y2, d2, rfl, h2.same s1, m2, fun H2 s2 => ⟨_, rfl, ?_⟩⟩
                have s12 := s1.trans s2
                cases c4 : isWord d2 with
                | false =>
                  rw [c4, Bool.false_and] at q
                  exact iteT (q _ (s0.trans s12))
                | true =>
                  rw [c4, Bool.true_and] at q
                  refine iteF ?_
                  refine ⟨_, rfl, a, _, 3, y3, rfl, rfl, (ha0.same s12).sq, atI_nat (j := 3) rfl, y3, 0, 1, d3, rfl, h3.same s12, ?_⟩
                  rw [whole_bit]
                  exact q _ (s0.trans s12)
        | false =>
          refine iteF ?_
          refine ⟨_, rfl, a, _, 0, x, rfl, rfl, ha0.sq, atI_nat (j := 0) rfl, d0, "bye", rfl, h0.same s0, _, rfl, ?_⟩
          cases c2 : isTx "bye" d0 with
          | true =>
            refine iteT ?_
            have e0 : d0 = .str "bye" := by
              cases d0 with
              | str k =>
                have z := of_decide_eq_true c2
                injection z with z
                rw [z]
              | _ => cases c2
            subst e0
            have eI : isItem (.tuple (.str "bye" :: ds)) = ds.isEmpty := rfl
            rw [eI] at q
            refine ⟨_, rfl, a, _, rfl, .inr ha0.sq, rfl, ?_⟩
            have z : decide (V.int ((x :: xs).length : Int) = V.int 1) = ds.isEmpty := by
              rw [List.length_cons, el1]
              cases ds with
              | nil => rfl
              | cons y ys =>
                refine decide_eq_false fun w => ?_
                injection w with w
                rw [List.length_cons] at w
                omega
            rw [z]
            exact q _ s0
          | false =>
            refine iteF ?_
            refine ⟨_, rfl, a, _, 0, x, rfl, rfl, ha0.sq, atI_nat (j := 0) rfl, ?_⟩
            rcases str_or (h0.same s0) with ⟨k, rfl, rfl⟩ | ⟨no, t, ty, kt⟩
            · refine ⟨_, _, _, _, true, rfl, .ty "str", .base (.str k), kit_ty (by decide +kernel), _, rfl, iteF ?_⟩
              have n1 : ¬ k = "message" := fun z => by
                subst z
                cases c1
              have n2 : ¬ k = "bye" := fun z => by
                subst z
                cases c2
              have eI : isItem (.tuple (.str k :: ds)) = (decide (k ∈ KINDS) && isRel (.tuple ds)) := by
                show (if k = "message" then isMsg ds else if k = "bye" then ds.isEmpty else decide (k ∈ KINDS) && isRel (.tuple ds)) = _
                rw [if_neg n1, if_neg n2]
              rw [eI] at q
              refine ⟨_, rfl, a, _, 0, _, rfl, rfl, ha0.sq, atI_nat (j := 0) rfl, (by show 5 ≤ sizeLine; decide), fun t5 o5 n5 s5 z5 => ?_⟩
              refine ⟨t5, _, rfl, .inr z5.sq, rfl, flat_strs KINDS, _, rfl, ?_⟩
              generalize upd _ t5 o5 = H5 at s5 z5 ⊢
              have ei : inV (.str k) (KINDS.map V.str) = decide (k ∈ KINDS) := inV_strs k KINDS
              have ei' : (if true = true then !inV (.str k) (KINDS.map V.str) else inV (.str k) (KINDS.map V.str)) = !decide (k ∈ KINDS) := by rw [if_pos rfl, ei]
              rw [show (if true = true then !inV (V.str k) [V.str "ask", V.str "no", V.str "yes", V.str "go", V.str "back"] else inV (V.str k) [V.str "ask", V.str "no", V.str "yes", V.str "go", V.str "back"]) = !decide (k ∈ KINDS) from ei']
              have s05 := s0.trans s5
              have ha5 := ha0.same s5
              cases c3 : decide (k ∈ KINDS) with
              | false =>
                rw [c3, Bool.false_and] at q
                exact iteT (q _ s05)
              | true =>
                rw [c3, Bool.true_and] at q
                refine iteF ?_
                refine ⟨_, rfl, a, _, rfl, .inr ha5.sq, rfl, _, rfl, ite2 (fun c4 => ?_) (fun c4 => ?_)⟩
                · have c4' : xs.length = 2 := by
                    have z := of_decide_eq_true c4
                    injection z with z
                    rw [List.length_cons] at z
                    omega
                  obtain ⟨y1, y2, rfl⟩ : ∃ x y, xs = [x, y] := by
                    match xs, c4' with
                    | [x, y], _ => exact ⟨x, y, rfl⟩
                  cases hd0 with
                  | @cons _ _ d1 _ h1 hd0 =>
                  cases hd0 with
                  | @cons _ _ d2 _ h2 hd0 =>
                    cases hd0
                    refine ⟨_, rfl, a, _, 1, y1, rfl, rfl, ha5.sq, atI_nat (j := 1) rfl, _, rfl, a, _, 2, y2, rfl, rfl, ha5.sq, atI_nat (j := 2) rfl, y1, y2, d1, d2, rfl, h1.same s5, h2.same s5, smls_mem sp List.mem_cons_self, fun H6 s6 => q _ (s05.trans s6)⟩
                · have c4' : ds.length ≠ 2 := fun z => by
                    refine c4 (decide_eq_true ?_)
                    rw [List.length_cons, el1, z]
                    rfl
                  rw [isRel_n c4'] at q
                  exact q _ s05
            · refine ⟨_, _, _, _, false, rfl, .ty "str", ty, kit_ty kt, _, rfl, iteT (iteT ?_)⟩
              have z : isItem (.tuple (d0 :: ds)) = false := by
                cases d0 with
                | str x => exact absurd rfl (no x)
                | _ => rfl
              rw [z] at q
              exact q _ s0
    · refine ⟨v, rfl, v, _, _, _, false, rfl, .ty "tuple", ty, kit_ty kt, _, rfl, ?_⟩
      refine iteT (iteT ?_)
      have z : isItem d = false := by
        cases d with
        | tuple ds => exact absurd rfl (no ds)
        | _ => rfl
      rw [z] at q
      exact q _ (Same.refl _)
end
end My

namespace My
open PySem PySem.Spec PyProof.Rows L2 Gy Xl Xs Xt
def oddD : List PyData := [.none, .bool true, .bool false, .int 0, .int 1, .int 2, .int (-1), .str "", .str "a", .str "A", .str "a b", .str "ninesigns", .str "0", .str "bye", .str "ask", .tuple [], .list [], .dict [], .tuple [.str "bye"], .list [.str "bye"], .tuple [.str "a"], .tuple [.str "a", .str "b", .str "c"], .list [.str "a", .str "b", .str "c"], .tuple [.str "a", .str "b"], .int (10 ^ 29), .str "thirteensigns", .str "a,b"]
theorem a0_tx {ws : List Str} (h : ∀ x ∈ ws, A0 (.str x)) : ∀ d ∈ ws.map PyData.str, A0 d := fun d hd => by
  obtain ⟨x, hx, rfl⟩ := List.mem_map.mp hd
  exact h x hx
theorem bd_leaf {x : Str} (h : (decide (x.length ≤ 20) && x.cps.toList.all fun c => decide (c < 0x110000)) = true := by decide +kernel) : Bd 0 20 (.str x) := by
  have a := a0_txt h
  rw [Bool.and_eq_true, decide_eq_true_eq] at h
  exact ⟨rfl, a.lf, Nat.zero_le _, h.1, decide_eq_true h.1, a.so⟩
theorem tup_ok {ds : List PyData} (h : ∀ d ∈ ds, Bd 0 20 d) (l : ds.length ≤ 3) : A0 (.tuple ds) ∧ PT 3 (.tuple ds) := by
  refine ⟨(Bd.tup h l (by decide)).mono (by decide) (by decide), fun qs z => ?_⟩
  injection z with z
  rw [← z]
  exact ⟨l, fun q hq => (h q hq).mono (by decide) (by decide)⟩
theorem oddD_ok : ∀ d ∈ oddD, A0 d ∧ PT 3 d := by
  intro d hd
  unfold oddD at hd
  simp only [List.mem_cons, List.not_mem_nil, or_false] at hd
  rcases hd with rfl | rfl | rfl | rfl | rfl | rfl | rfl | rfl | rfl | rfl | rfl | rfl | rfl | rfl | rfl | rfl | rfl | rfl | rfl | rfl | rfl | rfl | rfl | rfl | rfl | rfl | rfl
  · exact ⟨a0_non, fun _ z => nomatch z⟩
  · exact ⟨a0_bl, fun _ z => nomatch z⟩
  · exact ⟨a0_bl, fun _ z => nomatch z⟩
  · exact ⟨a0_int, fun _ z => nomatch z⟩
  · exact ⟨a0_int, fun _ z => nomatch z⟩
  · exact ⟨a0_int, fun _ z => nomatch z⟩
  · exact ⟨a0_int, fun _ z => nomatch z⟩
  · exact ⟨a0_txt, fun _ z => nomatch z⟩
  · exact ⟨a0_txt, fun _ z => nomatch z⟩
  · exact ⟨a0_txt, fun _ z => nomatch z⟩
  · exact ⟨a0_txt, fun _ z => nomatch z⟩
  · exact ⟨a0_txt, fun _ z => nomatch z⟩
  · exact ⟨a0_txt, fun _ z => nomatch z⟩
  · exact ⟨a0_txt, fun _ z => nomatch z⟩
  · exact ⟨a0_txt, fun _ z => nomatch z⟩
  · exact tup_ok (fun _ h => nomatch h) (by show 0 ≤ 3; decide)
  · exact ⟨(Bd.lst (L := 3) (ds := []) (n := 0) (W := 20) (fun _ h => nomatch h) (by show 0 ≤ 3; decide) (by decide)).mono (by decide) (by decide), fun _ z => nomatch z⟩
  · exact ⟨a0_dic, fun _ z => nomatch z⟩
  · exact tup_ok (fun x hx => by
      simp only [List.mem_cons, List.not_mem_nil, or_false] at hx
      rcases hx with rfl
      all_goals exact bd_leaf) (by show 1 ≤ 3; decide)
  · exact ⟨(Bd.lst (L := 3) (fun x hx => by
      simp only [List.mem_cons, List.not_mem_nil, or_false] at hx
      rcases hx with rfl
      all_goals exact bd_leaf) (by show 1 ≤ 3; decide) (by decide)).mono (by decide) (by decide), fun _ z => nomatch z⟩
  · exact tup_ok (fun x hx => by
      simp only [List.mem_cons, List.not_mem_nil, or_false] at hx
      rcases hx with rfl
      all_goals exact bd_leaf) (by show 1 ≤ 3; decide)
  · exact tup_ok (fun x hx => by
      simp only [List.mem_cons, List.not_mem_nil, or_false] at hx
      rcases hx with rfl | rfl | rfl
      all_goals exact bd_leaf) (by show 3 ≤ 3; decide)
  · exact ⟨(Bd.lst (L := 3) (fun x hx => by
      simp only [List.mem_cons, List.not_mem_nil, or_false] at hx
      rcases hx with rfl | rfl | rfl
      all_goals exact bd_leaf) (by show 3 ≤ 3; decide) (by decide)).mono (by decide) (by decide), fun _ z => nomatch z⟩
  · exact tup_ok (fun x hx => by
      simp only [List.mem_cons, List.not_mem_nil, or_false] at hx
      rcases hx with rfl | rfl
      all_goals exact bd_leaf) (by show 2 ≤ 3; decide)
  · exact ⟨a0_int, fun _ z => nomatch z⟩
  · exact ⟨a0_txt, fun _ z => nomatch z⟩
  · exact ⟨a0_txt, fun _ z => nomatch z⟩
section
variable {P : Program} {w : World} {K : PySem.W.Frag} {mg : Str → Option Value} {base : Heap} {H : Hp}
def spOdd (K : PySem.W.Frag) : Sp := fun vs H Q _ => ∃ r : Addr, vs = [.ref r] ∧ Rng H r ∧ ∀ H' v d, But r H H' → Rng H' r → Db K r H' v d → A0 d → PT 3 d → Q v H'
theorem ok_odd {f : Addr} {fd : FuncData} (F : Fun K "_law_odd" "_law_odd" s_law_odd f fd) (Y : Bn mg) (G_law_draw : Fk P w K mg base CX0 1 "_law_draw" ["_law_pot_here", "_law_many"] spDraw) : FnOk P w K mg base CX0 2 f fd ["_law_pot_here"] (spOdd K) := by
  refine F.ok sc_law_odd (fun vs H Q E h => ?_) (fun cdv A outer s H vs Q E hr h => ?_)
  · obtain ⟨r, rfl, _⟩ := h
    rfl
  · obtain ⟨r, rfl, R, q⟩ := h
    refine ⟨_, (pss_cons (ps_set (i := 1) sc_law_odd.nd rfl (.inl rfl) (pe_lst (pa_cons pe_non (pa_cons pe_bl (pa_cons pe_bl (pa_cons pe_int (pa_cons pe_int (pa_cons pe_int (pa_cons (pe_un un_neg pe_int) (pa_cons pe_str (pa_cons pe_str (pa_cons pe_str (pa_cons pe_str (pa_cons pe_str (pa_cons pe_str (pa_cons pe_str (pa_cons pe_str (pa_cons (pe_tupZ pa_nil) (pa_cons (pe_lst pa_nil) (pa_cons pe_dnewK (pa_cons (pe_tupZ (pa_cons pe_str pa_nil)) pa_nil)))))))))))))))))))))
 (pss_cons (ps_set (i := 1) sc_law_odd.nd rfl (.inl rfl) (pe_op op_cat (pv 1) (pe_lst (pa_cons (pe_lst (pa_cons pe_str pa_nil)) (pa_cons (pe_tupZ (pa_cons pe_str pa_nil)) (pa_cons (pe_tupZ (pa_cons pe_str (pa_cons pe_str (pa_cons pe_str pa_nil)))) (pa_cons (pe_lst (pa_cons pe_str (pa_cons pe_str (pa_cons pe_str pa_nil)))) (pa_cons (pe_tupZ (pa_cons pe_str (pa_cons pe_str pa_nil))) (pa_cons (pe_op op_pow pe_int pe_int) (pa_cons pe_str (pa_cons pe_str pa_nil)))))))))))
 (pss_one (ps_ret (pe_ix ix_list (pv 1) (pe_callF G_law_draw (hr.mono (by decide)) (by rfl) pass0 (pa_cons (pv 0) (pa_cons (pe_callB call_len_seq (by rfl) Y.len PySem.boot_len (pa_cons (pv 1) pa_nil)) pa_nil))) (fun _ _ => rfl)))))), ?_⟩
    have D : Dbs K r H [] [] := .nil
    have b0 : But r H H := But.of (Same.refl _)
    have D := D.app (.cons (.non) .nil)
    have D := D.app (.cons (.bl true) .nil)
    have D := D.app (.cons (.bl false) .nil)
    have D := D.app (.cons (.int 0) .nil)
    have D := D.app (.cons (.int 1) .nil)
    have D := D.app (.cons (.int 2) .nil)
    refine ⟨_, rfl, ?_⟩
    have D := D.app (.cons (.int (-1)) .nil)
    have D := D.app (.cons (.str "") .nil)
    have D := D.app (.cons (.str "a") .nil)
    have D := D.app (.cons (.str "A") .nil)
    have D := D.app (.cons (.str "a b") .nil)
    have D := D.app (.cons (.str "ninesigns") .nil)
    have D := D.app (.cons (.str "0") .nil)
    have D := D.app (.cons (.str "bye") .nil)
    have D := D.app (.cons (.str "ask") .nil)
    refine ⟨(by show 0 ≤ sizeLine; decide), fun t1 o1 n1 s1 z1 => ?_⟩
    have D := D.same s1
    have R := R.same s1
    have b0 := b0.trans (But.of s1)
    generalize upd _ t1 o1 = H1 at D R b0 z1  ⊢
    have D := D.app (.cons (.tup R z1 (.nil)) .nil)
    refine ⟨(by show 0 ≤ sizeLine; decide), fun l2 n2 => ?_⟩
    have ne2 := R.ne n2
    generalize hg : upd _ l2 _ = H2
    obtain ⟨s2, g2⟩ := upd_new hg n2
    clear hg
    have D := D.same s2
    have R := R.same s2
    have b0 := b0.trans (But.of s2)
    have D := D.app (.cons (.lst ne2 g2 (.nil)) .nil)
    refine fun l3 n3 => ?_
    have ne3 := R.ne n3
    generalize hg : upd _ l3 _ = H3
    obtain ⟨s3, g3⟩ := upd_new hg n3
    clear hg
    have D := D.same s3
    have R := R.same s3
    have b0 := b0.trans (But.of s3)
    have D := D.app (.cons (.dic ne3 g3) .nil)
    refine ⟨(by show 1 ≤ sizeLine; decide), fun t4 o4 n4 s4 z4 => ?_⟩
    have D := D.same s4
    have R := R.same s4
    have b0 := b0.trans (But.of s4)
    generalize upd _ t4 o4 = H4 at D R b0 z4  ⊢
    have D := D.app (.cons (.tup R z4 (.cons (.str _) (.nil))) .nil)
    refine ⟨(by show 19 ≤ sizeLine; decide), fun l5 n5 => ?_⟩
    have ne5 := R.ne n5
    generalize hg : upd _ l5 _ = H5
    obtain ⟨s5, g5⟩ := upd_new hg n5
    clear hg
    have D := D.same s5
    have R := R.same s5
    have b0 := b0.trans (But.of s5)
    have h1 := g5
    refine ⟨_, rfl, ?_⟩
    refine ⟨(by show 1 ≤ sizeLine; decide), fun l6 n6 => ?_⟩
    have ne6 := R.ne n6
    generalize hg : upd _ l6 _ = H6
    obtain ⟨s6, g6⟩ := upd_new hg n6
    clear hg
    have D := D.same s6
    have R := R.same s6
    have b0 := b0.trans (But.of s6)
    have h1 := s6 _ _ h1
    have D := D.app (.cons (.lst ne6 g6 (.cons (.str _) (.nil))) .nil)
    refine ⟨(by show 1 ≤ sizeLine; decide), fun t7 o7 n7 s7 z7 => ?_⟩
    have D := D.same s7
    have R := R.same s7
    have b0 := b0.trans (But.of s7)
    have h1 := s7 _ _ h1
    generalize upd _ t7 o7 = H7 at D R b0 z7 h1 ⊢
    have D := D.app (.cons (.tup R z7 (.cons (.str _) (.nil))) .nil)
    refine ⟨(by show 3 ≤ sizeLine; decide), fun t8 o8 n8 s8 z8 => ?_⟩
    have D := D.same s8
    have R := R.same s8
    have b0 := b0.trans (But.of s8)
    have h1 := s8 _ _ h1
    generalize upd _ t8 o8 = H8 at D R b0 z8 h1 ⊢
    have D := D.app (.cons (.tup R z8 (.cons (.str _) (.cons (.str _) (.cons (.str _) (.nil))))) .nil)
    refine ⟨(by show 3 ≤ sizeLine; decide), fun l9 n9 => ?_⟩
    have ne9 := R.ne n9
    generalize hg : upd _ l9 _ = H9
    obtain ⟨s9, g9⟩ := upd_new hg n9
    clear hg
    have D := D.same s9
    have R := R.same s9
    have b0 := b0.trans (But.of s9)
    have h1 := s9 _ _ h1
    have D := D.app (.cons (.lst ne9 g9 (.cons (.str _) (.cons (.str _) (.cons (.str _) (.nil))))) .nil)
    refine ⟨(by show 2 ≤ sizeLine; decide), fun t10 o10 n10 s10 z10 => ?_⟩
    have D := D.same s10
    have R := R.same s10
    have b0 := b0.trans (But.of s10)
    have h1 := s10 _ _ h1
    generalize upd _ t10 o10 = H10 at D R b0 z10 h1 ⊢
    have D := D.app (.cons (.tup R z10 (.cons (.str _) (.cons (.str _) (.nil)))) .nil)
    refine ⟨10, 29, rfl, rfl, ⟨by decide, by decide, by decide⟩, ?_⟩
    have D := D.app (.cons (.int (10 ^ 29)) .nil)
    have D := D.app (.cons (.str "thirteensigns") .nil)
    have D := D.app (.cons (.str "a,b") .nil)
    refine ⟨(by show 8 ≤ sizeLine; decide), fun l11 n11 => ?_⟩
    have ne11 := R.ne n11
    generalize hg : upd _ l11 _ = H11
    obtain ⟨s11, g11⟩ := upd_new hg n11
    clear hg
    have D := D.same s11
    have R := R.same s11
    have b0 := b0.trans (But.of s11)
    have h1 := s11 _ _ h1
    have h2 := g11
    refine ⟨l5, l11, _, _, rfl, rfl, h1, h2, (by show 27 ≤ sizeLine; decide), fun a3 n12 => ?_⟩
    have ne3 := R.ne n12
    generalize hg : upd _ a3 _ = H12
    obtain ⟨s12, h3⟩ := upd_new hg n12
    clear hg h1 h2
    have D := D.same s12
    have R := R.same s12
    have b0 := b0.trans (But.of s12)
    simp only [List.cons_append, List.nil_append] at D h3
    refine ⟨_, rfl, _, rfl, _, rfl, a3, _, rfl, .inl (SqL.of h3), r, _, rfl, R, (by show (0 : Int) < 27; decide), (by show (27 : Int) < 1180591620717411303424; decide), fun H' e b' R' e0 e1 => ?_⟩
    have h3 := b' _ _ ne3 h3
    obtain ⟨v, hv, mv⟩ := at_in e0 e1
    refine ⟨a3, _, e, v, rfl, rfl, SqL.of h3, hv, ?_⟩
    obtain ⟨d, md, dnd⟩ := (D.but b').mem mv
    obtain ⟨i1, i2⟩ := oddD_ok d md
    exact q H' v d (b0.trans b') R' dnd i1 i2
end
end My

namespace My
open PySem PySem.Spec PyProof.Rows L2 Gy Xl Xs Xt
theorem at_inL {H : Hp} {a : Addr} {xs : List V} {d n : Int} (h : H a = some (.lst xs)) (l : (xs.length : Int) = n) (h0 : 0 ≤ d) (h1 : d < n) : ∃ v, atI xs d = some v ∧ v ∈ xs := at_in h0 (by rw [l]; exact h1)
theorem cut_take (xs : List V) (n : Nat) : cutV xs none (some (n : Int)) = xs.take n := by
  unfold cutV
  rw [HT.sIx_none, HT.sIx_nat, List.drop_zero, Nat.sub_zero]
  by_cases h : n ≤ xs.length
  · rw [Nat.min_eq_left h]
  · rw [Nat.min_eq_right (by omega), List.take_of_length_le (Nat.le_refl _), List.take_of_length_le (by omega)]
theorem cut_drop (xs : List V) (n : Nat) : cutV xs (some (n : Int)) none = xs.drop n := by
  unfold cutV
  rw [HT.sIx_none, HT.sIx_nat]
  by_cases h : n ≤ xs.length
  · rw [Nat.min_eq_left h, List.take_of_length_le (by rw [List.length_drop]; exact Nat.le_refl _)]
  · rw [Nat.min_eq_right (by omega), Nat.sub_self, List.take_zero, List.drop_eq_nil_of_le (by omega)]
theorem cut_dropI (xs : List V) (n : Nat) : cutV xs (some ((n : Int) + 1)) none = xs.drop (n + 1) := cut_drop xs (n + 1)
theorem rcut_of {H : Hp} {a : Addr} {xs ys : List V} {lo hi : Option Int} {Q : VK} (z : Tz H a xs) (e : cutV xs lo hi = ys) (k : ∀ t H', Same H H' → Tz H' t ys → Q (.ref t) H') : NewT (cutV xs lo hi) H Q ∧ (cutV xs lo hi = xs → Q (.ref a) H) := by
  refine ⟨fun p o n s t => k p _ s ?_, fun w => k a H (Same.refl _) ?_⟩
  · rw [← e]
    exact t
  · rw [← e, w]
    exact z
theorem rot3 {A B C : Prop} (h : C ∧ A ∧ B) : A ∧ B ∧ C := ⟨h.2.1, h.2.2, h.1⟩
theorem sum_of {H : Hp} {a b : Addr} {xs ys : List V} {Q : VK} (z1 : Tz H a xs) (z2 : Tz H b ys) (k : ∀ t H', Same H H' → Tz H' t (xs ++ ys) → Q (.ref t) H') : NewT (xs ++ ys) H Q ∧ (xs = [] → Q (.ref b) H) ∧ (ys = [] → Q (.ref a) H) := by
  refine ⟨fun p o n s t => k p _ s t, fun w => k b H (Same.refl _) ?_, fun w => k a H (Same.refl _) ?_⟩
  · rw [w]
    exact z2
  · rw [w, List.append_nil]
    exact z1
def others (qs : List PyData) (at_ : Nat) (od do_ : PyData) : List PyData := [.list qs, .tuple (qs.take 2), .tuple (qs.take at_ ++ qs.drop (at_ + 1)), .tuple (qs.take at_ ++ [od] ++ qs.drop at_), .tuple qs.reverse, .tuple (qs.take at_ ++ [od] ++ qs.drop (at_ + 1)), .tuple (qs.take at_ ++ [do_] ++ qs.drop (at_ + 1))]
theorem other_ok {qs : List PyData} {at_ m : Nat} {od do_ : PyData} (qa : ∀ q ∈ qs, A0 q) (oa : A0 od) (da : A0 do_) (l1 : 1 ≤ qs.length) (lm : qs.length ≤ m) (m13 : m ≤ 13) (al : at_ < qs.length) : ∀ d ∈ others qs at_ od do_, Bd 2 1700 d ∧ PT (m + 1) d := by
  have tu : ∀ rs : List PyData, (∀ q ∈ rs, A0 q) → rs.length ≤ m + 1 → Bd 2 1700 (.tuple rs) ∧ PT (m + 1) (.tuple rs) := fun rs h l => by
    refine ⟨(Bd.tup h (show rs.length ≤ 14 by omega) (by decide)).mono (by decide) (by decide), fun us z => ?_⟩
    injection z with z
    rw [← z]
    exact ⟨l, h⟩
  have tk : ∀ k, ∀ q ∈ qs.take k, A0 q := fun k q hq => qa q (List.mem_of_mem_take hq)
  have dk : ∀ k, ∀ q ∈ qs.drop k, A0 q := fun k q hq => qa q (List.mem_of_mem_drop hq)
  intro d hd
  unfold others at hd
  simp only [List.mem_cons, List.not_mem_nil, or_false] at hd
  rcases hd with rfl | rfl | rfl | rfl | rfl | rfl | rfl
  · exact ⟨(Bd.lst qa (show qs.length ≤ 14 by omega) (by decide)).mono (by decide) (by decide), fun _ z => nomatch z⟩
  · exact tu _ (tk 2) (by rw [List.length_take]; omega)
  · refine tu _ (fun q hq => ?_) (by rw [List.length_append, List.length_take, List.length_drop]; omega)
    rcases List.mem_append.mp hq with hq | hq
    · exact tk _ q hq
    · exact dk _ q hq
  · refine tu _ (fun q hq => ?_) (by rw [List.length_append, List.length_append, List.length_take, List.length_drop, List.length_cons, List.length_nil]; omega)
    rcases List.mem_append.mp hq with hq | hq
    · rcases List.mem_append.mp hq with hq | hq
      · exact tk _ q hq
      · rw [List.mem_singleton.mp hq]
        exact oa
    · exact dk _ q hq
  · exact tu _ (fun q hq => qa q (List.mem_reverse.mp hq)) (by rw [List.length_reverse]; omega)
  · refine tu _ (fun q hq => ?_) (by rw [List.length_append, List.length_append, List.length_take, List.length_drop, List.length_cons, List.length_nil]; omega)
    rcases List.mem_append.mp hq with hq | hq
    · rcases List.mem_append.mp hq with hq | hq
      · exact tk _ q hq
      · rw [List.mem_singleton.mp hq]
        exact oa
    · exact dk _ q hq
  · refine tu _ (fun q hq => ?_) (by rw [List.length_append, List.length_append, List.length_take, List.length_drop, List.length_cons, List.length_nil]; omega)
    rcases List.mem_append.mp hq with hq | hq
    · rcases List.mem_append.mp hq with hq | hq
      · exact tk _ q hq
      · rw [List.mem_singleton.mp hq]
        exact da
    · exact dk _ q hq
section
variable {P : Program} {w : World} {K : PySem.W.Frag} {mg : Str → Option Value} {base : Heap} {H : Hp}
def spOther (K : PySem.W.Frag) : Sp := fun vs H Q _ => ∃ (r pa : Addr) (xs : List V) (qs : List PyData) (m : Nat), vs = [.ref r, .ref pa] ∧ Rng H r ∧ Tz H pa xs ∧ Dbs K r H xs qs ∧ 1 ≤ qs.length ∧ qs.length ≤ m ∧ m ≤ 13 ∧ (∀ q ∈ qs, A0 q) ∧
  ∀ H' v d, But r H H' → Rng H' r → Db K r H' v d → Bd 2 1700 d → PT (m + 1) d → Q v H'
theorem ok_other {f : Addr} {fd : FuncData} (F : Fun K "_law_other_path" "_law_other_path" s_law_other_path f fd) (Y : Bn mg) (G_law_draw : Fk P w K mg base CX0 1 "_law_draw" ["_law_pot_here", "_law_many"] spDraw) (G_law_odd : Fk P w K mg base CX0 2 "_law_odd" ["_law_pot_here"] (spOdd K)) :
    FnOk P w K mg base CX0 3 f fd ["_law_pot_here", "_law_path_here"] (spOther K) := by
  refine F.ok sc_law_other_path (fun vs H Q E h => ?_) (fun cdv A outer s H vs Q E hr h => ?_)
  · obtain ⟨r, pa, xs, qs, m, rfl, _⟩ := h
    rfl
  · obtain ⟨r, pa, xs, qs, m, rfl, R, pz, qd, l1, lm, m13, qa, q⟩ := h
    have xl := qd.len
    have b0 : But r H H := But.of (Same.refl _)
    refine ⟨_, (pss_cons (ps_set (i := 2) sc_law_other_path.nd rfl (.inl rfl) (pe_callF G_law_draw (hr.mono (by decide)) (by rfl) pass0 (pa_cons (pv 0) (pa_cons (pe_callB call_len_seq (by rfl) Y.len PySem.boot_len (pa_cons (pv 1) pa_nil)) pa_nil))))
 (pss_cons (ps_set (i := 3) sc_law_other_path.nd rfl (.inl rfl) (pe_ix ix_tup (pv 1) (pe_callF G_law_draw (hr.mono (by decide)) (by rfl) pass0 (pa_cons (pv 0) (pa_cons (pe_callB call_len_seq (by rfl) Y.len PySem.boot_len (pa_cons (pv 1) pa_nil)) pa_nil))) (fun _ _ => rfl)))
 (pss_cons (ps_set (i := 4) sc_law_other_path.nd rfl (.inl rfl) (pe_lst (pa_cons (pe_callTy call_list_of (by rfl) Y.list (by decide +kernel) (pa_cons (pv 1) pa_nil)) (pa_cons (pe_slice sl_cutA (pv 1) po_none (po_some pe_int)) (pa_cons (pe_op op_sum (pe_slice sl_cutA (pv 1) po_none (po_some (pv 2))) (pe_slice sl_cutA (pv 1) (po_some (pe_op op_add (pv 2) pe_int)) po_none)) (pa_cons (pe_op op_sum (pe_op op_sum (pe_slice sl_cutA (pv 1) po_none (po_some (pv 2))) (pe_tupZ (pa_cons (pv 3) pa_nil))) (pe_slice sl_cutA (pv 1) (po_some (pv 2)) po_none)) (pa_cons (pe_revT (pv 1)) pa_nil)))))))
 (pss_cons (ps_set (i := 4) sc_law_other_path.nd rfl (.inl rfl) (pe_op op_cat (pv 4) (pe_lst (pa_cons (pe_op op_sum (pe_op op_sum (pe_slice sl_cutA (pv 1) po_none (po_some (pv 2))) (pe_tupZ (pa_cons (pv 3) pa_nil))) (pe_slice sl_cutA (pv 1) (po_some (pe_op op_add (pv 2) pe_int)) po_none)) (pa_cons (pe_op op_sum (pe_op op_sum (pe_slice sl_cutA (pv 1) po_none (po_some (pv 2))) (pe_tupZ (pa_cons (pe_callF G_law_odd (hr.mono (by decide)) (by rfl) pass0 (pa_cons (pv 0) pa_nil)) pa_nil))) (pe_slice sl_cutA (pv 1) (po_some (pe_op op_add (pv 2) pe_int)) po_none)) pa_nil)))))
 (pss_one (ps_ret (pe_ix ix_list (pv 4) (pe_callF G_law_draw (hr.mono (by decide)) (by rfl) pass0 (pa_cons (pv 0) (pa_cons pe_int pa_nil))) (fun _ _ => rfl)))))))), ?_⟩
    refine ⟨_, rfl, _, rfl, pa, _, rfl, .inr pz.sq, ?_⟩
    refine ⟨r, _, rfl, R, (by omega), (by omega), fun H1 e1 b1 R1 f1 g1 => ?_⟩
    have pz := pz.but R b1
    have qd := qd.but b1
    have b0 := b0.trans b1
    have R := R1
    obtain ⟨at_, rfl⟩ := Int.eq_ofNat_of_zero_le f1
    have al : at_ < xs.length := by omega
    refine ⟨_, rfl, _, rfl, _, rfl, pa, _, rfl, .inr pz.sq, ?_⟩
    refine ⟨r, _, rfl, R, (by omega), (by omega), fun H2 e2 b2 R2 f2 g2 => ?_⟩
    have pz := pz.but R b2
    have qd := qd.but b2
    have b0 := b0.trans b2
    have R := R2
    obtain ⟨ov, hov, mov⟩ := at_in f2 g2
    refine ⟨pa, _, _, ov, rfl, rfl, pz.sq, hov, ?_⟩
    obtain ⟨od, mod_, odn⟩ := qd.mem mov
    have oa := qa od mod_
    clear hov mov mod_
    have D : Dbs K r H2 [] [] := .nil
    refine ⟨_, rfl, pa, _, rfl, .inr pz.sq, fun l3 n3 => ?_⟩
    have ne3 := R.ne n3
    generalize hg : upd _ l3 _ = H3
    obtain ⟨s3, g3⟩ := upd_new hg n3
    clear hg
    have pz := pz.same s3
    have qd := qd.same s3
    have R := R.same s3
    have b0 := b0.trans (But.of s3)
    have odn := odn.same s3
    have D := D.same s3
    have D := D.app (.cons (.lst ne3 g3 qd) .nil)
    refine ⟨_, rfl, _, rfl, pa, _, rfl, pz, And.symm (rcut_of pz (show cutV xs none (some (2 : Int)) = xs.take 2 from cut_take xs 2) fun t4 H4 s4 z4 => ?_)⟩
    have pz := pz.same s4
    have qd := qd.same s4
    have R := R.same s4
    have b0 := b0.trans (But.of s4)
    have odn := odn.same s4
    have D := D.same s4
    have D := D.app (.cons (.tup R z4 (qd.take 2)) .nil)
    -- without one
    refine ⟨_, rfl, _, rfl, _, rfl, pa, _, rfl, pz, And.symm (rcut_of pz (cut_take xs at_) fun t5 H5 s5 z5 => ?_)⟩
    have pz := pz.same s5
    have qd := qd.same s5
    have R := R.same s5
    have b0 := b0.trans (But.of s5)
    have odn := odn.same s5
    have D := D.same s5
    refine ⟨_, rfl, _, rfl, _, _, rfl, rfl, _, rfl, pa, _, rfl, pz, And.symm (rcut_of pz (cut_dropI xs at_) fun t6 H6 s6 z6 => ?_)⟩
    have pz := pz.same s6
    have qd := qd.same s6
    have R := R.same s6
    have b0 := b0.trans (But.of s6)
    have odn := odn.same s6
    have D := D.same s6
    have z5 := z5.same s6
    refine ⟨t5, t6, _, _, rfl, rfl, z5, z6, (by simp only [List.length_append, List.length_take, List.length_drop, List.length_cons, List.length_nil]; exact le200 (by omega)), rot3 (sum_of z5 z6 fun t7 H7 s7 z7 => ?_)⟩
    have pz := pz.same s7
    have qd := qd.same s7
    have R := R.same s7
    have b0 := b0.trans (But.of s7)
    have odn := odn.same s7
    have D := D.same s7
    have z5 := z5.same s7
    have z6 := z6.same s7
    have D := D.app (.cons (.tup R z7 ((qd.take at_).app (qd.drop (at_ + 1)))) .nil)
    refine ⟨_, rfl, _, rfl, _, rfl, pa, _, rfl, pz, And.symm (rcut_of pz (cut_take xs at_) fun t8 H8 s8 z8 => ?_)⟩
    have pz := pz.same s8
    have qd := qd.same s8
    have R := R.same s8
    have b0 := b0.trans (But.of s8)
    have odn := odn.same s8
    have D := D.same s8
    refine ⟨_, rfl, (by show 1 ≤ sizeLine; decide), fun t9 o9 n9 s9 z9 => ?_⟩
    generalize upd _ t9 o9 = H9 at s9 z9 ⊢
    have pz := pz.same s9
    have qd := qd.same s9
    have R := R.same s9
    have b0 := b0.trans (But.of s9)
    have odn := odn.same s9
    have D := D.same s9
    have z8 := z8.same s9
    refine ⟨t8, t9, _, _, rfl, rfl, z8, z9, (by simp only [List.length_append, List.length_take, List.length_drop, List.length_cons, List.length_nil]; exact le200 (by omega)), rot3 (sum_of z8 z9 fun t10 H10 s10 z10 => ?_)⟩
    have pz := pz.same s10
    have qd := qd.same s10
    have R := R.same s10
    have b0 := b0.trans (But.of s10)
    have odn := odn.same s10
    have D := D.same s10
    have z8 := z8.same s10
    have z9 := z9.same s10
    refine ⟨_, rfl, _, rfl, _, rfl, pa, _, rfl, pz, And.symm (rcut_of pz (cut_drop xs at_) fun t11 H11 s11 z11 => ?_)⟩
    have pz := pz.same s11
    have qd := qd.same s11
    have R := R.same s11
    have b0 := b0.trans (But.of s11)
    have odn := odn.same s11
    have D := D.same s11
    have z10 := z10.same s11
    refine ⟨t10, t11, _, _, rfl, rfl, z10, z11, (by simp only [List.length_append, List.length_take, List.length_drop, List.length_cons, List.length_nil]; exact le200 (by omega)), rot3 (sum_of z10 z11 fun t12 H12 s12 z12 => ?_)⟩
    have pz := pz.same s12
    have qd := qd.same s12
    have R := R.same s12
    have b0 := b0.trans (But.of s12)
    have odn := odn.same s12
    have D := D.same s12
    have z10 := z10.same s12
    have z11 := z11.same s12
    have D := D.app (.cons (.tup R z12 (((qd.take at_).app (.cons odn .nil)).app (qd.drop at_))) .nil)
    refine ⟨_, rfl, pa, _, rfl, pz.sq, fun t13 o13 n13 s13 z13 => ?_⟩
    generalize upd _ t13 o13 = H13 at s13 z13 ⊢
    have pz := pz.same s13
    have qd := qd.same s13
    have R := R.same s13
    have b0 := b0.trans (But.of s13)
    have odn := odn.same s13
    have D := D.same s13
    have D := D.app (.cons (.tup R z13 qd.rev) .nil)
    refine ⟨(by show 5 ≤ sizeLine; decide), fun m1 n14 => ?_⟩
    have nm1 := R.ne n14
    generalize hg : upd _ m1 _ = H14
    obtain ⟨s14, h1⟩ := upd_new hg n14
    clear hg
    have pz := pz.same s14
    have qd := qd.same s14
    have R := R.same s14
    have b0 := b0.trans (But.of s14)
    have odn := odn.same s14
    have D := D.same s14
    refine ⟨_, rfl, ?_⟩
    refine ⟨_, rfl, _, rfl, _, rfl, pa, _, rfl, pz, And.symm (rcut_of pz (cut_take xs at_) fun t15 H15 s15 z15 => ?_)⟩
    have pz := pz.same s15
    have qd := qd.same s15
    have R := R.same s15
    have b0 := b0.trans (But.of s15)
    have odn := odn.same s15
    have D := D.same s15
    have h1 := s15 _ _ h1
    refine ⟨_, rfl, (by show 1 ≤ sizeLine; decide), fun t16 o16 n16 s16 z16 => ?_⟩
    generalize upd _ t16 o16 = H16 at s16 z16 ⊢
    have pz := pz.same s16
    have qd := qd.same s16
    have R := R.same s16
    have b0 := b0.trans (But.of s16)
    have odn := odn.same s16
    have D := D.same s16
    have h1 := s16 _ _ h1
    have z15 := z15.same s16
    refine ⟨t15, t16, _, _, rfl, rfl, z15, z16, (by simp only [List.length_append, List.length_take, List.length_drop, List.length_cons, List.length_nil]; exact le200 (by omega)), rot3 (sum_of z15 z16 fun t17 H17 s17 z17 => ?_)⟩
    have pz := pz.same s17
    have qd := qd.same s17
    have R := R.same s17
    have b0 := b0.trans (But.of s17)
    have odn := odn.same s17
    have D := D.same s17
    have h1 := s17 _ _ h1
    have z15 := z15.same s17
    have z16 := z16.same s17
    refine ⟨_, rfl, _, rfl, _, _, rfl, rfl, _, rfl, pa, _, rfl, pz, And.symm (rcut_of pz (cut_dropI xs at_) fun t18 H18 s18 z18 => ?_)⟩
    have pz := pz.same s18
    have qd := qd.same s18
    have R := R.same s18
    have b0 := b0.trans (But.of s18)
    have odn := odn.same s18
    have D := D.same s18
    have h1 := s18 _ _ h1
    have z17 := z17.same s18
    refine ⟨t17, t18, _, _, rfl, rfl, z17, z18, (by simp only [List.length_append, List.length_take, List.length_drop, List.length_cons, List.length_nil]; exact le200 (by omega)), rot3 (sum_of z17 z18 fun t19 H19 s19 z19 => ?_)⟩
    have pz := pz.same s19
    have qd := qd.same s19
    have R := R.same s19
    have b0 := b0.trans (But.of s19)
    have odn := odn.same s19
    have D := D.same s19
    have h1 := s19 _ _ h1
    have z17 := z17.same s19
    have z18 := z18.same s19
    have D := D.app (.cons (.tup R z19 (((qd.take at_).app (.cons odn .nil)).app (qd.drop (at_ + 1)))) .nil)
    refine ⟨_, rfl, _, rfl, _, rfl, pa, _, rfl, pz, And.symm (rcut_of pz (cut_take xs at_) fun t20 H20 s20 z20 => ?_)⟩
    have pz := pz.same s20
    have qd := qd.same s20
    have R := R.same s20
    have b0 := b0.trans (But.of s20)
    have odn := odn.same s20
    have D := D.same s20
    have h1 := s20 _ _ h1
    refine ⟨_, rfl, r, rfl, R, fun HO vo do_ bo RO don doa dop => ?_⟩
    have pz := pz.but R bo
    have qd := qd.but bo
    have b0 := b0.trans bo
    have odn := odn.but bo
    have D := D.but bo
    have h1 := bo _ _ nm1 h1
    have z20 := z20.but R bo
    have R := RO
    refine ⟨(by show 1 ≤ sizeLine; decide), fun t21 o21 n21 s21 z21 => ?_⟩
    generalize upd _ t21 o21 = H21 at s21 z21 ⊢
    have pz := pz.same s21
    have qd := qd.same s21
    have R := R.same s21
    have b0 := b0.trans (But.of s21)
    have odn := odn.same s21
    have D := D.same s21
    have h1 := s21 _ _ h1
    have z20 := z20.same s21
    have don := don.same s21
    refine ⟨t20, t21, _, _, rfl, rfl, z20, z21, (by simp only [List.length_append, List.length_take, List.length_drop, List.length_cons, List.length_nil]; exact le200 (by omega)), rot3 (sum_of z20 z21 fun t22 H22 s22 z22 => ?_)⟩
    have pz := pz.same s22
    have qd := qd.same s22
    have R := R.same s22
    have b0 := b0.trans (But.of s22)
    have odn := odn.same s22
    have D := D.same s22
    have h1 := s22 _ _ h1
    have z20 := z20.same s22
    have don := don.same s22
    have z21 := z21.same s22
    refine ⟨_, rfl, _, rfl, _, _, rfl, rfl, _, rfl, pa, _, rfl, pz, And.symm (rcut_of pz (cut_dropI xs at_) fun t23 H23 s23 z23 => ?_)⟩
    have pz := pz.same s23
    have qd := qd.same s23
    have R := R.same s23
    have b0 := b0.trans (But.of s23)
    have odn := odn.same s23
    have D := D.same s23
    have h1 := s23 _ _ h1
    have don := don.same s23
    have z22 := z22.same s23
    refine ⟨t22, t23, _, _, rfl, rfl, z22, z23, (by simp only [List.length_append, List.length_take, List.length_drop, List.length_cons, List.length_nil]; exact le200 (by omega)), rot3 (sum_of z22 z23 fun t24 H24 s24 z24 => ?_)⟩
    have pz := pz.same s24
    have qd := qd.same s24
    have R := R.same s24
    have b0 := b0.trans (But.of s24)
    have odn := odn.same s24
    have D := D.same s24
    have h1 := s24 _ _ h1
    have don := don.same s24
    have z22 := z22.same s24
    have z23 := z23.same s24
    have D := D.app (.cons (.tup R z24 (((qd.take at_).app (.cons don .nil)).app (qd.drop (at_ + 1)))) .nil)
    refine ⟨(by show 2 ≤ sizeLine; decide), fun m2 n25 => ?_⟩
    generalize hg : upd _ m2 _ = H25
    obtain ⟨s25, h2⟩ := upd_new hg n25
    clear hg
    have pz := pz.same s25
    have qd := qd.same s25
    have R := R.same s25
    have b0 := b0.trans (But.of s25)
    have odn := odn.same s25
    have D := D.same s25
    have h1 := s25 _ _ h1
    have don := don.same s25
    refine ⟨m1, m2, _, _, rfl, rfl, h1, h2, (by show 7 ≤ sizeLine; decide), fun a3 n26 => ?_⟩
    have ne3 := R.ne n26
    generalize hg : upd _ a3 _ = H26
    obtain ⟨s26, h3⟩ := upd_new hg n26
    clear hg h1 h2
    have pz := pz.same s26
    have qd := qd.same s26
    have R := R.same s26
    have b0 := b0.trans (But.of s26)
    have odn := odn.same s26
    have D := D.same s26
    have don := don.same s26
    simp only [List.cons_append, List.nil_append] at D h3
    refine ⟨_, rfl, _, rfl, ?_⟩
    refine ⟨r, _, rfl, R, (by decide), (by decide), fun H27 e27 b27 R27 f27 g27 => ?_⟩
    have pz := pz.but R b27
    have qd := qd.but b27
    have b0 := b0.trans b27
    have odn := odn.but b27
    have D := D.but b27
    have don := don.but b27
    have h3 := b27 _ _ ne3 h3
    have R := R27
    obtain ⟨v, hv, mv⟩ := at_inL h3 rfl f27 g27
    refine ⟨a3, _, _, v, rfl, rfl, SqL.of h3, hv, ?_⟩
    obtain ⟨d, md, dnd⟩ := D.mem mv
    obtain ⟨i1, i2⟩ := other_ok qa oa doa l1 lm m13 (by omega) d md
    exact q _ v d b0 R dnd i1 i2
end
end My

namespace My
open PySem PySem.Spec PyProof.Rows L2 Gy Xl Xs Xt
theorem cut_last (xs : List V) (h : 1 ≤ xs.length) : cutV xs none (some (-1)) = xs.take (xs.length - 1) := by
  unfold cutV
  rw [HT.sIx_none, List.drop_zero, Nat.sub_zero]
  congr 1
  show (if (-1 : Int) < 0 then ((-1 : Int) + (xs.length : Int)).toNat else min (-1 : Int).toNat xs.length) = _
  rw [if_pos (by decide)]
  omega
theorem PT.up {m : Nat} {p : PyData} (h : PT m p) : PT (m + 1) p := fun qs z => ⟨Nat.le_succ_of_le (h qs z).1, (h qs z).2⟩
theorem pt_flat {m : Nat} {p : PyData} (h : p.depth = 0) : PT m p := fun qs z => by
  rw [z] at h
  have : PyData.depthAll qs + 1 = 0 := h
  omega
theorem op_pt {m : Nat} {d : PyData} (h : PT 3 d) (a : A0 d) (m3 : 3 ≤ m := by omega) : PT (m + 1) d := fun qs z => ⟨by have := (h qs z).1; omega, (h qs z).2⟩
theorem mem2 {p : PyData → Prop} {xs ys : List PyData} (h1 : ∀ d ∈ xs, p d) (h2 : ∀ d ∈ ys, p d) : ∀ d ∈ xs ++ ys, p d := fun d hd => by
  rcases List.mem_append.mp hd with hd | hd
  · exact h1 d hd
  · exact h2 d hd
theorem tail_app {p : PyData} : ∀ {a b : List PyData}, p ∈ (a ++ b).tail → p ∈ a.tail ∨ p ∈ b
  | [], b, h => .inr (List.mem_of_mem_tail h)
  | x :: a, b, h => List.mem_append.mp (show p ∈ a ++ b from h)
theorem tail_of_take {p : PyData} {ds : List PyData} {k : Nat} (h : p ∈ (ds.take k).tail) : p ∈ ds.tail := by
  cases ds with
  | nil =>
    rw [List.take_nil] at h
    exact h
  | cons d ds =>
    cases k with
    | zero => cases h
    | succ k => exact List.mem_of_mem_take (show p ∈ ds.take k from h)
theorem tail_of_drop {p : PyData} {ds : List PyData} {k : Nat} (h : p ∈ ds.drop (k + 1)) : p ∈ ds.tail := by
  cases ds with
  | nil => cases h
  | cons d ds => exact List.mem_of_mem_drop (show p ∈ ds.drop k from h)
theorem tail_without {p : PyData} {ds : List PyData} {k : Nat} (h : p ∈ (ds.take k ++ ds.drop (k + 1)).tail) : p ∈ ds.tail := by
  rcases tail_app h with h | h
  · exact tail_of_take h
  · exact tail_of_drop h
theorem drop1_tail {p w : PyData} {ds : List PyData} (h : p ∈ ([w] ++ ds.drop 1).tail) : p ∈ ds.tail := tail_of_drop (k := 0) (show p ∈ ds.drop 1 from h)
theorem tail_snoc {m : Nat} {ds : List PyData} {o : PyData} (tl : ∀ p ∈ ds.tail, PT m p) (h : PT (m + 1) o) : ∀ p ∈ (ds ++ [o]).tail, PT (m + 1) p := fun p hp => by
  rcases tail_app hp with hp | hp
  · exact (tl p hp).up
  · rw [List.mem_singleton.mp hp]
    exact h
theorem tail_take {m k : Nat} {ds : List PyData} {o : PyData} (tl : ∀ p ∈ ds.tail, PT m p) (h : PT (m + 1) o) : ∀ p ∈ (ds.take k ++ [o]).tail, PT (m + 1) p := fun p hp => by
  rcases tail_app hp with hp | hp
  · exact (tl p (tail_of_take hp)).up
  · rw [List.mem_singleton.mp hp]
    exact h
theorem tail_put {m k : Nat} {ds : List PyData} {o : PyData} (tl : ∀ p ∈ ds.tail, PT m p) (h : PT (m + 1) o) : ∀ p ∈ (ds.take k ++ [o] ++ ds.drop (k + 1)).tail, PT (m + 1) p := fun p hp => by
  rcases tail_app hp with hp | hp
  · exact tail_take tl h p hp
  · exact (tl p (tail_of_drop hp)).up
/-- what comes of a spoilt entry -/
structure Out (n W L m : Nat) (d : PyData) : Prop where
  bd : Bd (n + 2) ((L + 1) * (L * (W + 1) + 1)) d
  tu : ∀ ds, d = .tuple ds → ds.length ≤ L + 1 ∧ (∀ p ∈ ds, Bd (n + 1) (L * (W + 1)) p) ∧ ∀ p ∈ ds.tail, PT (m + 1) p
theorem szs_ok {s m : Nat} (h : s ≤ 14) (m1 : 1 ≤ m) : ∀ d ∈ ([.int ((s : Int) - 1), .int ((s : Int) - 2), .bool true, .bool false, .int (-1), .int 2, .str "0", .none, .list [.int 0]] : List PyData), A0 d ∧ PT (m + 1) d := by
  have z : ∀ t : Fin 15, ((decide ((PyData.shown (.int ((t.val : Int) - 1))).length ≤ 40) && decide (((t.val : Int) - 1).natAbs.log2 < 110)) = true) ∧ ((decide ((PyData.shown (.int ((t.val : Int) - 2))).length ≤ 40) && decide (((t.val : Int) - 2).natAbs.log2 < 110)) = true) := by decide +kernel
  intro d hd
  simp only [List.mem_cons, List.not_mem_nil, or_false] at hd
  rcases hd with rfl | rfl | rfl | rfl | rfl | rfl | rfl | rfl | rfl
  · exact ⟨a0_int (z ⟨s, by omega⟩).1, fun _ z => nomatch z⟩
  · exact ⟨a0_int (z ⟨s, by omega⟩).2, fun _ z => nomatch z⟩
  · exact ⟨a0_bl, fun _ z => nomatch z⟩
  · exact ⟨a0_bl, fun _ z => nomatch z⟩
  · exact ⟨a0_int, fun _ z => nomatch z⟩
  · exact ⟨a0_int, fun _ z => nomatch z⟩
  · exact ⟨a0_txt, fun _ z => nomatch z⟩
  · exact ⟨a0_non, fun _ z => nomatch z⟩
  · refine ⟨(Bd.lst (L := 1) (n := 0) (W := 10) (fun x hx => ?_) (by show 1 ≤ 1; decide) (by decide)).mono (by decide) (by decide), fun _ z => nomatch z⟩
    rw [List.mem_singleton.mp hx]
    exact ⟨by decide +kernel, by decide +kernel, by decide, by decide, rfl, rfl⟩
section
variable {P : Program} {w : World} {K : PySem.W.Frag} {mg : Str → Option Value} {base : Heap} {H : Hp} {r : Addr}
theorem db_tup {a : Addr} {ps : List PyData} (h : Db K r H (.ref a) (.tuple ps)) : ∃ us, Tz H a us ∧ Dbs K r H us ps := by
  cases h with
  | tup z t => exact ⟨_, z.same (wo_same r H), t⟩
theorem three {y0 y1 y2 : V} {p0 p1 p2 : PyData} (h : Dbs K r H [y0, y1, y2] [p0, p1, p2]) : Db K r H y0 p0 ∧ Db K r H y1 p1 ∧ Db K r H y2 p2 := by
  cases h with
  | cons a t =>
    cases t with
    | cons b t =>
      cases t with
      | cons c t => exact ⟨a, b, c⟩
theorem take_last {xs : List V} {ds : List PyData} (h : Dbs K r H xs ds) : Dbs K r H (xs.take (xs.length - 1)) (ds.take (ds.length - 1)) := by
  rw [h.len]
  exact h.take _
def spSpoil (K : PySem.W.Frag) : Sp := fun vs H Q _ => ∃ (r ta : Addr) (xs : List V) (ds : List PyData) (n W L m : Nat), vs = [.ref r, .ref ta] ∧ Rng H r ∧ Tz H ta xs ∧ Dbs K r H xs ds ∧ 1 ≤ ds.length ∧ ds.length ≤ L ∧ 4 ≤ L ∧ L ≤ 5 ∧ 3 ≤ m ∧ m ≤ 13 ∧ 2 ≤ n ∧ 1700 ≤ W ∧
  (∀ p ∈ ds, Bd n W p) ∧ (∀ p ∈ ds.tail, PT m p) ∧ ∀ H' v d, But r H H' → Rng H' r → Db K r H' v d → Out n W L m d → Q v H'
theorem ok_spoil {f : Addr} {fd : FuncData} (F : Fun K "_law_spoilt" "_law_spoilt" s_law_spoilt f fd) (Y : Bn mg) (G_law_draw : Fk P w K mg base CX0 1 "_law_draw" ["_law_pot_here", "_law_many"] spDraw) (G_law_odd : Fk P w K mg base CX0 2 "_law_odd" ["_law_pot_here"] (spOdd K))
    (G_law_other_path : Fk P w K mg base CX0 3 "_law_other_path" ["_law_pot_here", "_law_path_here"] (spOther K)) : FnOk P w K mg base CX0 4 f fd ["_law_pot_here", "_law_entry_here"] (spSpoil K) := by
  refine F.ok sc_law_spoilt (fun vs H Q E h => ?_) (fun cdv A outer s H vs Q E hr h => ?_)
  · obtain ⟨r, ta, xs, ds, n, W, L, m, rfl, _⟩ := h
    rfl
  · obtain ⟨r, ta, xs, ds, n, W, L, m, rfl, R, tz, qd, l1, lL, L4, L5, m3, m13, n2, W17, bd, tl, q⟩ := h
    have hu0 := Nat.lt_of_le_of_lt (Nat.le_add_right _ 64) hr.units
    have xl := qd.len
    have b0 : But r H H := But.of (Same.refl _)
    have WL : W + 1 ≤ L * (W + 1) := Nat.le_mul_of_pos_left _ (by omega)
    have up : ∀ p ∈ ds, Bd (n + 1) (L * (W + 1)) p := fun p hp => (bd p hp).mono (by omega) (by omega)
    have sm : ∀ {d : PyData}, A0 d → Bd (n + 1) (L * (W + 1)) d := fun h => h.mono (by omega) (by omega)
    have o_tup : ∀ {rs : List PyData}, rs.length ≤ L + 1 → (∀ p ∈ rs, Bd (n + 1) (L * (W + 1)) p) → (∀ p ∈ rs.tail, PT (m + 1) p) → Out n W L m (.tuple rs) := fun l h t => ⟨Bd.tup h l (by omega), fun ds' z => by
      injection z with z
      rw [← z]
      exact ⟨l, h, t⟩⟩
    have o_list : Out n W L m (.list ds) := ⟨Bd.lst up (by omega) (by omega), fun _ z => nomatch z⟩
    have o_wrap : Out n W L m (.tuple [.tuple ds]) := o_tup (by show 1 ≤ L + 1; omega) (fun p hp => by
      rw [List.mem_singleton.mp hp]
      exact Bd.tup bd lL (by omega)) (fun p hp => nomatch hp)
    have o_same : Out n W L m (.tuple ds) := o_tup (by omega) up (fun p hp => (tl p hp).up)
    have o_odd : ∀ {d : PyData}, A0 d → PT 3 d → Out n W L m d := fun {d} a p => ⟨a.mono (by omega) (by
      have : L * (W + 1) + 1 ≤ (L + 1) * (L * (W + 1) + 1) := Nat.le_mul_of_pos_left _ (by omega)
      omega), fun ds' z => by
      subst z
      obtain ⟨p1, p2⟩ := p ds' rfl
      refine ⟨by omega, fun q hq => sm (p2 q hq), fun q hq => pt_flat ?_⟩
      have dp : PyData.depthAll ds' + 1 ≤ 1 := a.dp
      have mx : ∀ {es : List PyData} {e : PyData}, e ∈ es → e.depth ≤ PyData.depthAll es := by
        intro es
        induction es with
        | nil => intro e he; cases he
        | cons x xs ih =>
          intro e he
          show e.depth ≤ max x.depth (PyData.depthAll xs)
          rcases List.mem_cons.mp he with rfl | he
          · omega
          · have := ih he
            omega
      have := mx (List.mem_of_mem_tail hq)
      omega⟩
    have tail_sub : ∀ {rs : List PyData}, (∀ p ∈ rs.tail, p ∈ ds.tail) → ∀ p ∈ rs.tail, PT (m + 1) p := fun h p hp => (tl p (h p hp)).up
    refine ⟨_, (pss_cons (ps_par (i := 2) (j := 3) (by rfl) sc_law_spoilt.nd rfl rfl (by decide) rfl rfl (pa_cons (pe_callF G_law_draw (hr.mono (by decide)) (by rfl) pass0 (pa_cons (pv 0) (pa_cons pe_int pa_nil))) (pa_cons (pe_callF G_law_draw (hr.mono (by decide)) (by rfl) pass0 (pa_cons (pv 0) (pa_cons (pe_callB call_len_seq (by rfl) Y.len PySem.boot_len (pa_cons (pv 1) pa_nil)) pa_nil))) pa_nil)) (by rfl))
 (pss_cons (ps_if (pt_cmpR op_eq (pv 2) pe_int (nomark _))
 (pss_one (ps_ret (pe_ix ix_list (pe_lst (pa_cons (pe_callTy call_list_of (by rfl) Y.list (by decide +kernel) (pa_cons (pv 1) pa_nil)) (pa_cons (pe_op op_sum (pv 1) (pe_tupZ (pa_cons (pe_callF G_law_odd (hr.mono (by decide)) (by rfl) pass0 (pa_cons (pv 0) pa_nil)) pa_nil))) (pa_cons (pe_op op_sum (pe_slice sl_cutA (pv 1) po_none (po_some (pv 3))) (pe_slice sl_cutA (pv 1) (po_some (pe_op op_add (pv 3) pe_int)) po_none)) (pa_cons (pe_tupZ (pa_cons (pv 1) pa_nil)) pa_nil))))) (pe_callF G_law_draw (hr.mono (by decide)) (by rfl) pass0 (pa_cons (pv 0) (pa_cons pe_int pa_nil))) (fun _ _ => rfl))))
 pss_nil)
 (pss_cons (ps_if (pt_cmpR op_eq (pv 2) pe_int (nomark _))
 (pss_one (ps_ret (pe_op op_sum (pe_tupZ (pa_cons (pe_ix ix_list (pe_lst (pa_cons pe_str (pa_cons pe_str (pa_cons pe_str (pa_cons pe_str (pa_cons pe_str (pa_cons pe_str (pa_cons pe_str (pa_cons pe_str (pa_cons pe_str pa_nil)))))))))) (pe_callF G_law_draw (hr.mono (by decide)) (by rfl) pass0 (pa_cons (pv 0) (pa_cons pe_int pa_nil))) (fun _ _ => rfl)) pa_nil)) (pe_slice sl_cutA (pv 1) (po_some pe_int) po_none))))
 pss_nil)
 (pss_cons (ps_if (PW.pt (pw_and (pt_cmpR op_eq (pv 2) pe_int (nomark _)) (pw_and1 (pt_cmpR op_gt (pe_callB call_len_seq (by rfl) Y.len PySem.boot_len (pa_cons (pv 1) pa_nil)) pe_int (nomark _)))))
 (pss_cons (ps_set (i := 4) sc_law_spoilt.nd rfl (.inl rfl) (pe_ifExp (pt_val (pe_callB call_isi (by rfl) Y.isinstance (by decide +kernel) (pa_cons (pe_ix ix_tup (pv 1) pe_int (fun _ _ => rfl)) (pa_cons (pe_bltn (v := .ty "tuple") (by rfl) Y.tuple (by decide +kernel) rfl) pa_nil)))) (pe_callB call_len_seq (by rfl) Y.len PySem.boot_len (pa_cons (pe_ix ix_tup (pv 1) pe_int (fun _ _ => rfl)) pa_nil)) pe_int))
 (pss_one (ps_ret (pe_op op_sum (pe_slice sl_cutA (pv 1) po_none (po_some (pe_un un_neg pe_int))) (pe_tupZ (pa_cons (pe_ix ix_list (pe_lst (pa_cons (pe_op op_sub (pv 4) pe_int) (pa_cons (pe_op op_sub (pv 4) pe_int) (pa_cons pe_bl (pa_cons pe_bl (pa_cons (pe_un un_neg pe_int) (pa_cons pe_int (pa_cons pe_str (pa_cons pe_non (pa_cons (pe_lst (pa_cons pe_int pa_nil)) pa_nil)))))))))) (pe_callF G_law_draw (hr.mono (by decide)) (by rfl) pass0 (pa_cons (pv 0) (pa_cons pe_int pa_nil))) (fun _ _ => rfl)) pa_nil))))))
 pss_nil)
 (pss_cons (ps_if (PW.pt (pw_and (pt_cmpR op_lt (pv 2) pe_int (nomark _)) (pw_and (pt_cmpR op_eq (pe_callB call_len_seq (by rfl) Y.len PySem.boot_len (pa_cons (pv 1) pa_nil)) pe_int (nomark _)) (pw_and (pt_val (pe_callB call_isi (by rfl) Y.isinstance (by decide +kernel) (pa_cons (pe_ix ix_tup (pv 1) pe_int (fun _ _ => rfl)) (pa_cons (pe_bltn (v := .ty "tuple") (by rfl) Y.tuple (by decide +kernel) rfl) pa_nil)))) (pw_and1 (pt_cmpR (op_neEmT hu0) (pe_ix ix_tup (pv 1) pe_int (fun _ _ => rfl)) (pe_tupZ pa_nil) (nomark _)))))))
 (pss_one (ps_ret (pe_tupZ (pa_cons (pe_ix ix_tup (pv 1) pe_int (fun _ _ => rfl)) (pa_cons (pe_callF G_law_other_path (hr.mono (by decide)) (by rfl) pass0 (pa_cons (pv 0) (pa_cons (pe_ix ix_tup (pv 1) pe_int (fun _ _ => rfl)) pa_nil))) (pa_cons (pe_ix ix_tup (pv 1) pe_int (fun _ _ => rfl)) pa_nil))))))
 pss_nil)
 (pss_cons (ps_if (pt_cmpR op_eq (pv 2) pe_int (nomark _))
 (pss_one (ps_ret (pe_callF G_law_odd (hr.mono (by decide)) (by rfl) pass0 (pa_cons (pv 0) pa_nil))))
 pss_nil)
 (pss_one (ps_ret (pe_ifExp (pt_cmpR op_lt (pv 2) pe_int (nomark _)) (pe_op op_sum (pe_op op_sum (pe_slice sl_cutA (pv 1) po_none (po_some (pv 3))) (pe_tupZ (pa_cons (pe_callF G_law_odd (hr.mono (by decide)) (by rfl) pass0 (pa_cons (pv 0) pa_nil)) pa_nil))) (pe_slice sl_cutA (pv 1) (po_some (pe_op op_add (pv 3) pe_int)) po_none)) (pv 1)))))))))), ?_⟩
    refine ⟨_, rfl, r, _, rfl, R, (by decide), (by decide), fun H1 e1 b1 R1 f1 g1 => ?_⟩
    have tz := tz.but R b1
    have qd := qd.but b1
    have b0 := b0.trans b1
    have R := R1
    obtain ⟨wy, rfl⟩ := Int.eq_ofNat_of_zero_le f1
    refine ⟨_, rfl, _, rfl, ta, _, rfl, .inr tz.sq, ?_⟩
    refine ⟨r, _, rfl, R, (by omega), (by omega), fun H2 e2 b2 R2 f2 g2 => ?_⟩
    have tz := tz.but R b2
    have qd := qd.but b2
    have b0 := b0.trans b2
    have R := R2
    obtain ⟨at_, rfl⟩ := Int.eq_ofNat_of_zero_le f2
    have al : at_ < xs.length := by omega
    refine ⟨_, _, rfl, ?_⟩
    refine ⟨_, rfl, rfl, _, rfl, ite2 (fun c0 => ?_) (fun c0 => ?_)⟩
    · skip
      refine ⟨_, rfl, ta, _, rfl, .inr tz.sq, fun l3 n3 => ?_⟩
      have ne3 := R.ne n3
      generalize hg : upd _ l3 _ = H3
      obtain ⟨s3, gl⟩ := upd_new hg n3
      clear hg
      have tz := tz.same s3
      have qd := qd.same s3
      have R := R.same s3
      have b0 := b0.trans (But.of s3)
      refine ⟨_, rfl, ?_⟩
      refine ⟨_, rfl, r, rfl, R, fun H4 ov4 od4 b4 R4 on4 oa4 op4 => ?_⟩
      have tz := tz.but R b4
      have qd := qd.but b4
      have b0 := b0.trans b4
      have gl := b4 _ _ ne3 gl
      have R := R4
      refine ⟨(by show 1 ≤ sizeLine; decide), fun t5 o5 n5 s5 z5 => ?_⟩
      generalize upd _ t5 o5 = H5 at s5 z5 ⊢
      have tz := tz.same s5
      have qd := qd.same s5
      have R := R.same s5
      have b0 := b0.trans (But.of s5)
      have gl := s5 _ _ gl
      have on4 := on4.same s5
      refine ⟨ta, t5, _, _, rfl, rfl, tz, z5, (by simp only [List.length_append, List.length_take, List.length_drop, List.length_cons, List.length_nil]; exact le200 (by omega)), rot3 (sum_of tz z5 fun t6 H6 s6 z6 => ?_)⟩
      have tz := tz.same s6
      have qd := qd.same s6
      have R := R.same s6
      have b0 := b0.trans (But.of s6)
      have gl := s6 _ _ gl
      have on4 := on4.same s6
      have z5 := z5.same s6
      refine ⟨_, rfl, _, rfl, _, rfl, ta, _, rfl, tz, And.symm (rcut_of tz (cut_take xs at_) fun t7 H7 s7 z7 => ?_)⟩
      have tz := tz.same s7
      have qd := qd.same s7
      have R := R.same s7
      have b0 := b0.trans (But.of s7)
      have gl := s7 _ _ gl
      have on4 := on4.same s7
      have z6 := z6.same s7
      refine ⟨_, rfl, _, rfl, _, _, rfl, rfl, _, rfl, ta, _, rfl, tz, And.symm (rcut_of tz (cut_dropI xs at_) fun t8 H8 s8 z8 => ?_)⟩
      have tz := tz.same s8
      have qd := qd.same s8
      have R := R.same s8
      have b0 := b0.trans (But.of s8)
      have gl := s8 _ _ gl
      have on4 := on4.same s8
      have z6 := z6.same s8
      have z7 := z7.same s8
      refine ⟨t7, t8, _, _, rfl, rfl, z7, z8, (by simp only [List.length_append, List.length_take, List.length_drop, List.length_cons, List.length_nil]; exact le200 (by omega)), rot3 (sum_of z7 z8 fun t9 H9 s9 z9 => ?_)⟩
      have tz := tz.same s9
      have qd := qd.same s9
      have R := R.same s9
      have b0 := b0.trans (But.of s9)
      have gl := s9 _ _ gl
      have on4 := on4.same s9
      have z6 := z6.same s9
      have z7 := z7.same s9
      have z8 := z8.same s9
      refine ⟨_, rfl, (by show 1 ≤ sizeLine; decide), fun t10 o10 n10 s10 z10 => ?_⟩
      generalize upd _ t10 o10 = H10 at s10 z10 ⊢
      have tz := tz.same s10
      have qd := qd.same s10
      have R := R.same s10
      have b0 := b0.trans (But.of s10)
      have gl := s10 _ _ gl
      have on4 := on4.same s10
      have z6 := z6.same s10
      have z9 := z9.same s10
      refine ⟨(by show 4 ≤ sizeLine; decide), fun l11 n11 => ?_⟩
      have ne11 := R.ne n11
      generalize hg : upd _ l11 _ = H11
      obtain ⟨s11, g4⟩ := upd_new hg n11
      clear hg
      have tz := tz.same s11
      have qd := qd.same s11
      have R := R.same s11
      have b0 := b0.trans (But.of s11)
      have gl := s11 _ _ gl
      have on4 := on4.same s11
      have z6 := z6.same s11
      have z9 := z9.same s11
      have z10 := z10.same s11
      refine ⟨_, rfl, r, _, rfl, R, (by decide), (by decide), fun H12 e12 b12 R12 f12 g12 => ?_⟩
      have tz := tz.but R b12
      have qd := qd.but b12
      have b0 := b0.trans b12
      have gl := b12 _ _ ne3 gl
      have on4 := on4.but b12
      have z6 := z6.but R b12
      have z9 := z9.but R b12
      have z10 := z10.but R b12
      have g4 := b12 _ _ ne11 g4
      have R := R12
      obtain ⟨v, hv, mv⟩ := at_inL g4 rfl f12 g12
      refine ⟨l11, _, _, v, rfl, rfl, SqL.of g4, hv, ?_⟩
      have D : Dbs K r H12 [.ref l3, .ref t6, .ref t9, .ref t10] [.list ds, .tuple (ds ++ [od4]), .tuple (ds.take at_ ++ ds.drop (at_ + 1)), .tuple [.tuple ds]] := .cons (.lst ne3 gl qd) (.cons (.tup R z6 (qd.app (.cons on4 .nil))) (.cons (.tup R z9 ((qd.take at_).app (qd.drop (at_ + 1)))) (.cons (.tup R z10 (.cons (.tup R tz qd) .nil)) .nil)))
      obtain ⟨d, md, dnd⟩ := D.mem mv
      refine q _ v d b0 R dnd ?_
      simp only [List.mem_cons, List.not_mem_nil, or_false] at md
      rcases md with rfl | rfl | rfl | rfl
      · exact o_list
      · exact o_tup (by rw [List.length_append, List.length_cons, List.length_nil]; omega) (mem2 up (fun p hp => by rw [List.mem_singleton.mp hp]; exact sm oa4)) (tail_snoc tl (op_pt op4 oa4))
      · exact o_tup (by rw [List.length_append, List.length_take, List.length_drop]; omega) (mem2 (fun p hp => up p (List.mem_of_mem_take hp)) (fun p hp => up p (List.mem_of_mem_drop hp))) (tail_sub fun p hp => tail_without hp)
      · exact o_wrap
    refine ⟨_, rfl, rfl, _, rfl, ite2 (fun c1 => ?_) (fun c1 => ?_)⟩
    · skip
      refine ⟨(by show 9 ≤ sizeLine; decide), fun l13 n13 => ?_⟩
      have ne13 := R.ne n13
      generalize hg : upd _ l13 _ = H13
      obtain ⟨s13, g9⟩ := upd_new hg n13
      clear hg
      have tz := tz.same s13
      have qd := qd.same s13
      have R := R.same s13
      have b0 := b0.trans (But.of s13)
      refine ⟨_, rfl, r, _, rfl, R, (by decide), (by decide), fun H14 e14 b14 R14 f14 g14 => ?_⟩
      have tz := tz.but R b14
      have qd := qd.but b14
      have b0 := b0.trans b14
      have g9 := b14 _ _ ne13 g9
      have R := R14
      obtain ⟨v, hv, mv⟩ := at_inL g9 rfl f14 g14
      refine ⟨l13, _, _, v, rfl, rfl, SqL.of g9, hv, ?_⟩
      obtain ⟨wd, rfl, wa⟩ : ∃ wd : Str, v = .str wd ∧ A0 (.str wd) := by
        simp only [List.mem_cons, List.not_mem_nil, or_false] at mv
        rcases mv with rfl | rfl | rfl | rfl | rfl | rfl | rfl | rfl | rfl
        all_goals exact ⟨_, rfl, a0_txt⟩
      clear mv hv g9
      refine ⟨(by show 1 ≤ sizeLine; decide), fun t15 o15 n15 s15 z15 => ?_⟩
      generalize upd _ t15 o15 = H15 at s15 z15 ⊢
      have tz := tz.same s15
      have qd := qd.same s15
      have R := R.same s15
      have b0 := b0.trans (But.of s15)
      refine ⟨_, rfl, _, rfl, ta, _, rfl, tz, And.symm (rcut_of tz (show cutV xs (some (1 : Int)) none = xs.drop 1 from cut_drop xs 1) fun t16 H16 s16 z16 => ?_)⟩
      have tz := tz.same s16
      have qd := qd.same s16
      have R := R.same s16
      have b0 := b0.trans (But.of s16)
      have z15 := z15.same s16
      refine ⟨t15, t16, _, _, rfl, rfl, z15, z16, (by simp only [List.length_append, List.length_take, List.length_drop, List.length_cons, List.length_nil]; exact le200 (by omega)), rot3 (sum_of z15 z16 fun t17 H17 s17 z17 => ?_)⟩
      have tz := tz.same s17
      have qd := qd.same s17
      have R := R.same s17
      have b0 := b0.trans (But.of s17)
      have z15 := z15.same s17
      have z16 := z16.same s17
      exact q _ _ (.tuple ([.str wd] ++ ds.drop 1)) b0 R (.tup R z17 ((Dbs.cons (.str wd) .nil).app (qd.drop 1))) (o_tup (by rw [List.length_append, List.length_drop, List.length_cons, List.length_nil]; omega) (mem2 (fun p hp => by rw [List.mem_singleton.mp hp]; exact sm wa) (fun p hp => up p (List.mem_of_mem_drop hp))) (tail_sub fun p hp => drop1_tail hp))
    refine ⟨_, rfl, rfl, _, rfl, ite2 (fun c2 => ?_) (fun c2 => ?_)⟩
    · refine ⟨_, rfl, ta, _, rfl, .inr tz.sq, _, _, rfl, rfl, _, rfl, ite2 (fun c2l => ?_) (fun c2l => ?_)⟩
      · have l2 : 2 < xs.length := by have := of_decide_eq_true c2l; omega
        obtain ⟨y1, h1⟩ : ∃ y, xs[1]? = some y := ⟨_, List.getElem?_eq_getElem (by omega)⟩
        obtain ⟨d1, hd1, dn1⟩ := qd.get h1
        have m1 : d1 ∈ ds := List.mem_of_getElem? hd1
        refine ⟨_, rfl, ta, _, 1, y1, rfl, rfl, tz.sq, atI_nat (j := 1) h1, ?_⟩
        rcases tup_or dn1.dn with ⟨a1, us, ps, rfl, rfl, hu, hd⟩ | ⟨no, t, ty, kt⟩
        · have sm1 := (Bd.sm (bd _ m1))
          have l14 : us.length ≤ 14 := by
            have e := Dns.len hd
            have z : ps.length ≤ 14 ∧ smls ps = true := by simpa only [sml, Bool.and_eq_true, decide_eq_true_eq] using sm1
            omega
          refine ⟨_, _, _, _, true, rfl, .ty "tuple", hu.ty, kit_ty (by decide +kernel), _, rfl, iteT ⟨_, rfl, ta, _, 1, _, rfl, rfl, tz.sq, atI_nat (j := 1) h1, a1, _, rfl, .inr hu.sq, ?_⟩⟩
          refine ⟨_, rfl, _, rfl, _, rfl, ta, _, rfl, tz, And.symm (rcut_of tz (cut_last xs (by omega)) fun t18 H18 s18 z18 => ?_)⟩
          have tz := tz.same s18
          have qd := qd.same s18
          have R := R.same s18
          have b0 := b0.trans (But.of s18)
          refine ⟨_, rfl, _, _, rfl, rfl, ?_⟩
          refine ⟨_, rfl, _, _, rfl, rfl, ?_⟩
          refine ⟨_, rfl, ?_⟩
          refine ⟨(by show 1 ≤ sizeLine; decide), fun l19 n19 => ?_⟩
          have ne19 := R.ne n19
          generalize hg : upd _ l19 _ = H19
          obtain ⟨s19, gz⟩ := upd_new hg n19
          clear hg
          have tz := tz.same s19
          have qd := qd.same s19
          have R := R.same s19
          have b0 := b0.trans (But.of s19)
          have z18 := z18.same s19
          refine ⟨(by show 9 ≤ sizeLine; decide), fun l20 n20 => ?_⟩
          have ne20 := R.ne n20
          generalize hg : upd _ l20 _ = H20
          obtain ⟨s20, g9⟩ := upd_new hg n20
          clear hg
          have tz := tz.same s20
          have qd := qd.same s20
          have R := R.same s20
          have b0 := b0.trans (But.of s20)
          have z18 := z18.same s20
          have gz := s20 _ _ gz
          refine ⟨_, rfl, r, _, rfl, R, (by decide), (by decide), fun H21 e21 b21 R21 f21 g21 => ?_⟩
          have tz := tz.but R b21
          have qd := qd.but b21
          have b0 := b0.trans b21
          have z18 := z18.but R b21
          have gz := b21 _ _ ne19 gz
          have g9 := b21 _ _ ne20 g9
          have R := R21
          obtain ⟨v, hv, mv⟩ := at_inL g9 rfl f21 g21
          refine ⟨l20, _, _, v, rfl, rfl, SqL.of g9, hv, ?_⟩
          have D : Dbs K r H21 [.int ((us.length : Int) - 1), .int ((us.length : Int) - 2), .bl true, .bl false, .int (-1), .int 2, .str "0", .non, .ref l19] [.int ((us.length : Int) - 1), .int ((us.length : Int) - 2), .bool true, .bool false, .int (-1), .int 2, .str "0", .none, .list [.int 0]] := .cons (.int _) (.cons (.int _) (.cons (.bl _) (.cons (.bl _) (.cons (.int _) (.cons (.int _) (.cons (.str _) (.cons .non (.cons (.lst ne19 gz (.cons (.int _) .nil)) .nil))))))))
          obtain ⟨d, md, dnd⟩ := D.mem mv
          obtain ⟨da, dp⟩ := szs_ok (s := us.length) (m := m) (by omega) (by omega) d md
          clear mv hv g9 gz D
          refine ⟨(by show 1 ≤ sizeLine; decide), fun t22 o22 n22 s22 z22 => ?_⟩
          generalize upd _ t22 o22 = H22 at s22 z22 ⊢
          have tz := tz.same s22
          have qd := qd.same s22
          have R := R.same s22
          have b0 := b0.trans (But.of s22)
          have z18 := z18.same s22
          have dnd := dnd.same s22
          refine ⟨t18, t22, _, _, rfl, rfl, z18, z22, (by simp only [List.length_append, List.length_take, List.length_drop, List.length_cons, List.length_nil]; exact le200 (by omega)), rot3 (sum_of z18 z22 fun t23 H23 s23 z23 => ?_)⟩
          have tz := tz.same s23
          have qd := qd.same s23
          have R := R.same s23
          have b0 := b0.trans (But.of s23)
          have z18 := z18.same s23
          have dnd := dnd.same s23
          have z22 := z22.same s23
          exact q _ _ (.tuple (ds.take (ds.length - 1) ++ [d])) b0 R (.tup R z23 ((take_last qd).app (.cons dnd .nil))) (o_tup (by rw [List.length_append, List.length_take, List.length_cons, List.length_nil]; omega) (mem2 (fun p hp => up p (List.mem_of_mem_take hp)) (fun p hp => by rw [List.mem_singleton.mp hp]; exact sm da)) (tail_take tl dp))
        · skip
          refine ⟨_, _, _, _, false, rfl, .ty "tuple", ty, kit_ty kt, _, rfl, iteF ?_⟩
          refine ⟨_, rfl, _, rfl, _, rfl, ta, _, rfl, tz, And.symm (rcut_of tz (cut_last xs (by omega)) fun t24 H24 s24 z24 => ?_)⟩
          have tz := tz.same s24
          have qd := qd.same s24
          have R := R.same s24
          have b0 := b0.trans (But.of s24)
          refine ⟨_, rfl, _, _, rfl, rfl, ?_⟩
          refine ⟨_, rfl, _, _, rfl, rfl, ?_⟩
          refine ⟨_, rfl, ?_⟩
          refine ⟨(by show 1 ≤ sizeLine; decide), fun l25 n25 => ?_⟩
          have ne25 := R.ne n25
          generalize hg : upd _ l25 _ = H25
          obtain ⟨s25, gz⟩ := upd_new hg n25
          clear hg
          have tz := tz.same s25
          have qd := qd.same s25
          have R := R.same s25
          have b0 := b0.trans (But.of s25)
          have z24 := z24.same s25
          refine ⟨(by show 9 ≤ sizeLine; decide), fun l26 n26 => ?_⟩
          have ne26 := R.ne n26
          generalize hg : upd _ l26 _ = H26
          obtain ⟨s26, g9⟩ := upd_new hg n26
          clear hg
          have tz := tz.same s26
          have qd := qd.same s26
          have R := R.same s26
          have b0 := b0.trans (But.of s26)
          have z24 := z24.same s26
          have gz := s26 _ _ gz
          refine ⟨_, rfl, r, _, rfl, R, (by decide), (by decide), fun H27 e27 b27 R27 f27 g27 => ?_⟩
          have tz := tz.but R b27
          have qd := qd.but b27
          have b0 := b0.trans b27
          have z24 := z24.but R b27
          have gz := b27 _ _ ne25 gz
          have g9 := b27 _ _ ne26 g9
          have R := R27
          obtain ⟨v, hv, mv⟩ := at_inL g9 rfl f27 g27
          refine ⟨l26, _, _, v, rfl, rfl, SqL.of g9, hv, ?_⟩
          have D : Dbs K r H27 [.int (((3 : Nat) : Int) - 1), .int (((3 : Nat) : Int) - 2), .bl true, .bl false, .int (-1), .int 2, .str "0", .non, .ref l25] [.int (((3 : Nat) : Int) - 1), .int (((3 : Nat) : Int) - 2), .bool true, .bool false, .int (-1), .int 2, .str "0", .none, .list [.int 0]] := .cons (.int _) (.cons (.int _) (.cons (.bl _) (.cons (.bl _) (.cons (.int _) (.cons (.int _) (.cons (.str _) (.cons .non (.cons (.lst ne25 gz (.cons (.int _) .nil)) .nil))))))))
          obtain ⟨d, md, dnd⟩ := D.mem mv
          obtain ⟨da, dp⟩ := szs_ok (s := (3 : Nat)) (m := m) (by omega) (by omega) d md
          clear mv hv g9 gz D
          refine ⟨(by show 1 ≤ sizeLine; decide), fun t28 o28 n28 s28 z28 => ?_⟩
          generalize upd _ t28 o28 = H28 at s28 z28 ⊢
          have tz := tz.same s28
          have qd := qd.same s28
          have R := R.same s28
          have b0 := b0.trans (But.of s28)
          have z24 := z24.same s28
          have dnd := dnd.same s28
          refine ⟨t24, t28, _, _, rfl, rfl, z24, z28, (by simp only [List.length_append, List.length_take, List.length_drop, List.length_cons, List.length_nil]; exact le200 (by omega)), rot3 (sum_of z24 z28 fun t29 H29 s29 z29 => ?_)⟩
          have tz := tz.same s29
          have qd := qd.same s29
          have R := R.same s29
          have b0 := b0.trans (But.of s29)
          have z24 := z24.same s29
          have dnd := dnd.same s29
          have z28 := z28.same s29
          exact q _ _ (.tuple (ds.take (ds.length - 1) ++ [d])) b0 R (.tup R z29 ((take_last qd).app (.cons dnd .nil))) (o_tup (by rw [List.length_append, List.length_take, List.length_cons, List.length_nil]; omega) (mem2 (fun p hp => up p (List.mem_of_mem_take hp)) (fun p hp => by rw [List.mem_singleton.mp hp]; exact sm da)) (tail_take tl dp))
      · skip
        refine ⟨_, rfl, _, _, rfl, rfl, _, rfl, ite2 (fun c3 => ?_) (fun c3 => ?_)⟩
        · refine ⟨_, rfl, ta, _, rfl, .inr tz.sq, rfl, _, rfl, ite2 (fun c4 => ?_) (fun c4 => ?_)⟩
          · have l3 : xs.length = 3 := by
              have z := of_decide_eq_true c4
              injection z with z
              omega
            obtain ⟨y0, y1, y2, rfl⟩ : ∃ x y z, xs = [x, y, z] := by
              match xs, l3 with
              | [x, y, z], _ => exact ⟨x, y, z, rfl⟩
            obtain ⟨p0, p1, p2, rfl⟩ : ∃ x y z, ds = [x, y, z] := by
              match ds, qd.len with
              | [x, y, z], _ => exact ⟨x, y, z, rfl⟩
            obtain ⟨q0, q1, q2⟩ : Db K r _ y0 p0 ∧ Db K r _ y1 p1 ∧ Db K r _ y2 p2 := three qd
            refine ⟨_, rfl, ta, _, 1, y1, rfl, rfl, tz.sq, atI_nat (j := 1) rfl, ?_⟩
            rcases tup_or q1.dn with ⟨a1, us0, ps, rfl, rfl, hu0', hd⟩ | ⟨no, t, ty, kt⟩
            · obtain ⟨us, hu', q1p⟩ := db_tup q1
              refine ⟨_, _, _, _, true, rfl, .ty "tuple", hu'.ty, kit_ty (by decide +kernel), _, rfl, iteT ?_⟩
              refine ⟨_, rfl, ta, _, 1, _, rfl, rfl, tz.sq, atI_nat (j := 1) rfl, ?_⟩
              refine ⟨(by show 0 ≤ sizeLine; decide), fun te oe ne se ze => ?_⟩
              generalize upd _ te oe = HE at se ze ⊢
              have tz := tz.same se
              have qd := qd.same se
              have R := R.same se
              have b0 := b0.trans (But.of se)
              have hu' := hu'.same se
              have q0 := q0.same se
              have q2 := q2.same se
              have q1p := q1p.same se
              refine ⟨a1, te, _, rfl, rfl, hu'.sq, ze.sq, _, rfl, ?_⟩
              cases us with
              | nil =>
                refine iteF ?_
                refine ⟨_, rfl, rfl, _, rfl, ite2 (fun c5 => ?_) (fun c5 => ?_)⟩
                · skip
                  refine ⟨_, rfl, r, rfl, R, fun H30 ov od b30 R30 on oa op => ?_⟩
                  exact q _ ov od (b0.trans b30) R30 on (o_odd oa op)
                refine ⟨_, rfl, _, _, rfl, rfl, _, rfl, ite2 (fun c6 => ?_) (fun c6 => ?_)⟩
                · skip
                  refine ⟨_, rfl, _, rfl, _, rfl, ta, _, rfl, tz, And.symm (rcut_of tz (cut_take _ at_) fun t31 H31 s31 z31 => ?_)⟩
                  have tz := tz.same s31
                  have qd := qd.same s31
                  have R := R.same s31
                  have b0 := b0.trans (But.of s31)
                  refine ⟨_, rfl, r, rfl, R, fun H32 ov32 od32 b32 R32 on32 oa32 op32 => ?_⟩
                  have tz := tz.but R b32
                  have qd := qd.but b32
                  have b0 := b0.trans b32
                  have z31 := z31.but R b32
                  have R := R32
                  refine ⟨(by show 1 ≤ sizeLine; decide), fun t33 o33 n33 s33 z33 => ?_⟩
                  generalize upd _ t33 o33 = H33 at s33 z33 ⊢
                  have tz := tz.same s33
                  have qd := qd.same s33
                  have R := R.same s33
                  have b0 := b0.trans (But.of s33)
                  have z31 := z31.same s33
                  have on32 := on32.same s33
                  refine ⟨t31, t33, _, _, rfl, rfl, z31, z33, (by simp only [List.length_append, List.length_take, List.length_drop, List.length_cons, List.length_nil]; exact le200 (by omega)), rot3 (sum_of z31 z33 fun t34 H34 s34 z34 => ?_)⟩
                  have tz := tz.same s34
                  have qd := qd.same s34
                  have R := R.same s34
                  have b0 := b0.trans (But.of s34)
                  have z31 := z31.same s34
                  have on32 := on32.same s34
                  have z33 := z33.same s34
                  refine ⟨_, rfl, _, rfl, _, _, rfl, rfl, _, rfl, ta, _, rfl, tz, And.symm (rcut_of tz (cut_dropI _ at_) fun t35 H35 s35 z35 => ?_)⟩
                  have tz := tz.same s35
                  have qd := qd.same s35
                  have R := R.same s35
                  have b0 := b0.trans (But.of s35)
                  have on32 := on32.same s35
                  have z34 := z34.same s35
                  refine ⟨t34, t35, _, _, rfl, rfl, z34, z35, (by simp only [List.length_append, List.length_take, List.length_drop, List.length_cons, List.length_nil]; exact le200 (by omega)), rot3 (sum_of z34 z35 fun t36 H36 s36 z36 => ?_)⟩
                  have tz := tz.same s36
                  have qd := qd.same s36
                  have R := R.same s36
                  have b0 := b0.trans (But.of s36)
                  have on32 := on32.same s36
                  have z34 := z34.same s36
                  have z35 := z35.same s36
                  exact q _ _ (.tuple (_ ++ [od32] ++ _)) b0 R (.tup R z36 (((qd.take at_).app (.cons on32 .nil)).app (qd.drop (at_ + 1)))) (o_tup (by simp only [List.length_append, List.length_take, List.length_drop, List.length_cons, List.length_nil] at *; omega) (mem2 (mem2 (fun p hp => up p (List.mem_of_mem_take hp)) (fun p hp => by rw [List.mem_singleton.mp hp]; exact sm oa32)) (fun p hp => up p (List.mem_of_mem_drop hp))) (tail_put tl (op_pt op32 oa32)))
                exact ⟨_, rfl, q _ _ (.tuple _) b0 R (.tup R tz qd) o_same⟩
              | cons u0 us' =>
                refine iteT ?_
                obtain ⟨pl, pq⟩ := tl (.tuple ps) (by show _ ∈ [PyData.tuple ps, p2]; exact List.mem_cons_self) ps rfl
                have pn := q1p.len
                rw [List.length_cons] at pn
                refine ⟨_, rfl, ta, _, 0, y0, rfl, rfl, tz.sq, atI_nat (j := 0) rfl, ?_⟩
                refine ⟨_, rfl, _, rfl, ta, _, 1, _, rfl, rfl, tz.sq, atI_nat (j := 1) rfl, ?_⟩
                refine ⟨r, a1, _, ps, m, rfl, R, hu', q1p, by omega, pl, m13, pq, fun HP v d bP RP dv db dpt => ?_⟩
                have tz := tz.but R bP
                have q0 := q0.but bP
                have q2 := q2.but bP
                have b0 := b0.trans bP
                have R := RP
                refine ⟨_, rfl, ta, _, 2, y2, rfl, rfl, tz.sq, atI_nat (j := 2) rfl, (by show 3 ≤ sizeLine; decide), fun tt ot nt st zt => ?_⟩
                refine q _ _ (.tuple [p0, d, p2]) (b0.trans (But.of st)) (R.same st) (.tup (R.same st) zt (.cons (q0.same st) (.cons (dv.same st) (.cons (q2.same st) .nil)))) (o_tup (by show 3 ≤ L + 1; omega) (fun p hp => ?_) (fun p hp => ?_))
                · simp only [List.mem_cons, List.not_mem_nil, or_false] at hp
                  rcases hp with rfl | rfl | rfl
                  · exact up _ List.mem_cons_self
                  · exact db.mono (by omega) (Nat.le_trans (Nat.le_trans (by omega : 1700 ≤ W + 1) (Nat.le_mul_of_pos_left _ (by omega))) (Nat.le_refl _))
                  · exact up _ (List.mem_cons_of_mem _ (List.mem_cons_of_mem _ List.mem_cons_self))
                · simp only [List.tail_cons, List.mem_cons, List.not_mem_nil, or_false] at hp
                  rcases hp with rfl | rfl
                  · exact dpt
                  · exact (tl p (by show p ∈ [PyData.tuple ps, p]; exact List.mem_cons_of_mem _ List.mem_cons_self)).up
            · refine ⟨_, _, _, _, false, rfl, .ty "tuple", ty, kit_ty kt, _, rfl, iteF ?_⟩
              refine ⟨_, rfl, rfl, _, rfl, ite2 (fun c5 => ?_) (fun c5 => ?_)⟩
              · skip
                refine ⟨_, rfl, r, rfl, R, fun H37 ov od b37 R37 on oa op => ?_⟩
                exact q _ ov od (b0.trans b37) R37 on (o_odd oa op)
              refine ⟨_, rfl, _, _, rfl, rfl, _, rfl, ite2 (fun c6 => ?_) (fun c6 => ?_)⟩
              · skip
                refine ⟨_, rfl, _, rfl, _, rfl, ta, _, rfl, tz, And.symm (rcut_of tz (cut_take _ at_) fun t38 H38 s38 z38 => ?_)⟩
                have tz := tz.same s38
                have qd := qd.same s38
                have R := R.same s38
                have b0 := b0.trans (But.of s38)
                refine ⟨_, rfl, r, rfl, R, fun H39 ov39 od39 b39 R39 on39 oa39 op39 => ?_⟩
                have tz := tz.but R b39
                have qd := qd.but b39
                have b0 := b0.trans b39
                have z38 := z38.but R b39
                have R := R39
                refine ⟨(by show 1 ≤ sizeLine; decide), fun t40 o40 n40 s40 z40 => ?_⟩
                generalize upd _ t40 o40 = H40 at s40 z40 ⊢
                have tz := tz.same s40
                have qd := qd.same s40
                have R := R.same s40
                have b0 := b0.trans (But.of s40)
                have z38 := z38.same s40
                have on39 := on39.same s40
                refine ⟨t38, t40, _, _, rfl, rfl, z38, z40, (by simp only [List.length_append, List.length_take, List.length_drop, List.length_cons, List.length_nil]; exact le200 (by omega)), rot3 (sum_of z38 z40 fun t41 H41 s41 z41 => ?_)⟩
                have tz := tz.same s41
                have qd := qd.same s41
                have R := R.same s41
                have b0 := b0.trans (But.of s41)
                have z38 := z38.same s41
                have on39 := on39.same s41
                have z40 := z40.same s41
                refine ⟨_, rfl, _, rfl, _, _, rfl, rfl, _, rfl, ta, _, rfl, tz, And.symm (rcut_of tz (cut_dropI _ at_) fun t42 H42 s42 z42 => ?_)⟩
                have tz := tz.same s42
                have qd := qd.same s42
                have R := R.same s42
                have b0 := b0.trans (But.of s42)
                have on39 := on39.same s42
                have z41 := z41.same s42
                refine ⟨t41, t42, _, _, rfl, rfl, z41, z42, (by simp only [List.length_append, List.length_take, List.length_drop, List.length_cons, List.length_nil]; exact le200 (by omega)), rot3 (sum_of z41 z42 fun t43 H43 s43 z43 => ?_)⟩
                have tz := tz.same s43
                have qd := qd.same s43
                have R := R.same s43
                have b0 := b0.trans (But.of s43)
                have on39 := on39.same s43
                have z41 := z41.same s43
                have z42 := z42.same s43
                exact q _ _ (.tuple (_ ++ [od39] ++ _)) b0 R (.tup R z43 (((qd.take at_).app (.cons on39 .nil)).app (qd.drop (at_ + 1)))) (o_tup (by simp only [List.length_append, List.length_take, List.length_drop, List.length_cons, List.length_nil] at *; omega) (mem2 (mem2 (fun p hp => up p (List.mem_of_mem_take hp)) (fun p hp => by rw [List.mem_singleton.mp hp]; exact sm oa39)) (fun p hp => up p (List.mem_of_mem_drop hp))) (tail_put tl (op_pt op39 oa39)))
              exact ⟨_, rfl, q _ _ (.tuple _) b0 R (.tup R tz qd) o_same⟩
          · skip
            refine ⟨_, rfl, rfl, _, rfl, ite2 (fun c5 => ?_) (fun c5 => ?_)⟩
            · skip
              refine ⟨_, rfl, r, rfl, R, fun H44 ov od b44 R44 on oa op => ?_⟩
              exact q _ ov od (b0.trans b44) R44 on (o_odd oa op)
            refine ⟨_, rfl, _, _, rfl, rfl, _, rfl, ite2 (fun c6 => ?_) (fun c6 => ?_)⟩
            · skip
              refine ⟨_, rfl, _, rfl, _, rfl, ta, _, rfl, tz, And.symm (rcut_of tz (cut_take _ at_) fun t45 H45 s45 z45 => ?_)⟩
              have tz := tz.same s45
              have qd := qd.same s45
              have R := R.same s45
              have b0 := b0.trans (But.of s45)
              refine ⟨_, rfl, r, rfl, R, fun H46 ov46 od46 b46 R46 on46 oa46 op46 => ?_⟩
              have tz := tz.but R b46
              have qd := qd.but b46
              have b0 := b0.trans b46
              have z45 := z45.but R b46
              have R := R46
              refine ⟨(by show 1 ≤ sizeLine; decide), fun t47 o47 n47 s47 z47 => ?_⟩
              generalize upd _ t47 o47 = H47 at s47 z47 ⊢
              have tz := tz.same s47
              have qd := qd.same s47
              have R := R.same s47
              have b0 := b0.trans (But.of s47)
              have z45 := z45.same s47
              have on46 := on46.same s47
              refine ⟨t45, t47, _, _, rfl, rfl, z45, z47, (by simp only [List.length_append, List.length_take, List.length_drop, List.length_cons, List.length_nil]; exact le200 (by omega)), rot3 (sum_of z45 z47 fun t48 H48 s48 z48 => ?_)⟩
              have tz := tz.same s48
              have qd := qd.same s48
              have R := R.same s48
              have b0 := b0.trans (But.of s48)
              have z45 := z45.same s48
              have on46 := on46.same s48
              have z47 := z47.same s48
              refine ⟨_, rfl, _, rfl, _, _, rfl, rfl, _, rfl, ta, _, rfl, tz, And.symm (rcut_of tz (cut_dropI _ at_) fun t49 H49 s49 z49 => ?_)⟩
              have tz := tz.same s49
              have qd := qd.same s49
              have R := R.same s49
              have b0 := b0.trans (But.of s49)
              have on46 := on46.same s49
              have z48 := z48.same s49
              refine ⟨t48, t49, _, _, rfl, rfl, z48, z49, (by simp only [List.length_append, List.length_take, List.length_drop, List.length_cons, List.length_nil]; exact le200 (by omega)), rot3 (sum_of z48 z49 fun t50 H50 s50 z50 => ?_)⟩
              have tz := tz.same s50
              have qd := qd.same s50
              have R := R.same s50
              have b0 := b0.trans (But.of s50)
              have on46 := on46.same s50
              have z48 := z48.same s50
              have z49 := z49.same s50
              exact q _ _ (.tuple (_ ++ [od46] ++ _)) b0 R (.tup R z50 (((qd.take at_).app (.cons on46 .nil)).app (qd.drop (at_ + 1)))) (o_tup (by simp only [List.length_append, List.length_take, List.length_drop, List.length_cons, List.length_nil] at *; omega) (mem2 (mem2 (fun p hp => up p (List.mem_of_mem_take hp)) (fun p hp => by rw [List.mem_singleton.mp hp]; exact sm oa46)) (fun p hp => up p (List.mem_of_mem_drop hp))) (tail_put tl (op_pt op46 oa46)))
            exact ⟨_, rfl, q _ _ (.tuple _) b0 R (.tup R tz qd) o_same⟩
        · skip
          refine ⟨_, rfl, rfl, _, rfl, ite2 (fun c5 => ?_) (fun c5 => ?_)⟩
          · skip
            refine ⟨_, rfl, r, rfl, R, fun H51 ov od b51 R51 on oa op => ?_⟩
            exact q _ ov od (b0.trans b51) R51 on (o_odd oa op)
          refine ⟨_, rfl, _, _, rfl, rfl, _, rfl, ite2 (fun c6 => ?_) (fun c6 => ?_)⟩
          · skip
            refine ⟨_, rfl, _, rfl, _, rfl, ta, _, rfl, tz, And.symm (rcut_of tz (cut_take _ at_) fun t52 H52 s52 z52 => ?_)⟩
            have tz := tz.same s52
            have qd := qd.same s52
            have R := R.same s52
            have b0 := b0.trans (But.of s52)
            refine ⟨_, rfl, r, rfl, R, fun H53 ov53 od53 b53 R53 on53 oa53 op53 => ?_⟩
            have tz := tz.but R b53
            have qd := qd.but b53
            have b0 := b0.trans b53
            have z52 := z52.but R b53
            have R := R53
            refine ⟨(by show 1 ≤ sizeLine; decide), fun t54 o54 n54 s54 z54 => ?_⟩
            generalize upd _ t54 o54 = H54 at s54 z54 ⊢
            have tz := tz.same s54
            have qd := qd.same s54
            have R := R.same s54
            have b0 := b0.trans (But.of s54)
            have z52 := z52.same s54
            have on53 := on53.same s54
            refine ⟨t52, t54, _, _, rfl, rfl, z52, z54, (by simp only [List.length_append, List.length_take, List.length_drop, List.length_cons, List.length_nil]; exact le200 (by omega)), rot3 (sum_of z52 z54 fun t55 H55 s55 z55 => ?_)⟩
            have tz := tz.same s55
            have qd := qd.same s55
            have R := R.same s55
            have b0 := b0.trans (But.of s55)
            have z52 := z52.same s55
            have on53 := on53.same s55
            have z54 := z54.same s55
            refine ⟨_, rfl, _, rfl, _, _, rfl, rfl, _, rfl, ta, _, rfl, tz, And.symm (rcut_of tz (cut_dropI _ at_) fun t56 H56 s56 z56 => ?_)⟩
            have tz := tz.same s56
            have qd := qd.same s56
            have R := R.same s56
            have b0 := b0.trans (But.of s56)
            have on53 := on53.same s56
            have z55 := z55.same s56
            refine ⟨t55, t56, _, _, rfl, rfl, z55, z56, (by simp only [List.length_append, List.length_take, List.length_drop, List.length_cons, List.length_nil]; exact le200 (by omega)), rot3 (sum_of z55 z56 fun t57 H57 s57 z57 => ?_)⟩
            have tz := tz.same s57
            have qd := qd.same s57
            have R := R.same s57
            have b0 := b0.trans (But.of s57)
            have on53 := on53.same s57
            have z55 := z55.same s57
            have z56 := z56.same s57
            exact q _ _ (.tuple (_ ++ [od53] ++ _)) b0 R (.tup R z57 (((qd.take at_).app (.cons on53 .nil)).app (qd.drop (at_ + 1)))) (o_tup (by simp only [List.length_append, List.length_take, List.length_drop, List.length_cons, List.length_nil] at *; omega) (mem2 (mem2 (fun p hp => up p (List.mem_of_mem_take hp)) (fun p hp => by rw [List.mem_singleton.mp hp]; exact sm oa53)) (fun p hp => up p (List.mem_of_mem_drop hp))) (tail_put tl (op_pt op53 oa53)))
          exact ⟨_, rfl, q _ _ (.tuple _) b0 R (.tup R tz qd) o_same⟩
    refine ⟨_, rfl, _, _, rfl, rfl, _, rfl, ite2 (fun c3 => ?_) (fun c3 => ?_)⟩
    · refine ⟨_, rfl, ta, _, rfl, .inr tz.sq, rfl, _, rfl, ite2 (fun c4 => ?_) (fun c4 => ?_)⟩
      · have l3 : xs.length = 3 := by
          have z := of_decide_eq_true c4
          injection z with z
          omega
        obtain ⟨y0, y1, y2, rfl⟩ : ∃ x y z, xs = [x, y, z] := by
          match xs, l3 with
          | [x, y, z], _ => exact ⟨x, y, z, rfl⟩
        obtain ⟨p0, p1, p2, rfl⟩ : ∃ x y z, ds = [x, y, z] := by
          match ds, qd.len with
          | [x, y, z], _ => exact ⟨x, y, z, rfl⟩
        obtain ⟨q0, q1, q2⟩ : Db K r _ y0 p0 ∧ Db K r _ y1 p1 ∧ Db K r _ y2 p2 := three qd
        refine ⟨_, rfl, ta, _, 1, y1, rfl, rfl, tz.sq, atI_nat (j := 1) rfl, ?_⟩
        rcases tup_or q1.dn with ⟨a1, us0, ps, rfl, rfl, hu0', hd⟩ | ⟨no, t, ty, kt⟩
        · obtain ⟨us, hu', q1p⟩ := db_tup q1
          refine ⟨_, _, _, _, true, rfl, .ty "tuple", hu'.ty, kit_ty (by decide +kernel), _, rfl, iteT ?_⟩
          refine ⟨_, rfl, ta, _, 1, _, rfl, rfl, tz.sq, atI_nat (j := 1) rfl, ?_⟩
          refine ⟨(by show 0 ≤ sizeLine; decide), fun te oe ne se ze => ?_⟩
          generalize upd _ te oe = HE at se ze ⊢
          have tz := tz.same se
          have qd := qd.same se
          have R := R.same se
          have b0 := b0.trans (But.of se)
          have hu' := hu'.same se
          have q0 := q0.same se
          have q2 := q2.same se
          have q1p := q1p.same se
          refine ⟨a1, te, _, rfl, rfl, hu'.sq, ze.sq, _, rfl, ?_⟩
          cases us with
          | nil =>
            refine iteF ?_
            refine ⟨_, rfl, rfl, _, rfl, ite2 (fun c5 => ?_) (fun c5 => ?_)⟩
            · skip
              refine ⟨_, rfl, r, rfl, R, fun H58 ov od b58 R58 on oa op => ?_⟩
              exact q _ ov od (b0.trans b58) R58 on (o_odd oa op)
            refine ⟨_, rfl, _, _, rfl, rfl, _, rfl, ite2 (fun c6 => ?_) (fun c6 => ?_)⟩
            · skip
              refine ⟨_, rfl, _, rfl, _, rfl, ta, _, rfl, tz, And.symm (rcut_of tz (cut_take _ at_) fun t59 H59 s59 z59 => ?_)⟩
              have tz := tz.same s59
              have qd := qd.same s59
              have R := R.same s59
              have b0 := b0.trans (But.of s59)
              refine ⟨_, rfl, r, rfl, R, fun H60 ov60 od60 b60 R60 on60 oa60 op60 => ?_⟩
              have tz := tz.but R b60
              have qd := qd.but b60
              have b0 := b0.trans b60
              have z59 := z59.but R b60
              have R := R60
              refine ⟨(by show 1 ≤ sizeLine; decide), fun t61 o61 n61 s61 z61 => ?_⟩
              generalize upd _ t61 o61 = H61 at s61 z61 ⊢
              have tz := tz.same s61
              have qd := qd.same s61
              have R := R.same s61
              have b0 := b0.trans (But.of s61)
              have z59 := z59.same s61
              have on60 := on60.same s61
              refine ⟨t59, t61, _, _, rfl, rfl, z59, z61, (by simp only [List.length_append, List.length_take, List.length_drop, List.length_cons, List.length_nil]; exact le200 (by omega)), rot3 (sum_of z59 z61 fun t62 H62 s62 z62 => ?_)⟩
              have tz := tz.same s62
              have qd := qd.same s62
              have R := R.same s62
              have b0 := b0.trans (But.of s62)
              have z59 := z59.same s62
              have on60 := on60.same s62
              have z61 := z61.same s62
              refine ⟨_, rfl, _, rfl, _, _, rfl, rfl, _, rfl, ta, _, rfl, tz, And.symm (rcut_of tz (cut_dropI _ at_) fun t63 H63 s63 z63 => ?_)⟩
              have tz := tz.same s63
              have qd := qd.same s63
              have R := R.same s63
              have b0 := b0.trans (But.of s63)
              have on60 := on60.same s63
              have z62 := z62.same s63
              refine ⟨t62, t63, _, _, rfl, rfl, z62, z63, (by simp only [List.length_append, List.length_take, List.length_drop, List.length_cons, List.length_nil]; exact le200 (by omega)), rot3 (sum_of z62 z63 fun t64 H64 s64 z64 => ?_)⟩
              have tz := tz.same s64
              have qd := qd.same s64
              have R := R.same s64
              have b0 := b0.trans (But.of s64)
              have on60 := on60.same s64
              have z62 := z62.same s64
              have z63 := z63.same s64
              exact q _ _ (.tuple (_ ++ [od60] ++ _)) b0 R (.tup R z64 (((qd.take at_).app (.cons on60 .nil)).app (qd.drop (at_ + 1)))) (o_tup (by simp only [List.length_append, List.length_take, List.length_drop, List.length_cons, List.length_nil] at *; omega) (mem2 (mem2 (fun p hp => up p (List.mem_of_mem_take hp)) (fun p hp => by rw [List.mem_singleton.mp hp]; exact sm oa60)) (fun p hp => up p (List.mem_of_mem_drop hp))) (tail_put tl (op_pt op60 oa60)))
            exact ⟨_, rfl, q _ _ (.tuple _) b0 R (.tup R tz qd) o_same⟩
          | cons u0 us' =>
            refine iteT ?_
            obtain ⟨pl, pq⟩ := tl (.tuple ps) (by show _ ∈ [PyData.tuple ps, p2]; exact List.mem_cons_self) ps rfl
            have pn := q1p.len
            rw [List.length_cons] at pn
            refine ⟨_, rfl, ta, _, 0, y0, rfl, rfl, tz.sq, atI_nat (j := 0) rfl, ?_⟩
            refine ⟨_, rfl, _, rfl, ta, _, 1, _, rfl, rfl, tz.sq, atI_nat (j := 1) rfl, ?_⟩
            refine ⟨r, a1, _, ps, m, rfl, R, hu', q1p, by omega, pl, m13, pq, fun HP v d bP RP dv db dpt => ?_⟩
            have tz := tz.but R bP
            have q0 := q0.but bP
            have q2 := q2.but bP
            have b0 := b0.trans bP
            have R := RP
            refine ⟨_, rfl, ta, _, 2, y2, rfl, rfl, tz.sq, atI_nat (j := 2) rfl, (by show 3 ≤ sizeLine; decide), fun tt ot nt st zt => ?_⟩
            refine q _ _ (.tuple [p0, d, p2]) (b0.trans (But.of st)) (R.same st) (.tup (R.same st) zt (.cons (q0.same st) (.cons (dv.same st) (.cons (q2.same st) .nil)))) (o_tup (by show 3 ≤ L + 1; omega) (fun p hp => ?_) (fun p hp => ?_))
            · simp only [List.mem_cons, List.not_mem_nil, or_false] at hp
              rcases hp with rfl | rfl | rfl
              · exact up _ List.mem_cons_self
              · exact db.mono (by omega) (Nat.le_trans (Nat.le_trans (by omega : 1700 ≤ W + 1) (Nat.le_mul_of_pos_left _ (by omega))) (Nat.le_refl _))
              · exact up _ (List.mem_cons_of_mem _ (List.mem_cons_of_mem _ List.mem_cons_self))
            · simp only [List.tail_cons, List.mem_cons, List.not_mem_nil, or_false] at hp
              rcases hp with rfl | rfl
              · exact dpt
              · exact (tl p (by show p ∈ [PyData.tuple ps, p]; exact List.mem_cons_of_mem _ List.mem_cons_self)).up
        · refine ⟨_, _, _, _, false, rfl, .ty "tuple", ty, kit_ty kt, _, rfl, iteF ?_⟩
          refine ⟨_, rfl, rfl, _, rfl, ite2 (fun c5 => ?_) (fun c5 => ?_)⟩
          · skip
            refine ⟨_, rfl, r, rfl, R, fun H65 ov od b65 R65 on oa op => ?_⟩
            exact q _ ov od (b0.trans b65) R65 on (o_odd oa op)
          refine ⟨_, rfl, _, _, rfl, rfl, _, rfl, ite2 (fun c6 => ?_) (fun c6 => ?_)⟩
          · skip
            refine ⟨_, rfl, _, rfl, _, rfl, ta, _, rfl, tz, And.symm (rcut_of tz (cut_take _ at_) fun t66 H66 s66 z66 => ?_)⟩
            have tz := tz.same s66
            have qd := qd.same s66
            have R := R.same s66
            have b0 := b0.trans (But.of s66)
            refine ⟨_, rfl, r, rfl, R, fun H67 ov67 od67 b67 R67 on67 oa67 op67 => ?_⟩
            have tz := tz.but R b67
            have qd := qd.but b67
            have b0 := b0.trans b67
            have z66 := z66.but R b67
            have R := R67
            refine ⟨(by show 1 ≤ sizeLine; decide), fun t68 o68 n68 s68 z68 => ?_⟩
            generalize upd _ t68 o68 = H68 at s68 z68 ⊢
            have tz := tz.same s68
            have qd := qd.same s68
            have R := R.same s68
            have b0 := b0.trans (But.of s68)
            have z66 := z66.same s68
            have on67 := on67.same s68
            refine ⟨t66, t68, _, _, rfl, rfl, z66, z68, (by simp only [List.length_append, List.length_take, List.length_drop, List.length_cons, List.length_nil]; exact le200 (by omega)), rot3 (sum_of z66 z68 fun t69 H69 s69 z69 => ?_)⟩
            have tz := tz.same s69
            have qd := qd.same s69
            have R := R.same s69
            have b0 := b0.trans (But.of s69)
            have z66 := z66.same s69
            have on67 := on67.same s69
            have z68 := z68.same s69
            refine ⟨_, rfl, _, rfl, _, _, rfl, rfl, _, rfl, ta, _, rfl, tz, And.symm (rcut_of tz (cut_dropI _ at_) fun t70 H70 s70 z70 => ?_)⟩
            have tz := tz.same s70
            have qd := qd.same s70
            have R := R.same s70
            have b0 := b0.trans (But.of s70)
            have on67 := on67.same s70
            have z69 := z69.same s70
            refine ⟨t69, t70, _, _, rfl, rfl, z69, z70, (by simp only [List.length_append, List.length_take, List.length_drop, List.length_cons, List.length_nil]; exact le200 (by omega)), rot3 (sum_of z69 z70 fun t71 H71 s71 z71 => ?_)⟩
            have tz := tz.same s71
            have qd := qd.same s71
            have R := R.same s71
            have b0 := b0.trans (But.of s71)
            have on67 := on67.same s71
            have z69 := z69.same s71
            have z70 := z70.same s71
            exact q _ _ (.tuple (_ ++ [od67] ++ _)) b0 R (.tup R z71 (((qd.take at_).app (.cons on67 .nil)).app (qd.drop (at_ + 1)))) (o_tup (by simp only [List.length_append, List.length_take, List.length_drop, List.length_cons, List.length_nil] at *; omega) (mem2 (mem2 (fun p hp => up p (List.mem_of_mem_take hp)) (fun p hp => by rw [List.mem_singleton.mp hp]; exact sm oa67)) (fun p hp => up p (List.mem_of_mem_drop hp))) (tail_put tl (op_pt op67 oa67)))
          exact ⟨_, rfl, q _ _ (.tuple _) b0 R (.tup R tz qd) o_same⟩
      · skip
        refine ⟨_, rfl, rfl, _, rfl, ite2 (fun c5 => ?_) (fun c5 => ?_)⟩
        · skip
          refine ⟨_, rfl, r, rfl, R, fun H72 ov od b72 R72 on oa op => ?_⟩
          exact q _ ov od (b0.trans b72) R72 on (o_odd oa op)
        refine ⟨_, rfl, _, _, rfl, rfl, _, rfl, ite2 (fun c6 => ?_) (fun c6 => ?_)⟩
        · skip
          refine ⟨_, rfl, _, rfl, _, rfl, ta, _, rfl, tz, And.symm (rcut_of tz (cut_take _ at_) fun t73 H73 s73 z73 => ?_)⟩
          have tz := tz.same s73
          have qd := qd.same s73
          have R := R.same s73
          have b0 := b0.trans (But.of s73)
          refine ⟨_, rfl, r, rfl, R, fun H74 ov74 od74 b74 R74 on74 oa74 op74 => ?_⟩
          have tz := tz.but R b74
          have qd := qd.but b74
          have b0 := b0.trans b74
          have z73 := z73.but R b74
          have R := R74
          refine ⟨(by show 1 ≤ sizeLine; decide), fun t75 o75 n75 s75 z75 => ?_⟩
          generalize upd _ t75 o75 = H75 at s75 z75 ⊢
          have tz := tz.same s75
          have qd := qd.same s75
          have R := R.same s75
          have b0 := b0.trans (But.of s75)
          have z73 := z73.same s75
          have on74 := on74.same s75
          refine ⟨t73, t75, _, _, rfl, rfl, z73, z75, (by simp only [List.length_append, List.length_take, List.length_drop, List.length_cons, List.length_nil]; exact le200 (by omega)), rot3 (sum_of z73 z75 fun t76 H76 s76 z76 => ?_)⟩
          have tz := tz.same s76
          have qd := qd.same s76
          have R := R.same s76
          have b0 := b0.trans (But.of s76)
          have z73 := z73.same s76
          have on74 := on74.same s76
          have z75 := z75.same s76
          refine ⟨_, rfl, _, rfl, _, _, rfl, rfl, _, rfl, ta, _, rfl, tz, And.symm (rcut_of tz (cut_dropI _ at_) fun t77 H77 s77 z77 => ?_)⟩
          have tz := tz.same s77
          have qd := qd.same s77
          have R := R.same s77
          have b0 := b0.trans (But.of s77)
          have on74 := on74.same s77
          have z76 := z76.same s77
          refine ⟨t76, t77, _, _, rfl, rfl, z76, z77, (by simp only [List.length_append, List.length_take, List.length_drop, List.length_cons, List.length_nil]; exact le200 (by omega)), rot3 (sum_of z76 z77 fun t78 H78 s78 z78 => ?_)⟩
          have tz := tz.same s78
          have qd := qd.same s78
          have R := R.same s78
          have b0 := b0.trans (But.of s78)
          have on74 := on74.same s78
          have z76 := z76.same s78
          have z77 := z77.same s78
          exact q _ _ (.tuple (_ ++ [od74] ++ _)) b0 R (.tup R z78 (((qd.take at_).app (.cons on74 .nil)).app (qd.drop (at_ + 1)))) (o_tup (by simp only [List.length_append, List.length_take, List.length_drop, List.length_cons, List.length_nil] at *; omega) (mem2 (mem2 (fun p hp => up p (List.mem_of_mem_take hp)) (fun p hp => by rw [List.mem_singleton.mp hp]; exact sm oa74)) (fun p hp => up p (List.mem_of_mem_drop hp))) (tail_put tl (op_pt op74 oa74)))
        exact ⟨_, rfl, q _ _ (.tuple _) b0 R (.tup R tz qd) o_same⟩
    · skip
      refine ⟨_, rfl, rfl, _, rfl, ite2 (fun c5 => ?_) (fun c5 => ?_)⟩
      · skip
        refine ⟨_, rfl, r, rfl, R, fun H79 ov od b79 R79 on oa op => ?_⟩
        exact q _ ov od (b0.trans b79) R79 on (o_odd oa op)
      refine ⟨_, rfl, _, _, rfl, rfl, _, rfl, ite2 (fun c6 => ?_) (fun c6 => ?_)⟩
      · skip
        refine ⟨_, rfl, _, rfl, _, rfl, ta, _, rfl, tz, And.symm (rcut_of tz (cut_take _ at_) fun t80 H80 s80 z80 => ?_)⟩
        have tz := tz.same s80
        have qd := qd.same s80
        have R := R.same s80
        have b0 := b0.trans (But.of s80)
        refine ⟨_, rfl, r, rfl, R, fun H81 ov81 od81 b81 R81 on81 oa81 op81 => ?_⟩
        have tz := tz.but R b81
        have qd := qd.but b81
        have b0 := b0.trans b81
        have z80 := z80.but R b81
        have R := R81
        refine ⟨(by show 1 ≤ sizeLine; decide), fun t82 o82 n82 s82 z82 => ?_⟩
        generalize upd _ t82 o82 = H82 at s82 z82 ⊢
        have tz := tz.same s82
        have qd := qd.same s82
        have R := R.same s82
        have b0 := b0.trans (But.of s82)
        have z80 := z80.same s82
        have on81 := on81.same s82
        refine ⟨t80, t82, _, _, rfl, rfl, z80, z82, (by simp only [List.length_append, List.length_take, List.length_drop, List.length_cons, List.length_nil]; exact le200 (by omega)), rot3 (sum_of z80 z82 fun t83 H83 s83 z83 => ?_)⟩
        have tz := tz.same s83
        have qd := qd.same s83
        have R := R.same s83
        have b0 := b0.trans (But.of s83)
        have z80 := z80.same s83
        have on81 := on81.same s83
        have z82 := z82.same s83
        refine ⟨_, rfl, _, rfl, _, _, rfl, rfl, _, rfl, ta, _, rfl, tz, And.symm (rcut_of tz (cut_dropI _ at_) fun t84 H84 s84 z84 => ?_)⟩
        have tz := tz.same s84
        have qd := qd.same s84
        have R := R.same s84
        have b0 := b0.trans (But.of s84)
        have on81 := on81.same s84
        have z83 := z83.same s84
        refine ⟨t83, t84, _, _, rfl, rfl, z83, z84, (by simp only [List.length_append, List.length_take, List.length_drop, List.length_cons, List.length_nil]; exact le200 (by omega)), rot3 (sum_of z83 z84 fun t85 H85 s85 z85 => ?_)⟩
        have tz := tz.same s85
        have qd := qd.same s85
        have R := R.same s85
        have b0 := b0.trans (But.of s85)
        have on81 := on81.same s85
        have z83 := z83.same s85
        have z84 := z84.same s85
        exact q _ _ (.tuple (_ ++ [od81] ++ _)) b0 R (.tup R z85 (((qd.take at_).app (.cons on81 .nil)).app (qd.drop (at_ + 1)))) (o_tup (by simp only [List.length_append, List.length_take, List.length_drop, List.length_cons, List.length_nil] at *; omega) (mem2 (mem2 (fun p hp => up p (List.mem_of_mem_take hp)) (fun p hp => by rw [List.mem_singleton.mp hp]; exact sm oa81)) (fun p hp => up p (List.mem_of_mem_drop hp))) (tail_put tl (op_pt op81 oa81)))
      exact ⟨_, rfl, q _ _ (.tuple _) b0 R (.tup R tz qd) o_same⟩
end
end My

namespace Xt
open PySem PySem.Spec PyProof.Rows L2 Gy
/-- l != []: a list and one without items -/
def rNmL (K : PySem.W.Frag) : R2 := fun x y H Q => ∃ a b xs, x = .ref a ∧ y = .ref b ∧ SqL K H a xs ∧ SqL K H b [] ∧ Q (.bl (!xs.isEmpty)) H
theorem op_neEmL {X : Cx} (hu : X.A.units < cLine) : OpR X (compareOp .NotEq) (rNmL X.K) := by
  intro pins s σ H x y v u Q I rx ry h
  obtain ⟨a, b, xs, rfl, rfl, ha, hb, q⟩ := h
  cases rx
  cases ry
  obtain ⟨i1, r1, t1, _⟩ := I.list ha
  obtain ⟨i2, r2, t2, _⟩ := I.list hb
  cases r2
  cases xs with
  | nil =>
    cases r1
    exact SeqAt.RcNeAt.lists (e := fun _ => true) t1.isList t2.isList rfl hu (fun j h1 h2 => absurd h2 (Nat.not_lt_zero j)) _ _ _ _ ⟨.bl false, H, I, rfl, q⟩
  | cons y ys =>
    cases r1 with
    | cons h t =>
      exact SeqAt.RcNeAt.lists_lengths t1.isList t2.isList (by simp) hu _ _ _ _ ⟨.bl true, H, I, rfl, q⟩
end Xt

namespace My
open PySem PySem.Spec PyProof.Rows L2 Gy Xl Xs Xt Xo Xp Xd
section
variable {P : Program} {w : World} {K : PySem.W.Frag} {mg : Str → Option Value} {base : Heap} {H : Hp} {C CE : Addr}
theorem ChD.goneAt {H' : Hp} {La : Addr} {ks : List (Str × Str)} {f : Str × Str → List PyData} {ad : Str × Str → Addr} {k : Str × Str} (c : ChD K H La ks f ad) (l1 : (f k).length = 1) (fk : FzK H H') (ls : ∀ j ∈ ks, ∀ o, H (ad j) = some o → H' (ad j) = some o)
    (hL : H' La = some (.dT (ckv (ks.filter fun j => decide (j ≠ k)) ad))) : ChD K H' La (takeKs ks f k) (takeFn f k) ad := by
  have e : takeKs ks f k = ks.filter fun j => decide (j ≠ k) := if_pos l1
  rw [e]
  refine ⟨hL, c.nd.sublist List.filter_sublist, fun j hj => ?_, fun i hi j hj => c.inj i (List.mem_filter.mp hi).1 j (List.mem_filter.mp hj).1⟩
  obtain ⟨mj, nj⟩ := List.mem_filter.mp hj
  have nj := of_decide_eq_true nj
  obtain ⟨us, h1, h2, h3⟩ := c.ls j mj
  refine ⟨us, ls j mj _ h1, ?_, ?_⟩
  · unfold takeFn
    rw [if_neg nj]
    exact Dns.same (fz_keep fk) h2
  · unfold takeFn
    rw [if_neg nj]
    exact h3
theorem ChD.lessAt {H' : Hp} {La N : Addr} {ks : List (Str × Str)} {f : Str × Str → List PyData} {ad : Str × Str → Addr} {k : Str × Str} {us : List V} (c : ChD K H La ks f ad) (m : k ∈ ks) (l1 : (f k).length ≠ 1) (fk : FzK H H') (ls : ∀ j ∈ ks, ∀ o, H (ad j) = some o → H' (ad j) = some o)
    (hL : H' La = some (.dT (ckv ks fun j => if j = k then N else ad j))) (nN : ∀ j ∈ ks, ad j ≠ N) (hN : H' N = some (.lst us)) (du : Dns K (fz H') us (f k).tail) : ChD K H' La (takeKs ks f k) (takeFn f k) (fun j => if j = k then N else ad j) := by
  have e : takeKs ks f k = ks := if_neg l1
  rw [e]
  refine ⟨hL, c.nd, fun j hj => ?_, fun i hi j hj e => ?_⟩
  · unfold takeFn
    by_cases ej : j = k
    · rw [if_pos ej, if_pos ej]
      refine ⟨us, hN, du, ?_⟩
      obtain ⟨_, _, _, h3⟩ := c.ls k m
      cases hf : f k with
      | nil => exact absurd hf h3
      | cons x xs =>
        cases xs with
        | nil => rw [hf] at l1; exact absurd rfl l1
        | cons y ys => exact fun z => nomatch z
    · rw [if_neg ej, if_neg ej]
      obtain ⟨ws, h1, h2, h3⟩ := c.ls j hj
      exact ⟨ws, ls j hj _ h1, Dns.same (fz_keep fk) h2, h3⟩
  · by_cases ei : i = k
    · by_cases ej : j = k
      · rw [ei, ej]
      · rw [if_pos ei, if_neg ej] at e
        exact absurd e.symm (nN j hj)
    · by_cases ej : j = k
      · rw [if_neg ei, if_pos ej] at e
        exact absurd e (nN i hi)
      · rw [if_neg ei, if_neg ej] at e
        exact c.inj i hi j hj e
theorem ckv_out {ks : List (Str × Str)} {ad : Str × Str → Addr} {k : Str × Str} {N : Addr} : dropK (ckv ks fun j => if j = k then N else ad j) (kq k) = ckv (ks.filter fun j => decide (j ≠ k)) ad := by
  rw [ckv_drop]
  unfold ckv
  refine List.map_congr_left fun j hj => ?_
  show (kq j, V.ref (if j = k then N else ad j)) = _
  rw [if_neg (of_decide_eq_true (List.mem_filter.mp hj).2)]
def spTaken (K : PySem.W.Frag) : Sp := fun vs H Q _ => ∃ (La : Addr) (a b : Str) (ks : List (Str × Str)) (f : Str × Str → List PyData) (ad : Str × Str → Addr), vs = [.ref La, .str a, .str b] ∧ ChD K H La ks f ad ∧ (a, b) ∈ ks ∧ ks.length ≤ 500 ∧
  ∀ H' ad' v d r, f (a, b) = d :: r → FzK H H' → (∀ x o, H x = some o → x ≠ La → H' x = some o) → (∀ k ∈ takeKs ks f (a, b), k ∈ ks ∧ (ad' k = ad k ∨ H (ad' k) = none)) → Dn K (fz H') v d → ChD K H' La (takeKs ks f (a, b)) (takeFn f (a, b)) ad' → Q v H'
theorem ok_taken {f : Addr} {fd : FuncData} (F : Fun K "_law_taken" "_law_taken" s_law_taken f fd) (Y : Bn mg) : FnOk P w K mg base CX0 1 f fd ["_law_rows", "_law_src", "_law_dst"] (spTaken K) := by
  refine F.ok sc_law_taken (fun vs H Q E h => ?_) (fun cdv A outer s H vs Q E hr h => ?_)
  · obtain ⟨La, a, b, ks, g, ad, rfl, _⟩ := h
    rfl
  · obtain ⟨La, a, b, ks, g, ad, rfl, c, m, kl, q⟩ := h
    have hu1 := Nat.lt_of_le_of_lt (Nat.add_le_add_left (show 1 ≤ 64 by decide) _) hr.units
    have hu0 := Nat.lt_of_succ_lt hu1
    refine ⟨_, (pss_cons (ps_set (i := 3) sc_law_taken.nd rfl (.inl rfl) (pe_ix ix_list (pe_dget hu1 (pv 0) (pe_tup (pa_cons (pv 1) (pa_cons (pv 2) pa_nil))) (fun _ _ => rfl)) pe_int (fun _ _ => rfl)))
 (pss_cons (ps_dput hu1 (pv 0) (pe_tup (pa_cons (pv 1) (pa_cons (pv 2) pa_nil))) (pe_slice sl_list (pe_dget hu1 (pv 0) (pe_tup (pa_cons (pv 1) (pa_cons (pv 2) pa_nil))) (fun _ _ => rfl)) (po_some pe_int) po_none) rfl)
 (pss_cons (ps_if (pt_cmpR (op_eqEmL hu0) (pe_dget hu1 (pv 0) (pe_tup (pa_cons (pv 1) (pa_cons (pv 2) pa_nil))) (fun _ _ => rfl)) (pe_lst pa_nil) (nomark _))
 (pss_one (ps_expr (pe_bm PySem.F.plainAttrs_dict PySem.F.slot_dict_pop PySem.F.type_dict_pop (mt_pop1 hu1) (pv 0) (pa_cons (pe_tup (pa_cons (pv 1) (pa_cons (pv 2) pa_nil))) pa_nil))))
 pss_nil)
 (pss_one (ps_ret (pv 3)))))), ?_⟩
    obtain ⟨us, e1, e2, ne0⟩ := c.ls _ m
    obtain ⟨d, r, hg⟩ : ∃ d r, g (a, b) = d :: r := by
      cases h : g (a, b) with
      | nil => exact absurd h ne0
      | cons d r => exact ⟨d, r, rfl⟩
    rw [hg] at e2
    obtain ⟨v, vs, rfl, dv, dvs⟩ : ∃ v vs, us = v :: vs ∧ Dn K (fz H) v d ∧ Dns K (fz H) vs r := by
      cases e2 with
      | cons h t => exact ⟨_, _, rfl, h, t⟩
    refine ⟨_, rfl, _, rfl, _, rfl, (by show 2 ≤ sizeLine; decide), fun t1 n1 => ?_⟩
    have s1 := same_upd (o := .tup [.str a, .str b]) n1
    have g1 : (upd H t1 (.tup [.str a, .str b])) t1 = some (.tup ((kq (a, b)).map kV)) := upd_same
    generalize upd H t1 (.tup [.str a, .str b]) = H1 at s1 g1 ⊢
    have val : valV (ckv ks ad) (kq (a, b)) = some (.ref (ad (a, b))) := by rw [ckv_val, if_pos m]
    have gd1 := DGet.t (s1 _ _ c.at_) g1
    rw [val] at gd1
    have at0 : atI (v :: vs) ((0 : Nat) : Int) = some v := atI_nat rfl
    refine ⟨La, _, rfl, gd1, ad (a, b), _, 0, v, rfl, rfl, SqL.of (s1 _ _ e1), at0, ?_⟩
    refine ⟨_, rfl, _, rfl, _, rfl, (by show 2 ≤ sizeLine; decide), fun t2 n2 => ?_⟩
    have s2 := same_upd (o := .tup [.str a, .str b]) n2
    have g2 : (upd H1 t2 (.tup [.str a, .str b])) t2 = some (.tup ((kq (a, b)).map kV)) := upd_same
    generalize upd H1 t2 (.tup [.str a, .str b]) = H2 at s2 g2 ⊢
    have s02 := s1.trans s2
    have gd2 := DGet.t (s02 _ _ c.at_) g2
    rw [val] at gd2
    refine ⟨La, _, rfl, gd2, 1, rfl, ad (a, b), _, rfl, SqL.of (s02 _ _ e1), fun N nN => ?_⟩
    rw [cut1]
    have s3 := same_upd (o := .lst vs) nN
    have gN : (upd H2 N (.lst vs)) N = some (.lst vs) := upd_same
    have nN0 : H N = none := by
      cases z : H N with
      | none => rfl
      | some o => rw [s02 _ _ z] at nN; cases nN
    generalize upd H2 N (.lst vs) = H3 at s3 gN ⊢
    refine ⟨_, rfl, _, rfl, _, rfl, (by show 2 ≤ sizeLine; decide), fun t4 n4 => ?_⟩
    have s4 := same_upd (o := .tup [.str a, .str b]) n4
    have g4 : (upd H3 t4 (.tup [.str a, .str b])) t4 = some (.tup ((kq (a, b)).map kV)) := upd_same
    generalize upd H3 t4 (.tup [.str a, .str b]) = H4 at s4 g4 ⊢
    have s04 := s02.trans (s3.trans s4)
    have la4 := s04 _ _ c.at_
    have gN4 := s4 _ _ gN
    refine ⟨La, _, rfl, DPut.t la4 g4 (by rw [ckv_len]; exact small200 (by omega)), ?_⟩
    rw [ckv_old m]
    have nLN : N ≠ La := (ne_of_none c.at_ nN0).symm
    have nal : ∀ k ∈ ks, ad k ≠ N := fun k hk => by
      obtain ⟨us2, h1, _⟩ := c.ls k hk
      exact ne_of_none h1 nN0
    have ala : ∀ k ∈ ks, ad k ≠ La := fun k hk => by
      obtain ⟨us2, h1, _⟩ := c.ls k hk
      exact ne_of h1 c.at_ (fun z => nomatch z)
    have fr5 : ∀ x o, H x = some o → x ≠ La → (upd H4 La (.dT (ckv ks fun j => if j = (a, b) then N else ad j))) x = some o := fun x o e n => by
      rw [upd_ne n]
      exact s04 _ _ e
    have hL5 : (upd H4 La (.dT (ckv ks fun j => if j = (a, b) then N else ad j))) La = some (.dT (ckv ks fun j => if j = (a, b) then N else ad j)) := upd_same
    have gN5 : (upd H4 La (.dT (ckv ks fun j => if j = (a, b) then N else ad j))) N = some (.lst vs) := by
      rw [upd_ne nLN]
      exact gN4
    generalize upd H4 La (.dT (ckv ks fun j => if j = (a, b) then N else ad j)) = H5 at fr5 hL5 gN5 ⊢
    refine ⟨_, rfl, _, rfl, _, rfl, (by show 2 ≤ sizeLine; decide), fun t6 n6 => ?_⟩
    have s6 := same_upd (o := .tup [.str a, .str b]) n6
    have g6 : (upd H5 t6 (.tup [.str a, .str b])) t6 = some (.tup ((kq (a, b)).map kV)) := upd_same
    generalize upd H5 t6 (.tup [.str a, .str b]) = H6 at s6 g6 ⊢
    have gd6 := DGet.t (s6 _ _ hL5) g6
    rw [ckv_val, if_pos m, if_pos rfl] at gd6
    refine ⟨La, _, rfl, gd6, Nat.zero_le _, fun M nM => ?_⟩
    generalize hg7 : upd H6 M _ = H7
    obtain ⟨s7, gM⟩ := upd_new hg7 nM
    clear hg7
    have hL7 := s7 _ _ (s6 _ _ hL5)
    have gN7 := s7 _ _ (s6 _ _ gN5)
    have fr7 : ∀ x o, H x = some o → x ≠ La → H7 x = some o := fun x o e n => s7 _ _ (s6 _ _ (fr5 x o e n))
    refine ⟨N, M, vs, rfl, rfl, SqL.of gN7, SqL.of gM, _, rfl, ite2 (fun c1 => ?_) (fun c1 => ?_)⟩
    · have vn : vs = [] := List.isEmpty_iff.mp c1
      have rn : r = [] := by
        rw [vn] at dvs
        cases dvs
        rfl
      have l1 : (g (a, b)).length = 1 := by rw [hg, rn]; rfl
      refine ⟨_, rfl, .inr (.inr (.inl ⟨rfl, .inr ⟨_, hL7⟩⟩)), _, rfl, _, rfl, (by show 2 ≤ sizeLine; decide), fun t8 n8 => ?_⟩
      have s8 := same_upd (o := .tup [.str a, .str b]) n8
      have g8 : (upd H7 t8 (.tup [.str a, .str b])) t8 = some (.tup ((kq (a, b)).map kV)) := upd_same
      generalize upd H7 t8 (.tup [.str a, .str b]) = H8 at s8 g8 ⊢
      refine ⟨La, t8, _, kq (a, b), .ref N, rfl, rfl, s8 _ _ hL7, g8, by rw [ckv_val, if_pos m, if_pos rfl], ?_⟩
      rw [ckv_out]
      have fr9 : ∀ x o, H x = some o → x ≠ La → (upd H8 La (.dT (ckv (ks.filter fun j => decide (j ≠ (a, b))) ad))) x = some o := fun x o e n => by
        rw [upd_ne n]
        exact s8 _ _ (fr7 x o e n)
      have fk : FzK H (upd H8 La (.dT (ckv (ks.filter fun j => decide (j ≠ (a, b))) ad))) := fun x o u e => fr9 _ _ e (ne_of e c.at_ (fun z => nomatch z))
      refine ⟨_, rfl, q _ ad v d r hg fk fr9 (fun k hk => ?_) (dv.same (fz_keep fk)) (c.goneAt l1 fk (fun j hj o e => fr9 _ _ e (ala j hj)) upd_same)⟩
      unfold takeKs at hk
      rw [if_pos l1] at hk
      exact ⟨(List.mem_filter.mp hk).1, .inl rfl⟩
    · have l1 : (g (a, b)).length ≠ 1 := fun z => c1 (by
        rw [hg] at z
        have rn : r = [] := List.length_eq_zero_iff.mp (Nat.succ.inj z)
        rw [rn] at dvs
        cases dvs
        rfl)
      have fk : FzK H H7 := fun x o u e => fr7 _ _ e (ne_of e c.at_ (fun z => nomatch z))
      refine ⟨_, rfl, q _ _ v d r hg fk fr7 (fun k hk => ?_) (dv.same (fz_keep fk)) (c.lessAt m l1 fk (fun j hj o e => fr7 _ _ e (ala j hj)) hL7 nal gN7 (by rw [hg]; exact dvs.same (fz_keep fk)))⟩
      unfold takeKs at hk
      rw [if_neg l1] at hk
      refine ⟨hk, ?_⟩
      by_cases ek : k = (a, b)
      · rw [if_pos ek]
        exact .inr nN0
      · rw [if_neg ek]
        exact .inl rfl
end
end My

namespace My
open PySem PySem.Spec PyProof.Rows L2 Gy Xl Xs Xt
/-! ### how large an item is -/
theorem host_wt {d : PyData} (h : isHost d = true) : d.weight ≤ 8 := by
  match d, h with
  | .str x, h =>
    have h2 : (decide ((1 : Int) ≤ (x.length : Int)) && decide ((x.length : Int) ≤ 8) && allIn LET x) = true := h
    simp only [Bool.and_eq_true, decide_eq_true_eq] at h2
    show x.cps.size ≤ 8
    have : x.length = x.cps.size := rfl
    omega
theorem word_wt {d : PyData} (h : isWord d = true) : d.weight ≤ 12 := by
  match d, h with
  | .str x, h =>
    have h2 : (decide ((1 : Int) ≤ (x.length : Int)) && decide ((x.length : Int) ≤ 12) && allIn WSG x) = true := h
    simp only [Bool.and_eq_true, decide_eq_true_eq] at h2
    show x.cps.size ≤ 12
    have : x.length = x.cps.size := rfl
    omega
theorem idx_wt {n : Int} {d : PyData} (h : isIdx n d = true) (n16 : n ≤ 16) : d.weight ≤ 4 := by
  match d, h with
  | .int i, h =>
    rw [isIdx_i, Bool.and_eq_true, decide_eq_true_eq, decide_eq_true_eq] at h
    show (if (i == 0) = true then 0 else i.natAbs.log2 + 1) ≤ 4
    have z : ∀ m : Fin 16, (if ((m.val : Int) == 0) = true then 0 else (m.val : Int).natAbs.log2 + 1) ≤ 4 := by decide +kernel
    have := z ⟨i.toNat, by omega⟩
    have e : ((i.toNat : Nat) : Int) = i := by omega
    simp only [e] at this
    exact this
theorem hosts_wt : ∀ {ds : List PyData}, ds.all isHost = true → PyData.weightAll ds ≤ ds.length * 9
  | [], _ => Nat.zero_le _
  | d :: ds, h => by
    have h2 : isHost d = true ∧ ds.all isHost = true := by simpa only [List.all_cons, Bool.and_eq_true] using h
    show d.weight + 1 + PyData.weightAll ds ≤ (ds.length + 1) * 9
    have := host_wt h2.1
    have := hosts_wt h2.2
    omega
theorem kinds_wt {k : Str} (h : k ∈ KINDS) : k.cps.size ≤ 4 := by
  unfold KINDS at h
  simp only [List.mem_cons, List.not_mem_nil, or_false] at h
  rcases h with rfl | rfl | rfl | rfl | rfl <;> decide +kernel
theorem item_wt {d : PyData} (h : isItem d = true) (p : ∀ ds es, d = .tuple ds → .tuple es ∈ ds.tail → es.length ≤ 14) : d.weight ≤ 150 := by
  match d, h with
  | .tuple (.str k :: ds), h =>
    have h1 : (if k = "message" then isMsg ds else if k = "bye" then ds.isEmpty else decide (k ∈ KINDS) && isRel (.tuple ds)) = true := h
    split at h1
    · next e =>
      subst e
      match ds, h1 with
      | [w, x, b], h1 =>
        have h2 : isHost w = true ∧ isWord x = true ∧ isIdx 2 b = true := by simpa only [isMsg, Bool.and_eq_true] using h1
        show 7 + 1 + (w.weight + 1 + (x.weight + 1 + (b.weight + 1 + 0))) ≤ 150
        have := host_wt h2.1
        have := word_wt h2.2.1
        have := idx_wt h2.2.2 (by decide)
        omega
    · split at h1
      · next e =>
        subst e
        match ds, h1 with
        | [], _ => decide +kernel
      · have h2 : k ∈ KINDS ∧ isRel (.tuple ds) = true := by simpa only [Bool.and_eq_true, decide_eq_true_eq] using h1
        match ds, h2.2, p with
        | [.tuple es, c], h2', p =>
          have h3 : isPath (.tuple es) = true ∧ isIdx ((es.length : Int) - 1) c = true := by simpa only [isRel, Bool.and_eq_true] using h2'
          have h4 : decide (3 ≤ es.length) = true ∧ es.all isHost = true ∧ decide ((txts es).Nodup) = true := by simpa only [isPath, Bool.and_eq_true] using h3.1
          have le := p _ es rfl List.mem_cons_self
          show k.cps.size + 1 + (PyData.weightAll es + 1 + (c.weight + 1 + 0)) ≤ 150
          have := kinds_wt h2.1
          have := hosts_wt h4.2.1
          have := idx_wt h3.2 (by omega)
          omega
theorem ent_bd {ds : List PyData} (en : Ent 4 12 ds) (h : isItem (.tuple ds) = true) : Bd 3 150 (.tuple ds) := by
  have b : Bd 3 6804 (.tuple ds) := Bd.tup (L := 4) en.2.2.1 en.2.1 (by decide)
  refine ⟨b.sh, b.lf, b.dp, item_wt h fun ds2 es e m => ?_, b.sm, b.so⟩
  injection e with e
  subst e
  exact Nat.le_trans (en.2.2.2 _ m es rfl).1 (by decide)
theorem a0_nat5 {n : Nat} (h : n ≤ 600) : A0 (.int (n : Int)) := by
  have z : ∀ m : Fin 601, (decide ((PyData.shown (.int ((m.val : Nat) : Int))).length ≤ 40) && decide (((m.val : Nat) : Int).natAbs.log2 < 110)) = true := by decide +kernel
  exact a0_int (z ⟨n, by omega⟩)
end My

/-! list.count of a flat value in a list of flat values. -/
namespace Gy
open PySem PySem.Spec PyProof.Rows L2
theorem cnt_flat {y : V} : ∀ {ys : List V} {its : List Value}, Vals ys its → ys.all flatV = true → its.countP (eqU y) = ys.countP fun z => eqV z y
  | [], _, .nil, _ => rfl
  | z :: ys, _, .cons r t, f => by
    rw [List.all_cons, Bool.and_eq_true] at f
    rw [List.countP_cons, List.countP_cons, cnt_flat t f.2, eqU_of r f.1]
def rCntF (K : PySem.W.Frag) : V → List V → Hp → VK → Prop := fun x xs H Q => ∃ (p : Addr) (ys : List V) (y : V), x = .ref p ∧ xs = [y] ∧ SqL K H p ys ∧ flatV y = true ∧ ys.all flatV = true ∧ Q (.int ((ys.countP fun z => eqV z y : Nat) : Int)) H
theorem mt_lcountF {X : Cx} : MtR X "list.count" (rCntF X.K) := by
  intro pins s σ H x xs v us Q I rx rxs h
  obtain ⟨p, ys, y, rfl, rfl, hs, fy, fys, q⟩ := h
  cases rx
  obtain ⟨u, rfl, ru⟩ := rxs.one
  obtain ⟨its, rv, ⟨⟨cl, d1, dt, so⟩, n, h1, h2, h3, h4⟩, h5⟩ := I.list hs
  simp only at h2 h4
  subst h2 h4
  refine call_meets PySem.F.slot_list_count ⟨_, h1, rfl⟩ PySem.F.entry_list_count (PySem.F.args_list_count_2 _ _) (SeqAt.list_countAt p its.toArray n d1 so u (eqU y)) ⟨h1, fun u' hu' => mem_eqAt ru fy rv fys u' (by simpa using hu'), ?_⟩
  have ec : its.toArray.toList.countP (eqU y) = ys.countP fun z => eqV z y := cnt_flat rv fys
  refine ⟨.int ((ys.countP fun z => eqV z y : Nat) : Int), H, I.tok _, ⟨s.toks, ?_⟩, q⟩
  rw [← ec]
end Gy

/-! In an except suite: isinstance of the caught error with a tuple of classes. -/
namespace Xl
open PySem PySem.Spec PyProof.Rows L2 Gy Xt
def rIsT (K : PySem.W.Frag) (a : Addr) (cls : Value) (d : Option Addr) : List V → Hp → VK → Prop := fun xs H Q => ∃ (D dd tp : Addr) (fs : List (Str × V)) (cs : List V) (b : Bool),
  xs = [.ref a, .ref tp] ∧ cls = .ref D ∧ d = some dd ∧ H dd = some (.xd fs) ∧ XCl K D ∧ Tz H tp cs ∧ (∀ its, Vals cs its → PySem.W.kitAny K (.ref D) its = some b) ∧ Q (.bl b) H
theorem call_isT {X : Cx} {a : Addr} {oe : Obj} {cls : Value} {d : Option Addr} {pn : List (Addr × Obj)} (cg : PySem.W.specialIn X.K (.builtin "object.__class__") "__get__" = some (some (.builtin "getset_descriptor.__get__")))
    (ct : PySem.W.takesIn X.K (.builtin "object.__class__") = some true) (hz : Zc cls d oe) (hf : ∃ vs, oe.data = .fields vs) : CallR (X.suite a ((a, oe) :: pn)) (.builtin "isinstance") (rIsT X.K a cls d) := by
  intro pins s σ H xs us Q I r h
  obtain ⟨D, dd, tp, fs, cs, b, rfl, rfl, rfl, hd, T, hc, e, q⟩ := h
  obtain ⟨u1, u2, rfl, r1, r2⟩ := vals2 r
  cases r1
  cases r2
  obtain ⟨its, rv, ⟨o, ho, hcl, n, hda⟩, _⟩ := I.tuple hc.sq
  have e' := e its rv
  obtain ⟨ha, _⟩ := I.pin (a, oe) (List.mem_append_left _ List.mem_cons_self)
  obtain ⟨vs, hv⟩ := hf
  obtain ⟨mA, ns, _⟩ := (show ObjOk X.prog X.w H s.heap dd (.xd fs) from I.hok dd _ hd)
  obtain ⟨od, go, _⟩ := lookIn_ns ns
  have cl : (PySem.W.clsIn X.K D).isSome = true := by
    obtain ⟨cd, z, _⟩ := PySem.W.any_some T.hd
    rw [z]
    rfl
  have J : PySem.W.InstAt s.heap a oe D (some od) := by
    obtain ⟨oc, odd, oda, osl⟩ := oe
    obtain ⟨h1, h2⟩ := hz
    dsimp only at h1 h2 hv
    subst h1 h2 hv
    exact ⟨ha, rfl, rfl, go⟩
  obtain ⟨oc, od2, oda, osl⟩ := o
  dsimp only at hcl hda
  subst hcl hda
  exact PySem.W.kia_tup (its := its) (n := n) (PySem.W.kitx_exc cl T.ga T.gg T.ex T.ca cg ct T.ob) I.kIn J ho e' (fun z => nomatch z) fun tk => ⟨.bl b, H, I.tok tk, rfl, q⟩
end Xl

/-! a lambda called in a try of a def whose suites read what the def has set: what is raised is told of the very state. -/
namespace Xq
open PySem PySem.Spec PyProof.Rows L2 LamX
abbrev resCx (X : Cx) (CXg : CXT) (Eg : XK) (Ng : List Str) (qg : Str) (sg : Scope) (g : Addr) (cdg : Value) (s : Shared) (H : Hp) : Cx := cxOf CXg X.prog X.w X.K X.mg X.base Ng qg sg g cdg X.A X.stack s H Eg
section
variable {X : Cx} {pins : List (Addr × Obj)} {σ : L2.St} {H : Hp} {s : Shared}
theorem pe_actS {CXg : CXT} {Eg : XK} {Ng : List Str} {qg : Str} {sg : Scope} {g f c' : Addr} {cdg pm ctv : Value} {ar : Arguments} {bd : Expr} {sc : Scope} {k i : Nat} {a : Str} {pn : List (Addr × Obj)} {xe : Value → Shared → Prop} {W : WX} {tb : XK → TE} {p1 p2 : Pos}
    (I0 : Inv X pins σ H s) (LS : LamS X.env.scope sc) (of : s.heap.get? f = some (PySem.W.kla_obj "<lambda>" (X.env.qual ++ "<lambda>") ar bd sc (cloFrom X.env.cells sc.names []) pm c' ctv)) (nf : H f = none) (nfr : f ∉ frs X.stack)
    (bi : bindArgs (PySem.W.kla_fn "<lambda>" (X.env.qual ++ "<lambda>") ar bd sc (cloFrom X.env.cells sc.names []) pm (.ref c') ctv) ⟨[], []⟩ = pure [])
    (tk : Takes ((resCx X CXg Eg Ng qg sg g cdg s H).tr pn xe) W) (ro : Room (k + 1) (X.A.deeper (envOfC qg sg s.heap.objs.size g cdg)))
    (hb : ∀ (A : Around) (outer : List Env) (s : Shared) (H : Hp) (E : XK), Room k (A.deeper (lamEnv X sc s.heap.objs.size f c')) → PE (lamCx X A outer s H E sc f c') bd (tb E))
    (nN : Ng[i]? = some a) (vi : Vis sg a) (nd : (a == ("__debug__" : Str)) = false := by decide) (nc : (a == ("__classdict__" : Str)) = false := by decide) :
    PE ((resCx X CXg Eg Ng qg sg g cdg s H).tr pn xe) (.Call (.Name a p1) [] [] p2)
      (fun σZ HZ Q => σZ[i]? = some (some (.ref f)) ∧ HZ c' = some (CodeO c' (X.env.qual ++ "<lambda>")) ∧ tb (WE W σZ) σ HZ Q) := by
  refine ⟨fun pinz sz σz Hz Qz Iz hyp => ?_⟩
  obtain ⟨isF, isC, rd⟩ := hyp
  refine wpAny_Call_Name_kw (thn ((pe_var (pos := p1) (i := i) nN vi nd nc).run pinz sz σz Hz (fun v H1 => v = .ref f ∧ H1 = Hz) Iz ⟨.ref f, isF, rfl, rfl⟩) ?_)
  rintro u s1 ⟨v, H1, I1, ru, rfl, rfl⟩
  obtain rfl : u = Value.ref f := ru
  have o1 := I1.base.keep f _ of nf nfr (fun z => nomatch (show f ∈ ([] : List Addr) from z))
  refine PySem.W.callWith_F0 ⟨_, _, _, _, o1⟩ ?_
  have U := I1.base
  obtain ⟨⟨oc, vs, t, h1, h2, h3⟩, _, _⟩ := I1.hok c' _ isC
  have run : codeAny (model X.prog X.w) (X.A.deeper (envOfC qg sg s.heap.objs.size g cdg)) (.call (.ref f) ⟨[], []⟩) (CR (L2.CX X.prog X.w) (envOfC qg sg s.heap.objs.size g cdg :: X.stack) X.prog X.w H1 s1 Qz (WE W σz)) s1 := by
    refine PySem.W.kla_callFunE ro.depth o1 rfl LS.co LS.gen rfl ⟨c', oc, vs, t, rfl, h1, h2, h3⟩ ?_
    rw [bi]
    refine wpAny_pure (wpAny_newFunctionEnv (fun y m => (LS.own y m).2) (fun y m => absurd m (by simp)) (fun hh ns sb => ⟨I1.nolimit.fresh _ sb, ?_⟩) LS.kind)
    have kp : ∀ b o, s1.heap.get? b = some o → hh.get? b = some o := fun b o e => sb.extBut b o (Nat.ne_of_lt (Heap.lt_size e)) (Heap.get?_push_of_some _ e)
    have J := lam_start2 (E := WE W σz) (A := X.A.deeper (envOfC qg sg s.heap.objs.size g cdg)) (outer := envOfC qg sg s.heap.objs.size g cdg :: X.stack) (f := f) (c' := c') (tk := s1.toks + ([] : List (Str × Value)).length) I0 LS I1.env0 ro.hd U ns kp
    refine PySem.W.kla_codeExpr (wpAny_mono ((hb _ _ s1 H1 _ (ro.deeper _)).run [] _ _ H1 Qz J rd) ?_ fun _ _ z => z)
    rintro v s' ⟨w', H', J', rv, q⟩
    exact ⟨w', H', J'.os, J'.bare, J'.base, J'.hok, rv, q⟩
  refine wpAny_call (codeAny_mono run ?_)
  rintro (e | fl) s' hq
  · exact passAt tk σz pinz _ _ e s' I1 hq
  · cases fl with
    | ret u => exact I1.after hq
    | next => exact hq.elim
    | brk => exact hq.elim
    | cont => exact hq.elim
end
/-- as GivesTo, with what is raised told of the state -/
def GivesS (X : Cx) (Ng : List Str) (x : Str) (sg : Scope) (g : Addr) (cdg : Value) (bg : List Stmt) (a q : Str) (TT : (XK → Hp → VK → Prop) → Hp → VK → Prop) : Prop :=
  ∀ (f c' : Addr) (s : Shared) (H : Hp) (Q : VK) (tl : XK → Hp → VK → Prop),
    (∀ (W : WX) (pn : List (Addr × Obj)) (xe : Value → Shared → Prop) (p1 p2 : Pos), Takes ((resCx X C8.CX0 C8.E0 Ng x sg g cdg s H).tr pn xe) W →
      PE ((resCx X C8.CX0 C8.E0 Ng x sg g cdg s H).tr pn xe) (.Call (.Name a p1) [] [] p2) (fun σZ HZ Q => σZ[0]? = some (some (.ref f)) ∧ HZ c' = some (CodeO c' q) ∧ tl (WE W σZ) HZ Q)) →
    H c' = some (CodeO c' q) → TT tl H Q →
    ∃ t, PSs (resCx X C8.CX0 C8.E0 Ng x sg g cdg s H).nox bg t ∧ t { nx := fun _ H' => Q .non H', rt := Q } (L2.start Ng [.ref f]) H
section
variable {X : Cx}
/-- x(lambda: body), x told by GivesS -/
theorem pe_lamcallS {T : List (Addr × Str)} {TT : (XK → Hp → VK → Prop) → Hp → VK → Prop} {x a : Str} {g c P : Addr} {k : Nat} {pg : Arguments} {bg : List Stmt} {sg : Scope} {dV kV doc pm cdv ct oc : Value} {an od : Option Addr} {osl : Array (Option Value)} {Ng : List Str}
    {ar : Arguments} {bd : Expr} {sc : Scope} {t : XK → TE} {p lp pos : Pos} (gl : Gl X x) (gm : X.mg x = some (.ref g)) (gk : PySem.W.keepIn X.K (.ref g) = true)
    (lg : X.K.lookup g = some ⟨oc, od, .func (PySem.W.fnOf x x pg bg sg dV kV doc pm an cdv ct), osl⟩) (cg : PySem.W.codeIn X.K cdv x = true) (bi : L2.Binds X.K (PySem.W.fnOf x x pg bg sg dV kV doc pm an cdv ct) [a] []) (Sg : FnScope Ng [a] sg) (n0 : Ng[0]? = some a) (vi : Vis sg a)
    (GS : GivesS X Ng x sg g cdv bg a (X.env.qual ++ "<lambda>") TT)
    (TB : TabB X.base X.mg c P) (co : X.env.code = .ref c) (mT : (P, X.env.qual ++ "<lambda>") ∈ T) (uT : ∀ p ∈ T, p.1 = P → p.2 = X.env.qual ++ "<lambda>") (ro : Room (k + 2) X.A) (LS : LamS X.env.scope sc) (df : defaultsOf ar X.env = ([], []))
    (lb : ∀ (q : Str) (cl : List (Str × Addr)) (pm cv ctv : Value), bindArgs (PySem.W.kla_fn "<lambda>" q ar bd sc cl pm cv ctv) ⟨[], []⟩ = pure [])
    (hb : ∀ (A : Around) (outer : List Env) (s : Shared) (H : Hp) (E : XK) (f c' : Addr), Room k (A.deeper (lamEnv X sc s.heap.objs.size f c')) → PE (lamCx X A outer s H E sc f c') bd (t E))
    (d1 : (x == ("__debug__" : Str)) = false := by decide) (d2 : (a == ("__debug__" : Str)) = false := by decide) (d3 : (a == ("__classdict__" : Str)) = false := by decide) :
    PE X (.Call (.Name x p) [.Lambda ar bd sc lp] [] pos) (tLam T TT t) := by
  refine ⟨fun pins s σ H Q I hyp => ?_⟩
  obtain ⟨tabs, hyp⟩ := hyp
  refine wpAny_Call_Name_kw (ld_glob I gl gm ?_ d1)
  refine PySem.W.callWith_K (h₀ := X.base) I.ok.mod.kin gk ?_ (by rfl) (by rfl)
  show wpAny _ _ (spliced ((false, eval (.Lambda ar bd sc lp) X.env) :: backTo pos (starEach [] X.env))) _ _ s
  refine Calls.spliced_cons (lam_make2 I TB co mT uT tabs df (LS.has I.ok) ?_)
  intro f c' pm' ctv H1 s' I1 eN T1 of nf nfr oc1
  refine Calls.spliced_nil ⟨I1.kIn, ?_⟩
  refine wpAny_call (codeAny_mono (?_ : codeAny (model X.prog X.w) X.A (.call (.ref g) ⟨[.ref f], []⟩) (CR C8.CX0 X.stack X.prog X.w H1 s' Q C8.E0) s') ?_)
  · refine run_ofS (N := Ng) (ps := [a]) (us := [.ref f]) (vs := [.ref f]) lg cg Sg ro I1.env0 (bi s' [.ref f] I1.kIn rfl) (.cons rfl .nil) rfl fun ro' => ?_
    obtain ⟨u, hu, hq⟩ := GS f c' s' H1 Q (fun E H' Q' => t E σ H' Q') (fun W pn xe p1 p2 tk => pe_actS (i := 0) I1 LS of nf nfr (lb _ _ _ _ _) tk ro' (fun A outer s H E r2 => hb A outer s H E f c' r2) n0 vi d2 d3) oc1 (hyp H1 eN T1)
    exact ⟨u, hu.nox, hq⟩
  · rintro (e | fl) s2 hq
    · exact (show False from hq).elim
    · cases fl with
      | ret u => exact I1.after hq
      | next => exact hq.elim
      | brk => exact hq.elim
      | cont => exact hq.elim
end
end Xq

namespace My
open PySem PySem.Spec PyProof.Rows L2 Gy Xl Xs Xt Xo Xp Xd Xq LamX
/-! ### what a call that a lambda makes comes to -/
theorem pe_or {X : Cx} {e : Expr} {t1 t2 : TE} (h1 : PE X e t1) (h2 : PE X e t2) : PE X e (fun σ H Q => t1 σ H Q ∨ t2 σ H Q) := ⟨fun pins s σ H Q I h => h.elim (fun h => h1.run pins s σ H Q I h) fun h => h2.run pins s σ H Q I h⟩
structure X25 (K : PySem.W.Frag) (N I E T R U : Addr) : Prop where
  xN : XCl K N
  xI : XCl K I
  xE : XCl K E
  mNR : PySem.W.exmOne K (.ref N) (.ref R) = some true
  mIR : PySem.W.exmOne K (.ref I) (.ref R) = some true
  mER : PySem.W.exmOne K (.ref E) (.ref R) = some false
  mEE : PySem.W.exmOne K (.ref E) (.ref E) = some true
  kNN : PySem.W.kitOne K (.ref N) (.ref N) = some true
  kNI : PySem.W.kitOne K (.ref N) (.ref I) = some false
  kNT : PySem.W.kitOne K (.ref N) (.ref T) = some false
  kNL : PySem.W.kitOne K (.ref N) (.type "LookupError") = some false
  kIN : PySem.W.kitOne K (.ref I) (.ref N) = some false
  kII : PySem.W.kitOne K (.ref I) (.ref I) = some true
  kIT : PySem.W.kitOne K (.ref I) (.ref T) = some false
  kIL : PySem.W.kitOne K (.ref I) (.type "LookupError") = some false
  kEU : PySem.W.kitOne K (.ref E) (.ref U) = some false
  kEK : PySem.W.kitOne K (.ref E) (.type "KeyError") = some false
  kEX : PySem.W.kitOne K (.ref E) (.type "IndexError") = some false
  kEL : PySem.W.kitOne K (.ref E) (.type "LookupError") = some true
  fN : PySem.W.findIn K (.ref N) "value" = some none
  fI : PySem.W.findIn K (.ref I) "value" = some none
  fEs : PySem.W.findIn K (.ref E) "source" = some none
  fEg : PySem.W.findIn K (.ref E) "goal" = some none
theorem vals3 {a b c : V} {its : List Value} (h : Vals [a, b, c] its) : ∃ x y z, its = [x, y, z] ∧ RelV a x ∧ RelV b y ∧ RelV c z := by
  cases h with
  | cons h1 h =>
    cases h with
    | cons h2 h =>
      cases h with
      | cons h3 h =>
        cases h
        exact ⟨_, _, _, rfl, h1, h2, h3⟩
theorem any_two {K : PySem.W.Frag} {t a b : Value} (h1 : PySem.W.kitOne K t a = some false) (h2 : PySem.W.kitOne K t b = some false) : PySem.W.kitAny K t [a, b] = some false := by
  unfold PySem.W.kitAny
  rw [h1]
  unfold PySem.W.kitAny
  rw [h2]
  rfl
theorem any_three {K : PySem.W.Frag} {t a b c : Value} (h1 : PySem.W.kitOne K t a = some false) (h2 : PySem.W.kitOne K t b = some false) (h3 : PySem.W.kitOne K t c = some false) : PySem.W.kitAny K t [a, b, c] = some false := by
  unfold PySem.W.kitAny
  rw [h1]
  exact any_two h2 h3
theorem one_no {m : Nat} {z : V} (h : m < 1) (e : [V.bl false, .bl true, .bl false][m]? = some z) : eqV z (.bl true) = false := by
  obtain rfl : m = 0 := by omega
  cases e
  rfl
theorem xf_of {K : PySem.W.Frag} {C : Addr} (x : XCl K C) : XfC K C := ⟨x.ga, x.gg, x.ex, x.hd⟩
/-- what is told when the call ends, or raises one of the errors -/
def HRes (K : PySem.W.Frag) (N I E : Addr) (Q : VK) (cls : Value) (dx : Option Addr) (H' : Hp) : Prop :=
    (∃ (nm : Str) (C : Addr) (v : V) (d : PyData) (dd : Addr), ((C = N ∧ nm = "name") ∨ (C = I ∧ nm = "item")) ∧ cls = .ref C ∧ dx = some dd ∧ H' dd = some (.xd [("value", v)]) ∧ Dn K H' v d ∧ Fits d ∧ ∀ H'' L', Same H' H'' → H' L' = none → H'' L' = some (.lst [.str nm, .str d.shown]) → Q (.ref L') H'') ∨
    (∃ (v1 v2 : V) (d1 d2 : PyData) (dd : Addr), cls = .ref E ∧ dx = some dd ∧ H' dd = some (.xd [("goal", v2), ("source", v1)]) ∧ Dn K H' v1 d1 ∧ Dn K H' v2 d2 ∧ Fits (.list [d1, d2]) ∧ ∀ H'' L', Same H' H'' → H' L' = none → H'' L' = some (.lst [.str "empty", .str (PyData.shown (.list [d1, d2])), .bl true]) → Q (.ref L') H'')
def TRes (K : PySem.W.Frag) (N I E : Addr) (tl : XK → Hp → VK → Prop) (H : Hp) (Q : VK) : Prop := ∀ (L : Addr) (Ech : XK) (Q' : VK), H L = none → (∀ cls dx H', HRes K N I E Q cls dx H' → Ech cls dx H') → (∀ v H', Q (.ref L) H' → Q' v H') → tl Ech (upd H L (.lst [.str "done"])) Q'
section
variable {X : Cx} {N I E T R U : Addr}
theorem res_gives {g : Addr} {cdg : Value} {q : Str} (Y : Bn X.mg) (G : Cg X.K) (gd : X.A.guards = some []) (hr : Room 1 X.A) (XX : X25 X.K N I E T R U) (gN : X.mg "InvalidName" = some (.ref N)) (gI : X.mg "InvalidItem" = some (.ref I)) (gE : X.mg "EmptyChannel" = some (.ref E)) (gT : X.mg "InvalidText" = some (.ref T)) (gR : X.mg "RelinkTreeError" = some (.ref R)) (gU : X.mg "UnknownHost" = some (.ref U))
    (zL : X.mg "LookupError" = none) (zK : X.mg "KeyError" = none) (zX : X.mg "IndexError" = none) :
    GivesS X ["_law_call", "_law_result_here", "e", "_law_kinds", "_law_others"] "_law_result" (defScope s_law_result) g cdg (defBody s_law_result) "_law_call" q (TRes X.K N I E) := by
  intro f c' s H Q tl act hc h
  have hr' : Room 0 (cxOf C8.CX0 X.prog X.w X.K X.mg X.base ["_law_call", "_law_result_here", "e", "_law_kinds", "_law_others"] "_law_result" (defScope s_law_result) g cdg X.A X.stack s H C8.E0).nox.A := hr.deeper _
  have gd' : (cxOf C8.CX0 X.prog X.w X.K X.mg X.base ["_law_call", "_law_result_here", "e", "_law_kinds", "_law_others"] "_law_result" (defScope s_law_result) g cdg X.A X.stack s H C8.E0).nox.A.guards = some [] := gd
  have hu70 := Room.units70 hr'
  have hlen : (["_law_call", "_law_result_here", "e", "_law_kinds", "_law_others"] : List Str).length = 5 := rfl
  refine ⟨_, pss_cons (ps_set (i := 1) sc_law_result.nd rfl (.inl rfl) (pe_lst (pa_cons pe_str pa_nil)))
    (pss_cons (ps_try_manyAs (i := 2) (n := "e") (tb := fun W D σ H => σ[0]? = some (some (.ref f)) ∧ H c' = some (CodeO c' q) ∧ tl (WE W σ) H fun _ H' => D.nx σ H') rfl rfl sc_law_result.nd rfl rfl L2.takes0
      (fun W pn xe tk _ => ?_)
      (.cons ⟨rfl, by decide, .inl gR⟩ (fun a oe cls d pn hz hf => pss_cons (ps_set (i := 3) sc_law_result.nd rfl (.inl rfl) (pe_lst (pa_cons (pe_callB (show CallR _ (.builtin "isinstance") (rIsS X.K a cls d) from call_isS G.cg G.ct hz hf) (by rfl) Y.isinstance (by decide +kernel) (pa_cons (pv 2) (pa_cons (pe_glob (v := .ref N) (by rfl) gN rfl) pa_nil))) (pa_cons (pe_callB (show CallR _ (.builtin "isinstance") (rIsS X.K a cls d) from call_isS G.cg G.ct hz hf) (by rfl) Y.isinstance (by decide +kernel) (pa_cons (pv 2) (pa_cons (pe_glob (v := .ref I) (by rfl) gI rfl) pa_nil))) (pa_cons (pe_callB (show CallR _ (.builtin "isinstance") (rIsT X.K a cls d) from call_isT G.cg G.ct hz hf) (by rfl) Y.isinstance (by decide +kernel) (pa_cons (pv 2) (pa_cons (pe_tupZ (pa_cons (pe_glob (v := .ref T) (by rfl) gT rfl) (pa_cons (pe_bltn (v := .ty "LookupError") (by rfl) zL (by decide +kernel) rfl) pa_nil))) pa_nil))) pa_nil)))))
      (pss_one (ps_set (i := 1) sc_law_result.nd rfl (.inl rfl) (pe_ifExp (pt_cmpR op_eq (show PE _ _ (tBM X.K "list" (rCntF X.K) (tVar 3) _) from pe_bm PySem.F.plainAttrs_list PySem.F.slot_list_count PySem.F.type_list_count mt_lcountF (pv 3) (pa_cons pe_bl pa_nil)) pe_int (nomark _))
        (pe_lst (pa_cons (pe_ix (show IxR _ (rIxL X.K) from ix_list) (pe_lst (pa_cons pe_str (pa_cons pe_str (pa_cons pe_str pa_nil)))) (show PE _ _ (tBM X.K "list" (rIndex X.K) (tVar 3) _) from pe_bm PySem.F.plainAttrs_list PySem.F.slot_list_index PySem.F.type_list_index mt_index (pv 3) (pa_cons pe_bl pa_nil)) (fun _ _ => rfl)) (pa_cons (pe_callB (show CallR _ (.builtin "repr") (rReprN X.K) from repr_dn gd' hu70) (by rfl) Y.repr (by decide +kernel) (pa_cons (pe_or (pe_xf (xf_of XX.xN) XX.fN hz hf (pv 2)) (pe_xf (xf_of XX.xI) XX.fI hz hf (pv 2))) pa_nil)) pa_nil)))
        (pe_lst (pa_cons pe_str pa_nil))))))
      (.cons ⟨rfl, by decide, .inl gE⟩ (fun a oe cls d pn hz hf => pss_cons (ps_set (i := 4) sc_law_result.nd rfl (.inl rfl) (pe_callB (show CallR _ (.builtin "isinstance") (rIsT X.K a cls d) from call_isT G.cg G.ct hz hf) (by rfl) Y.isinstance (by decide +kernel) (pa_cons (pv 2) (pa_cons (pe_tupZ (pa_cons (pe_glob (v := .ref U) (by rfl) gU rfl) (pa_cons (pe_bltn (v := .ty "KeyError") (by rfl) zK (by decide +kernel) rfl) (pa_cons (pe_bltn (v := .ty "IndexError") (by rfl) zX (by decide +kernel) rfl) pa_nil)))) pa_nil))))
      (pss_one (ps_set (i := 1) sc_law_result.nd rfl (.inl rfl) (pe_lst (pa_cons pe_str (pa_cons (pe_callB (show CallR _ (.builtin "repr") (rReprN X.K) from repr_dn gd' hu70) (by rfl) Y.repr (by decide +kernel) (pa_cons (pe_lst (pa_cons (pe_xf (xf_of XX.xE) XX.fEs hz hf (pv 2)) (pa_cons (pe_xf (xf_of XX.xE) XX.fEg hz hf (pv 2)) pa_nil))) pa_nil)) (pa_cons (pe_and (pe_callB (show CallR _ (.builtin "isinstance") (rIsS X.K a cls d) from call_isS G.cg G.ct hz hf) (by rfl) Y.isinstance (by decide +kernel) (pa_cons (pv 2) (pa_cons (pe_bltn (v := .ty "LookupError") (by rfl) zL (by decide +kernel) rfl) pa_nil))) (pe_one (pe_not (pv 4)))) pa_nil))))))) .nil)))
    (pss_one (ps_ret (pv 1)))), ?_⟩
  · refine ⟨fun pins s' σ H' D I' h' => ?_⟩
    exact (pss_one (ps_expr (act W pn xe _ _ tk))).run pins s' σ H' D I' h'
  · have hu := hr'.units
    refine ⟨(by show 1 ≤ sizeLine; decide), fun L nL => ?_⟩
    have hL := same_upd (o := .lst [.str "done"]) nL
    refine ⟨rfl, hL _ _ hc, h L _ _ nL ?_ fun v H' q => ⟨_, rfl, q⟩⟩
    rintro cls dx H' (⟨nm, C, v, d, dd, hC, rfl, rfl, hd, dn, ft, q⟩ | ⟨v1, v2, d1, d2, dd, rfl, rfl, hd, dn1, dn2, ft, q⟩)
    · rcases hC with ⟨rfl, rfl⟩ | ⟨rfl, rfl⟩
      · refine ⟨true, XX.mNR, fun _ a na => ?_, fun z => nomatch z⟩
        refine ⟨_, rfl, C, dd, _, .ref C, .ref C, true, rfl, rfl, rfl, hd, XX.xN, .own C, XX.kNN, _, rfl, C, dd, _, .ref I, .ref I, false, rfl, rfl, rfl, hd, XX.xN, .own I, XX.kNI, _, rfl, (by show 2 ≤ sizeLine; decide), fun t3 o3 n3 s3 z3 => ?_⟩
        generalize upd H' t3 o3 = H3 at s3 z3 ⊢
        refine ⟨C, dd, t3, _, _, false, rfl, rfl, rfl, s3 _ _ hd, XX.xN, z3, fun its rv => ?_, ?_⟩
        · obtain ⟨x, y, rfl, r1, r2⟩ := vals2 rv
          cases r1
          cases r2
          exact any_two XX.kNT XX.kNL
        refine ⟨(by show 3 ≤ sizeLine; decide), fun l4 n4 => ?_⟩
        generalize hg : upd H3 l4 _ = H4
        obtain ⟨s4, g4⟩ := upd_new hg n4
        clear hg
        have s04 := s3.trans s4
        refine ⟨_, rfl, .inl ⟨rfl, _, SqL.of g4⟩, l4, _, .bl true, rfl, rfl, SqL.of g4, rfl, rfl, rfl, _, rfl, ite2 (fun _ => ?_) (fun c => absurd (by rfl) c)⟩
        refine ⟨(by show 3 ≤ sizeLine; decide), fun l5 n5 => ?_⟩
        generalize hg : upd H4 l5 _ = H5
        obtain ⟨s5, g5⟩ := upd_new hg n5
        clear hg
        have s05 := s04.trans s5
        refine ⟨_, rfl, .inl ⟨rfl, _, SqL.of (s5 _ _ g4)⟩, l4, _, .bl true, 0, .bl true, rfl, rfl, SqL.of (s5 _ _ g4), rfl, rfl, rfl, rfl, (fun m z' hm _ => absurd hm (Nat.not_lt_zero m)), l5, _, ((0 : Nat) : Int), .str "name", rfl, rfl, SqL.of g5, atI_nat (j := 0) rfl, ?_⟩
        refine .inl ⟨_, rfl, rfl, rfl, dd, _, _, rfl, s05 _ _ hd, rfl, _, d, rfl, dn.same s05, ft.1, ft.2.1, ft.2.2, (by show 2 ≤ sizeLine; decide), fun l6 n6 => ?_⟩
        generalize hg : upd H5 l6 _ = H6
        obtain ⟨s6, g6⟩ := upd_new hg n6
        clear hg
        exact ⟨_, rfl, q H6 l6 (s05.trans s6) (same_none0 s05 n6) g6⟩
      · refine ⟨true, XX.mIR, fun _ a na => ?_, fun z => nomatch z⟩
        refine ⟨_, rfl, C, dd, _, .ref N, .ref N, false, rfl, rfl, rfl, hd, XX.xI, .own N, XX.kIN, _, rfl, C, dd, _, .ref C, .ref C, true, rfl, rfl, rfl, hd, XX.xI, .own C, XX.kII, _, rfl, (by show 2 ≤ sizeLine; decide), fun t3 o3 n3 s3 z3 => ?_⟩
        generalize upd H' t3 o3 = H3 at s3 z3 ⊢
        refine ⟨C, dd, t3, _, _, false, rfl, rfl, rfl, s3 _ _ hd, XX.xI, z3, fun its rv => ?_, ?_⟩
        · obtain ⟨x, y, rfl, r1, r2⟩ := vals2 rv
          cases r1
          cases r2
          exact any_two XX.kIT XX.kIL
        refine ⟨(by show 3 ≤ sizeLine; decide), fun l4 n4 => ?_⟩
        generalize hg : upd H3 l4 _ = H4
        obtain ⟨s4, g4⟩ := upd_new hg n4
        clear hg
        have s04 := s3.trans s4
        refine ⟨_, rfl, .inl ⟨rfl, _, SqL.of g4⟩, l4, _, .bl true, rfl, rfl, SqL.of g4, rfl, rfl, rfl, _, rfl, ite2 (fun _ => ?_) (fun c => absurd (by rfl) c)⟩
        refine ⟨(by show 3 ≤ sizeLine; decide), fun l5 n5 => ?_⟩
        generalize hg : upd H4 l5 _ = H5
        obtain ⟨s5, g5⟩ := upd_new hg n5
        clear hg
        have s05 := s04.trans s5
        refine ⟨_, rfl, .inl ⟨rfl, _, SqL.of (s5 _ _ g4)⟩, l4, _, .bl true, 1, .bl true, rfl, rfl, SqL.of (s5 _ _ g4), rfl, rfl, rfl, rfl, (fun m z' hm hz => one_no hm hz), l5, _, ((1 : Nat) : Int), .str "item", rfl, rfl, SqL.of g5, atI_nat (j := 1) rfl, ?_⟩
        refine .inr ⟨_, rfl, rfl, rfl, dd, _, _, rfl, s05 _ _ hd, rfl, _, d, rfl, dn.same s05, ft.1, ft.2.1, ft.2.2, (by show 2 ≤ sizeLine; decide), fun l6 n6 => ?_⟩
        generalize hg : upd H5 l6 _ = H6
        obtain ⟨s6, g6⟩ := upd_new hg n6
        clear hg
        exact ⟨_, rfl, q H6 l6 (s05.trans s6) (same_none0 s05 n6) g6⟩
    · refine ⟨false, XX.mER, (fun z => nomatch z), fun _ => ⟨true, XX.mEE, fun _ a na => ?_, fun z => nomatch z⟩⟩
      refine ⟨_, rfl, (by show 3 ≤ sizeLine; decide), fun t3 o3 n3 s3 z3 => ?_⟩
      generalize upd H' t3 o3 = H3 at s3 z3 ⊢
      refine ⟨E, dd, t3, _, _, false, rfl, rfl, rfl, s3 _ _ hd, XX.xE, z3, fun its rv => ?_, ?_⟩
      · obtain ⟨x, y, z, rfl, r1, r2, r3⟩ := vals3 rv
        cases r1
        cases r2
        cases r3
        exact any_three XX.kEU XX.kEK XX.kEX
      refine ⟨_, rfl, rfl, rfl, dd, _, _, rfl, s3 _ _ hd, rfl, _, rfl, rfl, rfl, dd, _, _, rfl, s3 _ _ hd, rfl, (by show 2 ≤ sizeLine; decide), fun l4 n4 => ?_⟩
      generalize hg : upd H3 l4 _ = H4
      obtain ⟨s4, g4⟩ := upd_new hg n4
      clear hg
      have s04 := s3.trans s4
      refine ⟨_, .list [d1, d2], rfl, .lst g4 (.cons (dn1.same s04) (.cons (dn2.same s04) .nil)), ft.1, ft.2.1, ft.2.2, ?_⟩
      refine ⟨_, rfl, E, dd, _, .ty "LookupError", .type "LookupError", true, rfl, rfl, rfl, s04 _ _ hd, XX.xE, .ty "LookupError", XX.kEL, _, rfl, iteT ?_⟩
      refine ⟨_, rfl, _, rfl, (by show 3 ≤ sizeLine; decide), fun l5 n5 => ?_⟩
      generalize hg : upd H4 l5 _ = H5
      obtain ⟨s5, g5⟩ := upd_new hg n5
      clear hg
      exact ⟨_, rfl, q H5 l5 (s04.trans s5) (same_none0 s04 n5) g5⟩
end
end My

namespace My
open PySem PySem.Spec PyProof.Rows L2 Gy Xl Xs Xt Xo Xp Xd
/-! ### what a put is due -/
def strD? : PyData → Option Str
  | .str x => some x
  | _ => none
def dueP (d1 d2 d : PyData) : List Str := if isHost d1 = false then ["name", d1.shown] else if isHost d2 = false ∨ strD? d1 = strD? d2 then ["name", d2.shown] else if isItem d = true then ["done"] else ["item", d.shown]
theorem dn_host {K : PySem.W.Frag} {H : Hp} {v : V} {d : PyData} (h : Dn K H v d) (i : isHost d = true) : ∃ x, v = .str x ∧ d = .str x := by
  cases h with
  | str x => exact ⟨x, rfl, rfl⟩
  | _ => cases i
section
variable {P : Program} {w : World} {K : PySem.W.Frag} {mg : Str → Option Value} {base : Heap} {H : Hp}
def spDueP (K : PySem.W.Frag) : Sp := fun vs H Q _ => ∃ (v1 v2 it : V) (d1 d2 d : PyData), vs = [v1, v2, it] ∧ Dn K H v1 d1 ∧ Dn K H v2 d2 ∧ Dn K H it d ∧ sml d1 = true ∧ sml d2 = true ∧ sml d = true ∧ Fits d1 ∧ Fits d2 ∧ Fits d ∧
  ∀ H' L, Same H H' → H L = none → H' L = some (.lst ((dueP d1 d2 d).map V.str)) → Q (.ref L) H'
theorem ok_dueP {f : Addr} {fd : FuncData} (F : Fun K "_law_due_put" "_law_due_put" s_law_due_put f fd) (Y : Bn mg) (G_law_is_name : Fk P w K mg base CX0 1 "_law_is_name" ["_law_thing"] (spIsName K)) (G_law_is_entry : Fk P w K mg base CX0 3 "_law_is_entry" ["_law_thing"] (spEnt K)) : FnG P w K mg base CX0 4 f fd ["_law_src", "_law_dst", "_law_entry_here"] (spDueP K) := by
  refine fun_g0 F sc_law_due_put (fun {vs H Q E} h => ?_) (fun cdv A outer s H vs Q E gd hr h => ?_)
  · obtain ⟨v1, v2, it, d1, d2, d, rfl, _⟩ := h
    rfl
  · obtain ⟨v1, v2, it, d1, d2, d, rfl, h1, h2, h3, m1, m2, m3, f1, f2, f3, q⟩ := h
    have hu70 := Room.units70 hr
    refine ⟨_, (pss_cons (ps_if (pt_not (pt_val (pe_callF G_law_is_name (hr.mono (by decide)) (by rfl) pass0 (pa_cons (pv 0) pa_nil))))
 (pss_one (ps_ret (pe_lst (pa_cons pe_str (pa_cons (pe_callB (show CallR _ (.builtin "repr") (rReprN K) from repr_dn gd hu70) (by rfl) Y.repr (by decide +kernel) (pa_cons (pv 0) pa_nil)) pa_nil)))))
 pss_nil)
 (pss_cons (ps_if (PW.pt (pw_or (pt_not (pt_val (pe_callF G_law_is_name (hr.mono (by decide)) (by rfl) pass0 (pa_cons (pv 1) pa_nil)))) (pw_or1 (pt_cmpR op_eq (pv 0) (pv 1) (nomark _)))))
 (pss_one (ps_ret (pe_lst (pa_cons pe_str (pa_cons (pe_callB (show CallR _ (.builtin "repr") (rReprN K) from repr_dn gd hu70) (by rfl) Y.repr (by decide +kernel) (pa_cons (pv 1) pa_nil)) pa_nil)))))
 pss_nil)
 (pss_one (ps_ret (pe_ifExp (pt_val (pe_callF G_law_is_entry (hr.mono (by decide)) (by rfl) pass0 (pa_cons (pv 2) pa_nil))) (pe_lst (pa_cons pe_str pa_nil)) (pe_lst (pa_cons pe_str (pa_cons (pe_callB (show CallR _ (.builtin "repr") (rReprN K) from repr_dn gd hu70) (by rfl) Y.repr (by decide +kernel) (pa_cons (pv 2) pa_nil)) pa_nil)))))))), ?_⟩
    have fin : ∀ {H1 : Hp} {xs : List Str}, Same H H1 → dueP d1 d2 d = xs → ∀ (L : Addr), H1 L = none → Q (.ref L) (upd H1 L (.lst (xs.map V.str))) := fun {H1 xs} s e L n => by
      refine q _ L (s.trans (same_upd n)) (same_none0 s n) ?_
      rw [upd_same, e]
    refine ⟨_, rfl, v1, d1, rfl, h1, m1, fun H1 s1 => ⟨_, rfl, ?_⟩⟩
    cases i1 : isHost d1 with
    | false =>
      refine iteT ⟨_, rfl, _, d1, rfl, h1.same s1, f1.1, f1.2.1, f1.2.2, (by show 2 ≤ sizeLine; decide), fun L nL => ?_⟩
      exact fin s1 (if_pos i1) L nL
    | true =>
    obtain ⟨a, rfl, rfl⟩ := dn_host h1 i1
    refine iteF ⟨_, rfl, v2, d2, rfl, h2.same s1, m2, fun H2 s2 => ⟨_, rfl, ?_⟩⟩
    have s02 := s1.trans s2
    cases i2 : isHost d2 with
    | false =>
      refine iteT (iteT ⟨_, rfl, _, d2, rfl, h2.same s02, f2.1, f2.2.1, f2.2.2, (by show 2 ≤ sizeLine; decide), fun L nL => ?_⟩)
      exact fin s02 (by unfold dueP; rw [if_neg (by rw [i1]; decide), if_pos (.inl i2)]) L nL
    | true =>
    obtain ⟨b, rfl, rfl⟩ := dn_host h2 i2
    refine iteF ⟨_, rfl, _, rfl, rfl, _, rfl, ?_⟩
    by_cases eab : V.str a = V.str b
    · rw [decide_eq_true eab]
      refine iteT ⟨_, rfl, _, _, rfl, .str b, f2.1, f2.2.1, f2.2.2, (by show 2 ≤ sizeLine; decide), fun L nL => ?_⟩
      exact fin s02 (by unfold dueP; rw [if_neg (by rw [i1]; decide), if_pos (.inr (by injection eab with z; rw [z]))]) L nL
    rw [decide_eq_false eab]
    have ne : ¬ (isHost (.str b) = false ∨ strD? (.str a) = strD? (.str b)) := fun z => by
      rcases z with z | z
      · rw [i2] at z
        cases z
      · injection z with z
        exact eab (by rw [z])
    refine iteF ⟨_, rfl, it, d, rfl, h3.same s02, m3, fun H3 s3 => ⟨_, rfl, ?_⟩⟩
    have s03 := s02.trans s3
    cases i3 : isItem d with
    | true =>
      refine iteT ⟨(by show 1 ≤ sizeLine; decide), fun L nL => ?_⟩
      exact fin s03 (by unfold dueP; rw [if_neg (by rw [i1]; decide), if_neg ne, if_pos i3]) L nL
    | false =>
      refine iteF ⟨_, rfl, _, d, rfl, h3.same s03, f3.1, f3.2.1, f3.2.2, (by show 2 ≤ sizeLine; decide), fun L nL => ?_⟩
      exact fin s03 (by unfold dueP; rw [if_neg (by rw [i1]; decide), if_neg ne, if_neg (by rw [i3]; decide)]) L nL
end
end My

namespace My
open PySem PySem.Spec PyProof.Rows L2 Gy Xl Xs Xt Xo Xp Xd LamX
/-! ### what stands while tables of code objects grow -/
section
variable {K : PySem.W.Frag} {H H' : Hp}
theorem Rng.ext {r : Addr} (h : Rng H r) (s : ExtN H H') : Rng H' r := by
  obtain ⟨x, y, e, h2⟩ := h
  exact ⟨x, y, s _ _ e (fun _ z => nomatch z), h2⟩
theorem lst_ext {a : Addr} {xs : List V} (h : H a = some (.lst xs)) (s : ExtN H H') : H' a = some (.lst xs) := s _ _ h fun _ z => nomatch z
theorem ins_ext {a C dx : Addr} {fs : List (Str × V)} (h : H a = some (.ins C dx fs)) (s : ExtN H H') : H' a = some (.ins C dx fs) := s _ _ h fun _ z => nomatch z
theorem tz_ext {a : Addr} {xs : List V} (h : Tz H a xs) (s : ExtN H H') : Tz H' a xs := by
  obtain ⟨o, e, c⟩ := h
  exact ⟨o, s _ _ e (fun _ z => nomatch z), c⟩
mutual
theorem dn_ext (s : ExtN H H') : ∀ {v : V} {d : PyData}, Dn K H v d → Dn K H' v d
  | _, _, .non => .non
  | _, _, .bl b => .bl b
  | _, _, .int i => .int i
  | _, _, .str x => .str x
  | _, _, .lst h a => .lst (lst_ext h s) (dns_ext s a)
  | _, _, .tup h a => .tup (tz_ext h s) (dns_ext s a)
  | _, _, .dic h => .dic (s _ _ h fun _ z => nomatch z)
theorem dns_ext (s : ExtN H H') : ∀ {vs : List V} {ds : List PyData}, Dns K H vs ds → Dns K H' vs ds
  | _, _, .nil => .nil
  | _, _, .cons h t => .cons (dn_ext s h) (dns_ext s t)
end
theorem fz_ext (s : ExtN H H') : FzK H H' := fun b o u e => s _ _ e fun _ z => nomatch z
theorem chd_ext {La : Addr} {ks : List (Str × Str)} {f : Str × Str → List PyData} {ad : Str × Str → Addr} (c : ChD K H La ks f ad) (s : ExtN H H') : ChD K H' La ks f ad := by
  refine ⟨s _ _ c.at_ (fun _ z => nomatch z), c.nd, fun k hk => ?_, c.inj⟩
  obtain ⟨vs, a, b, e⟩ := c.ls k hk
  exact ⟨vs, lst_ext a s, Dns.same (fz_keep (fz_ext s)) b, e⟩
/-- tables are kept by what keeps all else -/
theorem tabs_same {T : List (Addr × Str)} (t : Tabs T H) (s : Same H H') : Tabs T H' := t.ext s
theorem tabs_upd {T : List (Addr × Str)} {a : Addr} {u o : HO} (t : Tabs T H) (h : H a = some u) (n : ∀ ps, u ≠ .tbl ps) (n2 : ∀ c q, u ≠ CodeO c q) : Tabs T (upd H a o) := fun p hp => by
  obtain ⟨ps, e1, e2, e3⟩ := t p hp
  refine ⟨ps, ?_, e2, fun pos cv hc => ?_⟩
  · rw [upd_ne fun z => ?_]
    · exact e1
    · rw [z, h] at e1
      injection e1 with e1
      exact n ps e1
  · obtain ⟨c, f1, f2⟩ := e3 pos cv hc
    refine ⟨c, f1, ?_⟩
    rw [upd_ne fun z => ?_]
    · exact f2
    · rw [z, h] at f2
      injection f2 with f2
      exact n2 c p.2 (f2.trans (by rw [z]))
/-- .. and by the draws -/
theorem tabs_but {T : List (Addr × Str)} {r : Addr} (t : Tabs T H) (R : Rng H r) (b : But r H H') : Tabs T H' := fun p hp => by
  obtain ⟨x, y, er, _⟩ := R
  obtain ⟨ps, e1, e2, e3⟩ := t p hp
  refine ⟨ps, b _ _ (fun z => ?_) e1, e2, fun pos cv hc => ?_⟩
  · rw [z, er] at e1
    cases e1
  · obtain ⟨c, f1, f2⟩ := e3 pos cv hc
    refine ⟨c, f1, b _ _ (fun z => ?_) f2⟩
    rw [z, er] at f2
    injection f2 with f2
    cases f2
end
end My

/-! a def whose code object is known: for defs that make lambdas. -/
namespace Xq
open PySem PySem.Spec PyProof.Rows L2 Gy
structure FunT (K : PySem.W.Frag) (x qual : Str) (st : Stmt) (f : Addr) (fd : FuncData) (cdv : Value) : Prop where
  ex : ∃ (oc : Value) (od : Option Addr) (kV doc pm : Value) (an : Option Addr) (ct : Value) (osl : Array (Option Value)),
    fd = PySem.W.fnOf x qual (defArgs st) (defBody st) (defScope st) .none kV doc pm an cdv ct ∧ K.lookup f = some ⟨oc, od, .func fd, osl⟩ ∧ PySem.W.codeIn K cdv qual = true
section
variable {P : Program} {w : World} {K : PySem.W.Frag} {mg : Str → Option Value} {base : Heap} {k : Nat} {f : Addr} {fd : FuncData} {ps N : List Str} {sp : Sp} {cdv : Value}
theorem fun_gT {x qual : Str} {st : Stmt} (F : FunT K x qual st f fd cdv) (S : FnScope N ps (defScope st)) (ln : ∀ {vs H Q E}, sp vs H Q E → vs.length = ps.length)
    (bd : ∀ (A : Around) (outer : List Env) (s : Shared) (H : Hp) (vs : List V) (Q : VK) (E : XK), A.guards = some [] → Room k (A.deeper (envOfC qual (defScope st) s.heap.objs.size f cdv)) → sp vs H Q E →
      ∃ t, PSs (cxOf CX0 P w K mg base N qual (defScope st) f cdv A outer s H E).nox (defBody st) t ∧ t { nx := fun _ H' => Q .non H', rt := Q } (start N vs) H) : FnG P w K mg base CX0 (k + 1) f fd ps sp := by
  obtain ⟨oc, od, kV, doc, pm, an, ct, osl, rfl, lk, hcd⟩ := F.ex
  refine ⟨ln, fun {A outer s H args us vs Q E} g hr e0 hb rl hsp => ?_⟩
  have up : ∀ b o, base.get? b = some o → s.heap.get? b = some o := fun b o e => (e0.bs b o e).1
  have kin := e0.mod.kin.keeps up
  refine codeAny_call_function hr.depth (kin _ _ lk) rfl S.co S.gen rfl (PySem.W.codeRec_of kin hcd) (hb _ _ _ _ (wpAny_newFunctionEnv_cells S.kind ?_ ?_))
  · rintro ⟨n, v⟩ m
    exact (S.par n (List.of_mem_zip m).1).imp id fun z => ⟨z, PySem.W.cellsFrom_some _ _ _ (.inl z)⟩
  · rintro env rfl s1 y
    refine ⟨(e0.mod.nolimit.keeps up).keeps y.toInCall.keep, codeAny_func ?_⟩
    obtain ⟨t, ht, hq⟩ := bd A outer s H vs Q E g (hr.deeper _) hsp
    refine wpAny_mono (ht.nox.run [] s1 (start N vs) H _ (inv_start (CX := CX0) (E := E) (outer := outer) S hr.hd e0 (ln hsp) rl y) hq) ?_ (fun _ _ z => z)
    rintro (_ | _ | _ | u) s' z
    all_goals first
      | (obtain ⟨σ', H', J, q⟩ := z
         exact ⟨V.non, H', J.os, J.bare, J.base, J.hok, rfl, q⟩)
      | (obtain ⟨_, _, _, q⟩ := z
         exact q.elim)
      | (obtain ⟨v, σ', H', J, rv, q⟩ := z
         exact ⟨v, H', J.os, J.bare, J.base, J.hok, rv, q⟩)
end
end Xq

namespace My
open PySem PySem.Spec PyProof.Rows L2 Gy Xl Xs Xt Xo Xp Xd
section
variable {P : Program} {w : World} {K : PySem.W.Frag} {mg : Str → Option Value} {base : Heap} {H : Hp} {C : Addr}
theorem rng_ne {r a : Addr} {o : HO} (R : Rng H r) (h : H a = some o) (n : ∀ xs, o ≠ .lst xs) : a ≠ r := by
  obtain ⟨x, y, e3, _⟩ := R
  exact ne_of h e3 (n _)
theorem chd_but {r La : Addr} {H' : Hp} {ks : List (Str × Str)} {f : Str × Str → List PyData} {ad : Str × Str → Addr} (R : Rng H r) (nr : ∀ k ∈ ks, ad k ≠ r) (b : But r H H') (c : ChD K H La ks f ad) : ChD K H' La ks f ad :=
  c.keep (by rw [b _ _ (rng_ne R c.at_ (fun _ z => nomatch z)) c.at_, c.at_]) (fun k hk => by
    obtain ⟨vs, e, _⟩ := c.ls k hk
    rw [b _ _ (nr k hk) e, e]) fun x o u e => b x _ (rng_ne R e (fun _ z => nomatch z)) e
/-- a suite behind a number and a dict that is not empty -/
theorem seq_nonempty {i j : Nat} {c m : Int} {t rest : TS} {D : Ends} {σ : L2.St} {La : Addr} {kvs : List (List L2.Key × V)} (e1 : σ[i]? = some (some (.int m))) (e2 : σ[j]? = some (some (.ref La))) (h : H La = some (.dT kvs))
    (ht : m = c → kvs ≠ [] → ∀ H', Same H H' → t { D with nx := rest D } σ H') (hr : ∀ H', Same H H' → rest D σ H') :
    tSeq (tIfS (tAnd (tTest (tOp rEq (tVar i) (tC (.int c)))) (tTest (tOp rNeDT0 (tVar j) tDNewT))) t tNext) rest D σ H := by
  refine ⟨_, e1, rfl, _, rfl, ite2 (fun c1 => ⟨_, e2, fun p np => ?_⟩) (fun _ => iteF (hr H (Same.refl _)))⟩
  have s := same_upd (o := .dT []) np
  refine ⟨La, p, kvs, rfl, rfl, s _ _ h, upd_same, _, rfl, ite2 (fun c2 => ?_) (fun _ => hr _ s)⟩
  refine ht ?_ ?_ _ s
  · have := of_decide_eq_true c1
    injection this
  · rintro rfl
    cases c2
end
/-- the program's channels and the law's dict, side by side -/
structure Two (K : PySem.W.Frag) (C : Addr) (H : Hp) (r p La Ls Lp dx : Addr) (ns : List Str) (ks : List (Str × Str)) (f : Str × Str → List PyData) (adp ada : Str × Str → Addr) : Prop where
  R : Rng H r
  nLs : Ls ≠ r
  hLs : H Ls = some (.lst (ns.map V.str))
  hp : H p = some (.ins C dx [("held", .ref Lp)])
  cp : ChD K H Lp ks f adp
  ca : ChD K H La ks f ada
  npa : Lp ≠ La
  rp : ∀ k ∈ ks, adp k ≠ r
  ra : ∀ k ∈ ks, ada k ≠ r
  sep : ∀ k ∈ ks, ∀ j ∈ ks, adp k ≠ ada j
  lsp : ∀ k ∈ ks, adp k ≠ Ls
  nm : ∀ x ∈ ns, Nm x
  kn : ∀ k ∈ ks, Nm k.1 ∧ Nm k.2
  it : ∀ k ∈ ks, ∀ d ∈ f k, Bd 9 150 d
theorem Two.but {K : PySem.W.Frag} {C : Addr} {H H' : Hp} {r p La Ls Lp dx : Addr} {ns : List Str} {ks : List (Str × Str)} {f : Str × Str → List PyData} {adp ada : Str × Str → Addr} (t : Two K C H r p La Ls Lp dx ns ks f adp ada) (b : But r H H') (R' : Rng H' r) : Two K C H' r p La Ls Lp dx ns ks f adp ada :=
  ⟨R', t.nLs, b _ _ t.nLs t.hLs, b _ _ (rng_ne t.R t.hp (fun _ z => nomatch z)) t.hp, chd_but t.R t.rp b t.cp, chd_but t.R t.ra b t.ca, t.npa, t.rp, t.ra, t.sep, t.lsp, t.nm, t.kn, t.it⟩
theorem Two.same {K : PySem.W.Frag} {C : Addr} {H H' : Hp} {r p La Ls Lp dx : Addr} {ns : List Str} {ks : List (Str × Str)} {f : Str × Str → List PyData} {adp ada : Str × Str → Addr} (t : Two K C H r p La Ls Lp dx ns ks f adp ada) (s : Same H H') : Two K C H' r p La Ls Lp dx ns ks f adp ada := t.but (But.of s) (t.R.same s)
theorem left_eq {ks : List (Str × Str)} (kn : ∀ k ∈ ks, Nm k.1 ∧ Nm k.2) (v : V) : leftKs ks v = ks.filter (keepK v) := by
  unfold leftKs
  by_cases c : textOf v LET 8 = true
  · rw [if_pos c]
  · rw [if_neg c]
    refine (List.filter_eq_self.mpr fun k hk => ?_).symm
    unfold keepK
    rw [decide_eq_false fun z => c ?_]
    · rfl
    · rw [← z]
      exact nm_txt (kn k hk).2
/-- behind a discarding by the law -/
theorem Two.lost {K : PySem.W.Frag} {C : Addr} {H H' : Hp} {r p La Ls Lp dx : Addr} {ns : List Str} {ks : List (Str × Str)} {f : Str × Str → List PyData} {adp ada : Str × Str → Addr} (t : Two K C H r p La Ls Lp dx ns ks f adp ada) (fr : ∀ x o, H x = some o → x ≠ La → H' x = some o) : Rng H' r ∧ H' Ls = some (.lst (ns.map V.str)) ∧ H' p = some (.ins C dx [("held", .ref Lp)]) ∧ ChD K H' Lp ks f adp := by
  have ne : ∀ {x : Addr} {o : HO}, H x = some o → (∀ u, o ≠ .dT u) → x ≠ La := fun e n => ne_of e t.ca.at_ (n _)
  refine ⟨?_, fr _ _ t.hLs (ne t.hLs (fun _ z => nomatch z)), fr _ _ t.hp (ne t.hp (fun _ z => nomatch z)), t.cp.keep ?_ (fun k hk => ?_) (fun x o u e => fr _ _ e (ne e (fun _ z => nomatch z)))⟩
  · obtain ⟨x, y, e, z⟩ := t.R
    exact ⟨x, y, fr _ _ e (ne e (fun _ z => nomatch z)), z⟩
  · rw [t.cp.at_]
    exact fr _ _ t.cp.at_ t.npa
  · obtain ⟨vs, e, _⟩ := t.cp.ls k hk
    rw [e]
    exact fr _ _ e (ne e (fun _ z => nomatch z))
theorem Two.frp {K : PySem.W.Frag} {C : Addr} {H H' : Hp} {r p La Ls Lp Lp' dx : Addr} {ns : List Str} {ks : List (Str × Str)} {f : Str × Str → List PyData} {adp ada : Str × Str → Addr} (t : Two K C H r p La Ls Lp dx ns ks f adp ada)
    (fr : ∀ x o, H x = some o → x ≠ p → H' x = some o) (fk : FzK H H') (hp' : H' p = some (.ins C dx [("held", .ref Lp')])) (or' : Lp' = Lp ∨ H Lp' = none) (cp' : ChD K H' Lp' ks f adp) : Two K C H' r p La Ls Lp' dx ns ks f adp ada := by
  have noP : ∀ {x : Addr} {o : HO}, H x = some o → (∀ a b c, o ≠ .ins a b c) → H' x = some o := fun e n => fr _ _ e (ne_of e t.hp (n _ _ _))
  refine ⟨?_, t.nLs, noP t.hLs (fun _ _ _ z => nomatch z), hp', cp', t.ca.keep (by rw [t.ca.at_]; exact noP t.ca.at_ (fun _ _ _ z => nomatch z)) (fun k hk => ?_) fk, ?_, t.rp, t.ra, t.sep, t.lsp, t.nm, t.kn, t.it⟩
  · obtain ⟨x, y, e, z⟩ := t.R
    exact ⟨x, y, noP e (fun _ _ _ z => nomatch z), z⟩
  · obtain ⟨vs, e, _⟩ := t.ca.ls k hk
    rw [e]
    exact noP e (fun _ _ _ z => nomatch z)
  · rcases or' with rfl | e
    · exact t.npa
    · exact fun z => by rw [z, t.ca.at_] at e; cases e
theorem Two.updL {K : PySem.W.Frag} {C : Addr} {H : Hp} {r p La Ls Lp dx L : Addr} {ns : List Str} {ks : List (Str × Str)} {f : Str × Str → List PyData} {adp ada : Str × Str → Addr} {vs us : List V} (t : Two K C H r p La Ls Lp dx ns ks f adp ada)
    (e : H L = some (.lst vs)) (n1 : L ≠ r) (n2 : Ls ≠ L) (n3 : ∀ k ∈ ks, adp k ≠ L) (n4 : ∀ k ∈ ks, ada k ≠ L) : Two K C (upd H L (.lst us)) r p La Ls Lp dx ns ks f adp ada := by
  have fk : FzK H (upd H L (.lst us)) := (FzK.refl H).upd e (fun _ _ z => nomatch z)
  refine ⟨?_, t.nLs, ?_, ?_, t.cp.keep ?_ (fun k hk => ?_) fk, t.ca.keep ?_ (fun k hk => ?_) fk, t.npa, t.rp, t.ra, t.sep, t.lsp, t.nm, t.kn, t.it⟩
  · obtain ⟨x, y, e, z⟩ := t.R
    exact ⟨x, y, by rw [upd_ne n1.symm]; exact e, z⟩
  · rw [upd_ne n2]
    exact t.hLs
  · rw [upd_ne (ne_of t.hp e (fun z => nomatch z))]
    exact t.hp
  · rw [upd_ne (ne_of t.cp.at_ e (fun z => nomatch z))]
  · rw [upd_ne (n3 k hk)]
  · rw [upd_ne (ne_of t.ca.at_ e (fun z => nomatch z))]
  · rw [upd_ne (n4 k hk)]
theorem mem_put {ks : List (Str × Str)} {k q : Str × Str} (h : k ∈ putKs ks q) : k = q ∨ k ∈ ks := by
  unfold putKs at h
  by_cases m : q ∈ ks
  · rw [if_pos m] at h
    exact .inr h
  · rw [if_neg m] at h
    exact (List.mem_append.mp h).elim .inr fun z => .inl (List.mem_singleton.mp z)
theorem putKs_len (ks : List (Str × Str)) (q : Str × Str) : (putKs ks q).length ≤ ks.length + 1 := by
  unfold putKs
  split
  · omega
  · rw [List.length_append]
    exact Nat.le_refl _
theorem fc_congr {ks : List (Str × Str)} {f g : Str × Str → List PyData} (h : ∀ k ∈ ks, f k = g k) : fcount ks f = fcount ks g := by
  unfold fcount
  rw [List.map_congr_left (g := fun k => (g k).length) fun k hk => by rw [h k hk]]
theorem fc_put {f : Str × Str → List PyData} {q : Str × Str} {d : PyData} : ∀ {ks : List (Str × Str)}, ks.Nodup → fcount (putKs ks q) (putFn ks f q d) = fcount ks f + 1 := by
  intro ks nd
  by_cases m : q ∈ ks
  · have e1 : putKs ks q = ks := if_pos m
    have e2 : inF ks f q = f q := if_pos m
    rw [e1]
    unfold putFn
    rw [e2]
    clear e1 e2
    induction ks with
    | nil => cases m
    | cons j ks ih =>
      rw [List.nodup_cons] at nd
      have c1 : ∀ h : Str × Str → List PyData, fcount (j :: ks) h = (h j).length + fcount ks h := fun _ => rfl
      rw [c1, c1]
      by_cases e : j = q
      · subst e
        rw [if_pos rfl, List.length_append, fc_congr (ks := ks) (g := f) fun k hk => by rw [if_neg fun z => nd.1 (by rw [← z]; exact hk)]]
        show (f j).length + 1 + _ = _
        omega
      · have m2 : q ∈ ks := (List.mem_cons.mp m).resolve_left fun z => e z.symm
        rw [if_neg e, ih nd.2 m2]
        omega
  · have e1 : putKs ks q = ks ++ [q] := if_neg m
    have e2 : inF ks f q = [] := if_neg m
    rw [e1, fc_snoc]
    unfold putFn
    rw [e2, if_pos rfl, fc_congr (ks := ks) (g := f) fun k hk => by rw [if_neg fun z => m (by rw [← z]; exact hk)]]
    rfl
section
variable {K : PySem.W.Frag} {C : Addr} {H H1 H2 : Hp} {r p La Ls Lp dx : Addr} {ns : List Str} {ks : List (Str × Str)} {f : Str × Str → List PyData} {adp ada ad1 ad2 : Str × Str → Addr} {q : Str × Str} {d : PyData}
theorem Two.pa (t : Two K C H r p La Ls Lp dx ns ks f adp ada) (fk1 : FzK H H1) (fr1 : ∀ x o, H x = some o → x ≠ Lp → (∀ k ∈ ks, x ≠ adp k) → H1 x = some o) : ChD K H1 La ks f ada := by
  refine t.ca.keep ?_ (fun k hk => ?_) fk1
  · rw [t.ca.at_]
    refine fr1 _ _ t.ca.at_ t.npa.symm fun k hk => ?_
    obtain ⟨vs, e, _⟩ := t.cp.ls k hk
    exact ne_of t.ca.at_ e (fun z => nomatch z)
  · obtain ⟨vs, e, _⟩ := t.ca.ls k hk
    rw [e]
    exact fr1 _ _ e (ne_of e t.cp.at_ (fun z => nomatch z)) fun j hj => (t.sep j hj k hk).symm
theorem Two.put (t : Two K C H r p La Ls Lp dx ns ks f adp ada) (nq : Nm q.1 ∧ Nm q.2) (bd : Bd 9 150 d)
    (fk1 : FzK H H1) (fr1 : ∀ x o, H x = some o → x ≠ Lp → (∀ k ∈ ks, x ≠ adp k) → H1 x = some o) (n1 : ∀ k ∈ putKs ks q, k ∈ ks ∧ ad1 k = adp k ∨ H (ad1 k) = none) (c1 : ChD K H1 Lp (putKs ks q) (putFn ks f q d) ad1)
    (fk2 : FzK H1 H2) (fr2 : ∀ x o, H1 x = some o → x ≠ La → H2 x = some o) (n2 : ∀ k ∈ putKs ks q, k ∈ ks ∧ ad2 k = ada k ∨ H1 (ad2 k) = none) (c2 : ChD K H2 La (putKs ks q) (putFn ks f q d) ad2) :
    Two K C H2 r p La Ls Lp dx ns (putKs ks q) (putFn ks f q d) ad1 ad2 := by
  have lp : ∀ k ∈ ks, ∃ vs, H (adp k) = some (.lst vs) := fun k hk => by
    obtain ⟨vs, e, _⟩ := t.cp.ls k hk
    exact ⟨vs, e⟩
  have la : ∀ k ∈ ks, ∃ vs, H (ada k) = some (.lst vs) := fun k hk => by
    obtain ⟨vs, e, _⟩ := t.ca.ls k hk
    exact ⟨vs, e⟩
  have both : ∀ {x : Addr} {o : HO}, H x = some o → (∀ u, o ≠ .dT u) → (∀ k ∈ ks, x ≠ adp k) → H2 x = some o := fun e n m =>
    fr2 _ _ (fr1 _ _ e (ne_of e t.cp.at_ (n _)) m) (ne_of e t.ca.at_ (n _))
  have hr := t.R
  obtain ⟨x, y, er, zr⟩ := id hr
  refine ⟨⟨x, y, both er (fun _ z => nomatch z) fun k hk => (t.rp k hk).symm, zr⟩, t.nLs, both t.hLs (fun _ z => nomatch z) fun k hk => (t.lsp k hk).symm, both t.hp (fun _ z => nomatch z) fun k hk => ?_, c1.keep ?_ (fun k hk => ?_) fk2, c2, t.npa, fun k hk => ?_, fun k hk => ?_, fun k hk j hj => ?_, fun k hk => ?_, t.nm, fun k hk => ?_, fun k hk e he => ?_⟩
  · obtain ⟨vs, e⟩ := lp k hk
    exact ne_of t.hp e (fun z => nomatch z)
  · rw [c1.at_]
    exact fr2 _ _ c1.at_ t.npa
  · obtain ⟨vs, e, _⟩ := c1.ls k hk
    rw [e]
    have l1 := (t.pa fk1 fr1).at_
    exact fr2 _ _ e (ne_of e l1 (fun z => nomatch z))
  · rcases n1 k hk with ⟨m, e⟩ | e
    · rw [e]
      exact t.rp k m
    · exact fun z => by rw [z, er] at e; cases e
  · rcases n2 k hk with ⟨m, e⟩ | e
    · rw [e]
      exact t.ra k m
    · have er1 := fr1 _ _ er (ne_of er t.cp.at_ (fun z => nomatch z)) fun k hk => (t.rp k hk).symm
      exact fun z => by rw [z, er1] at e; cases e
  · rcases n2 j hj with ⟨mj, ej⟩ | ej
    · rcases n1 k hk with ⟨mk, ek⟩ | ek
      · rw [ek, ej]
        exact t.sep k mk j mj
      · rw [ej]
        obtain ⟨vs, e⟩ := la j mj
        exact fun z => by rw [z, e] at ek; cases ek
    · obtain ⟨vs, e, _⟩ := c1.ls k hk
      exact fun z => by rw [← z, e] at ej; cases ej
  · rcases n1 k hk with ⟨m, e⟩ | e
    · rw [e]
      exact t.lsp k m
    · exact fun z => by rw [z, t.hLs] at e; cases e
  · rcases mem_put hk with rfl | m
    · exact nq
    · exact t.kn k m
  · unfold putFn at he
    by_cases ek : k = q
    · rw [if_pos ek] at he
      unfold inF at he
      rcases List.mem_append.mp he with he | he
      · split at he
        · next m => exact t.it q m e he
        · cases he
      · rw [List.mem_singleton.mp he]
        exact bd
    · rw [if_neg ek] at he
      exact t.it k ((mem_put hk).resolve_left ek) e he
end
end My

namespace My
open PySem PySem.Spec PyProof.Rows L2 Gy Xl Xs Xt Xo Xp Xd LamX
/-! ### the program's channels and the law's dict, each in its own state, over a frame B -/
structure Tw (T : List (Addr × Str)) (K : PySem.W.Frag) (C : Addr) (B H : Hp) (r p La Ls Lp dx : Addr) (ns : List Str) (ks : List (Str × Str)) (f : Str × Str → List PyData) (adp : Str × Str → Addr) (js : List (Str × Str)) (g : Str × Str → List PyData) (ada : Str × Str → Addr) : Prop where
  nt : ∀ b ps, B b ≠ some (.tbl ps)
  sB : Same B H
  Br : B r = none
  BLp : B Lp = none
  BLa : B La = none
  Bad : ∀ k ∈ ks, B (adp k) = none
  Bal : ∀ k ∈ js, B (ada k) = none
  R : Rng H r
  tabs : Tabs T H
  hLs : B Ls = some (.lst (ns.map V.str))
  hp : B p = some (.ins C dx [("held", .ref Lp)])
  cp : ChD K H Lp ks f adp
  ca : ChD K H La js g ada
  npa : Lp ≠ La
  rp : ∀ k ∈ ks, adp k ≠ r
  ra : ∀ k ∈ js, ada k ≠ r
  sep : ∀ k ∈ ks, ∀ j ∈ js, adp k ≠ ada j
  nm : ∀ x ∈ ns, Nm x
  kn : ∀ k ∈ ks, Nm k.1 ∧ Nm k.2
  it : ∀ k ∈ ks, ∀ d ∈ f k, Bd 9 150 d
theorem Tabs.fr {T : List (Addr × Str)} {H H' : Hp} (t : Tabs T H) (fr : ∀ x o, H x = some o → (∀ u, o ≠ .dT u) → (∀ u, o ≠ .lst u) → H' x = some o) : Tabs T H' := fun p hp => by
  obtain ⟨ps, e1, e2, e3⟩ := t p hp
  refine ⟨ps, fr _ _ e1 (fun _ z => nomatch z) (fun _ z => nomatch z), e2, fun pos cv hc => ?_⟩
  obtain ⟨c, f1, f2⟩ := e3 pos cv hc
  refine ⟨c, f1, fr _ _ f2 (fun _ z => ?_) fun _ z => ?_⟩
  · unfold CodeO at z
    cases z
  · unfold CodeO at z
    cases z
theorem tz_fr {H H' : Hp} {a : Addr} {xs : List V} (h : Tz H a xs) (fk : FzK H H') : Tz H' a xs := by
  obtain ⟨o, e, c⟩ := h
  exact ⟨o, fk _ _ _ e, c⟩
section
variable {T : List (Addr × Str)} {K : PySem.W.Frag} {C : Addr} {B B' H H' : Hp} {r p La Ls Lp dx : Addr} {ns : List Str} {ks ks' js js' : List (Str × Str)} {f f' g g' : Str × Str → List PyData} {adp adp' ada ada' : Str × Str → Addr} {q : Str × Str} {d : PyData}
theorem same_no {H H' : Hp} {a : Addr} (s : Same H H') (n : H' a = none) : H a = none := by
  cases z : H a with
  | none => rfl
  | some o => rw [s _ _ z] at n; cases n
theorem Tw.nLs (t : Tw T K C B H r p La Ls Lp dx ns ks f adp js g ada) : Ls ≠ r := ne_of_none t.hLs t.Br
theorem Tw.hLsH (t : Tw T K C B H r p La Ls Lp dx ns ks f adp js g ada) : H Ls = some (.lst (ns.map V.str)) := t.sB _ _ t.hLs
theorem Tw.hpH (t : Tw T K C B H r p La Ls Lp dx ns ks f adp js g ada) : H p = some (.ins C dx [("held", .ref Lp)]) := t.sB _ _ t.hp
theorem Tw.ext (t : Tw T K C B H r p La Ls Lp dx ns ks f adp js g ada) (s : ExtN H H') (tb : Tabs T H') : Tw T K C B H' r p La Ls Lp dx ns ks f adp js g ada :=
  ⟨t.nt, fun b o e => s _ _ (t.sB _ _ e) (fun ps z => t.nt b ps (by rw [e, z])), t.Br, t.BLp, t.BLa, t.Bad, t.Bal, t.R.ext s, tb, t.hLs, t.hp, chd_ext t.cp s, chd_ext t.ca s, t.npa, t.rp, t.ra, t.sep, t.nm, t.kn, t.it⟩
theorem Tw.same (t : Tw T K C B H r p La Ls Lp dx ns ks f adp js g ada) (s : Same H H') : Tw T K C B H' r p La Ls Lp dx ns ks f adp js g ada := t.ext (ExtN.of s) (t.tabs.ext s)
theorem Tw.but (t : Tw T K C B H r p La Ls Lp dx ns ks f adp js g ada) (b : But r H H') (R' : Rng H' r) : Tw T K C B H' r p La Ls Lp dx ns ks f adp js g ada :=
  ⟨t.nt, fun x o e => b _ _ (ne_of_none e t.Br) (t.sB _ _ e), t.Br, t.BLp, t.BLa, t.Bad, t.Bal, R', tabs_but t.tabs t.R b, t.hLs, t.hp, chd_but t.R t.rp b t.cp, chd_but t.R t.ra b t.ca, t.npa, t.rp, t.ra, t.sep, t.nm, t.kn, t.it⟩
/-- a step of the program -/
theorem Tw.stepP (t : Tw T K C B H r p La Ls Lp dx ns ks f adp js g ada) (fk : FzK H H') (fr : ∀ x o, H x = some o → x ≠ Lp → (∀ k ∈ ks, x ≠ adp k) → H' x = some o) (n : ∀ k ∈ ks', (k ∈ ks ∧ adp' k = adp k) ∨ H (adp' k) = none) (c : ChD K H' Lp ks' f' adp')
    (kn' : ∀ k ∈ ks', Nm k.1 ∧ Nm k.2) (it' : ∀ k ∈ ks', ∀ d ∈ f' k, Bd 9 150 d) : Tw T K C B H' r p La Ls Lp dx ns ks' f' adp' js g ada := by
  have ls : ∀ k ∈ ks, ∃ vs, H (adp k) = some (.lst vs) := fun k hk => by
    obtain ⟨vs, e, _⟩ := t.cp.ls k hk
    exact ⟨vs, e⟩
  obtain ⟨x, y, er, zr⟩ := id t.R
  refine ⟨t.nt, fun b o e => fr _ _ (t.sB _ _ e) (ne_of_none e t.BLp) (fun k hk => ne_of_none e (t.Bad k hk)), t.Br, t.BLp, t.BLa, fun k hk => ?_, t.Bal, ⟨x, y, fr _ _ er (ne_of er t.cp.at_ (fun z => nomatch z)) fun k hk => (t.rp k hk).symm, zr⟩,
    Tabs.fr t.tabs fun b o e n1 n2 => fr _ _ e (ne_of e t.cp.at_ (n1 _)) fun k hk => ?_, t.hLs, t.hp, c, t.ca.keep ?_ (fun k hk => ?_) fk, t.npa, fun k hk => ?_, t.ra, fun k hk j hj => ?_, t.nm, kn', it'⟩
  · rcases n k hk with ⟨m, e⟩ | e
    · rw [e]
      exact t.Bad k m
    · exact same_no t.sB e
  · obtain ⟨vs, e2⟩ := ls k hk
    exact ne_of e e2 (n2 _)
  · rw [t.ca.at_]
    refine fr _ _ t.ca.at_ t.npa.symm fun k hk => ?_
    obtain ⟨vs, e2⟩ := ls k hk
    exact ne_of t.ca.at_ e2 (fun z => nomatch z)
  · obtain ⟨vs, e, _⟩ := t.ca.ls k hk
    rw [e]
    exact fr _ _ e (ne_of e t.cp.at_ (fun z => nomatch z)) fun j hj => (t.sep j hj k hk).symm
  · rcases n k hk with ⟨m, e⟩ | e
    · rw [e]
      exact t.rp k m
    · exact fun z => by rw [z, er] at e; cases e
  · rcases n k hk with ⟨m, e⟩ | e
    · rw [e]
      exact t.sep k m j hj
    · obtain ⟨vs, e2, _⟩ := t.ca.ls j hj
      exact fun z => by rw [z, e2] at e; cases e
/-- a step of the law -/
theorem Tw.stepL (t : Tw T K C B H r p La Ls Lp dx ns ks f adp js g ada) (fk : FzK H H') (fr : ∀ x o, H x = some o → x ≠ La → H' x = some o) (n : ∀ k ∈ js', (k ∈ js ∧ ada' k = ada k) ∨ H (ada' k) = none) (c : ChD K H' La js' g' ada') : Tw T K C B H' r p La Ls Lp dx ns ks f adp js' g' ada' := by
  obtain ⟨x, y, er, zr⟩ := id t.R
  refine ⟨t.nt, fun b o e => fr _ _ (t.sB _ _ e) (ne_of_none e t.BLa), t.Br, t.BLp, t.BLa, t.Bad, fun k hk => ?_, ⟨x, y, fr _ _ er (ne_of er t.ca.at_ (fun z => nomatch z)), zr⟩,
    Tabs.fr t.tabs fun b o e n1 n2 => fr _ _ e (ne_of e t.ca.at_ (n1 _)), t.hLs, t.hp, t.cp.keep ?_ (fun k hk => ?_) fk, c, t.npa, t.rp, fun k hk => ?_, fun k hk j hj => ?_, t.nm, t.kn, t.it⟩
  · rcases n k hk with ⟨m, e⟩ | e
    · rw [e]
      exact t.Bal k m
    · exact same_no t.sB e
  · rw [t.cp.at_]
    exact fr _ _ t.cp.at_ t.npa
  · obtain ⟨vs, e, _⟩ := t.cp.ls k hk
    rw [e]
    exact fr _ _ e (ne_of e t.ca.at_ (fun z => nomatch z))
  · rcases n k hk with ⟨m, e⟩ | e
    · rw [e]
      exact t.ra k m
    · exact fun z => by rw [z, er] at e; cases e
  · rcases n j hj with ⟨m, e⟩ | e
    · rw [e]
      exact t.sep k hk j m
    · obtain ⟨vs, e2, _⟩ := t.cp.ls k hk
      exact fun z => by rw [← z, e2] at e; cases e
theorem it_put (it : ∀ k ∈ ks, ∀ e ∈ f k, Bd 9 150 e) (bd : Bd 9 150 d) : ∀ k ∈ putKs ks q, ∀ e ∈ putFn ks f q d k, Bd 9 150 e := fun k hk e he => by
  unfold putFn at he
  by_cases ek : k = q
  · rw [if_pos ek] at he
    unfold inF at he
    rcases List.mem_append.mp he with he | he
    · split at he
      · next m => exact it q m e he
      · cases he
    · rw [List.mem_singleton.mp he]
      exact bd
  · rw [if_neg ek] at he
    exact it k ((mem_put hk).resolve_left ek) e he
theorem kn_put (kn : ∀ k ∈ ks, Nm k.1 ∧ Nm k.2) (nq : Nm q.1 ∧ Nm q.2) : ∀ k ∈ putKs ks q, Nm k.1 ∧ Nm k.2 := fun k hk => by
  rcases mem_put hk with rfl | m
  · exact nq
  · exact kn k m
theorem mem_take {k : Str × Str} (h : k ∈ takeKs ks f q) : k ∈ ks := by
  unfold takeKs at h
  split at h
  · exact (List.mem_filter.mp h).1
  · exact h
theorem it_take (it : ∀ k ∈ ks, ∀ e ∈ f k, Bd 9 150 e) : ∀ k ∈ takeKs ks f q, ∀ e ∈ takeFn f q k, Bd 9 150 e := fun k hk e he => by
  unfold takeFn at he
  by_cases ek : k = q
  · rw [if_pos ek] at he
    rw [← ek] at he
    exact it k (mem_take hk) e (List.mem_of_mem_tail he)
  · rw [if_neg ek] at he
    exact it k (mem_take hk) e he
theorem takeKs_len (ks : List (Str × Str)) (f : Str × Str → List PyData) (q : Str × Str) : (takeKs ks f q).length ≤ ks.length := by
  unfold takeKs
  split
  · exact List.length_filter_le _ _
  · exact Nat.le_refl _
theorem fc_mono {f g : Str × Str → List PyData} : ∀ {ks : List (Str × Str)}, (∀ k ∈ ks, (f k).length ≤ (g k).length) → fcount ks f ≤ fcount ks g
  | [], _ => Nat.le_refl _
  | k :: ks, h => by
    have c1 : ∀ h : Str × Str → List PyData, fcount (k :: ks) h = (h k).length + fcount ks h := fun _ => rfl
    rw [c1, c1]
    have := h k List.mem_cons_self
    have := fc_mono (ks := ks) fun j hj => h j (List.mem_cons_of_mem _ hj)
    omega
theorem fc_sub {f : Str × Str → List PyData} {s : Str × Str → Bool} : ∀ {ks : List (Str × Str)}, fcount (ks.filter s) f ≤ fcount ks f
  | [] => Nat.le_refl _
  | k :: ks => by
    have c1 : ∀ (l : List (Str × Str)), fcount (k :: l) f = (f k).length + fcount l f := fun _ => rfl
    have := fc_sub (f := f) (s := s) (ks := ks)
    by_cases e : s k = true
    · rw [List.filter_cons_of_pos e, c1, c1]
      omega
    · rw [List.filter_cons_of_neg e, c1]
      omega
theorem fc_takeL : fcount (takeKs ks f q) (takeFn f q) ≤ fcount ks f := by
  refine Nat.le_trans (fc_mono (g := f) fun k _ => ?_) ?_
  · unfold takeFn
    by_cases ek : k = q
    · rw [if_pos ek, ek, List.length_tail]
      omega
    · rw [if_neg ek]
      exact Nat.le_refl _
  · unfold takeKs
    split
    · exact fc_sub
    · exact Nat.le_refl _
/-- what is new stands -/
theorem Tw.push {L : Addr} {o : HO} (t : Tw T K C B H r p La Ls Lp dx ns ks f adp js g ada) (nl : H L = none) (s : Same H H') (e : H' L = some o) (no : ∀ ps, o ≠ .tbl ps) : Tw T K C (upd B L o) H' r p La Ls Lp dx ns ks f adp js g ada := by
  have t' := t.same s
  have nB : B L = none := same_no t.sB nl
  obtain ⟨x, y, er, zr⟩ := id t.R
  refine ⟨fun b ps => ?_, fun b u h => ?_, ?_, ?_, ?_, fun k hk => ?_, fun k hk => ?_, t'.R, t'.tabs, ?_, ?_, t'.cp, t'.ca, t.npa, t.rp, t.ra, t.sep, t.nm, t.kn, t.it⟩
  · by_cases c : b = L
    · rw [c, upd_same]
      exact fun z => no ps (by injection z)
    · rw [upd_ne c]
      exact t.nt b ps
  · by_cases c : b = L
    · rw [c, upd_same] at h
      cases h
      rw [c]
      exact e
    · rw [upd_ne c] at h
      exact t'.sB _ _ h
  · rw [upd_ne (ne_of_none er nl)]
    exact t.Br
  · rw [upd_ne (ne_of_none t.cp.at_ nl)]
    exact t.BLp
  · rw [upd_ne (ne_of_none t.ca.at_ nl)]
    exact t.BLa
  · obtain ⟨vs, e2, _⟩ := t.cp.ls k hk
    rw [upd_ne (ne_of_none e2 nl)]
    exact t.Bad k hk
  · obtain ⟨vs, e2, _⟩ := t.ca.ls k hk
    rw [upd_ne (ne_of_none e2 nl)]
    exact t.Bal k hk
  · rw [upd_ne (ne_of_none t.hLs nB)]
    exact t.hLs
  · rw [upd_ne (ne_of_none t.hp nB)]
    exact t.hp
/-- a list of the frame is changed -/
theorem Tw.set {L : Addr} {us vs : List V} (t : Tw T K C B H r p La Ls Lp dx ns ks f adp js g ada) (e : B L = some (.lst us)) (n : L ≠ Ls) : Tw T K C (upd B L (.lst vs)) (upd H L (.lst vs)) r p La Ls Lp dx ns ks f adp js g ada := by
  have eH := t.sB _ _ e
  have fk : FzK H (upd H L (.lst vs)) := (FzK.refl H).upd eH (fun _ _ z => nomatch z)
  have nr : L ≠ r := ne_of_none e t.Br
  obtain ⟨x, y, er, zr⟩ := id t.R
  refine ⟨fun b ps => ?_, fun b u h => ?_, ?_, ?_, ?_, fun k hk => ?_, fun k hk => ?_, ⟨x, y, by rw [upd_ne nr.symm]; exact er, zr⟩, tabs_upd t.tabs eH (fun _ z => nomatch z) (fun c q z => ?_), ?_, ?_, t.cp.keep ?_ (fun k hk => ?_) fk, t.ca.keep ?_ (fun k hk => ?_) fk, t.npa, t.rp, t.ra, t.sep, t.nm, t.kn, t.it⟩
  · by_cases c : b = L
    · rw [c, upd_same]
      exact fun z => nomatch z
    · rw [upd_ne c]
      exact t.nt b ps
  · by_cases c : b = L
    · rw [c, upd_same] at h
      cases h
      rw [c, upd_same]
    · rw [upd_ne c] at h
      rw [upd_ne c]
      exact t.sB _ _ h
  · rw [upd_ne nr.symm]
    exact t.Br
  · rw [upd_ne (ne_of_none e t.BLp).symm]
    exact t.BLp
  · rw [upd_ne (ne_of_none e t.BLa).symm]
    exact t.BLa
  · rw [upd_ne (ne_of_none e (t.Bad k hk)).symm]
    exact t.Bad k hk
  · rw [upd_ne (ne_of_none e (t.Bal k hk)).symm]
    exact t.Bal k hk
  · unfold CodeO at z
    cases z
  · rw [upd_ne n.symm]
    exact t.hLs
  · rw [upd_ne (ne_of t.hp e (fun z => nomatch z))]
    exact t.hp
  · rw [upd_ne (ne_of_none e t.BLp).symm]
  · rw [upd_ne (ne_of_none e (t.Bad k hk)).symm]
  · rw [upd_ne (ne_of_none e t.BLa).symm]
  · rw [upd_ne (ne_of_none e (t.Bal k hk)).symm]
/-- back to a smaller frame -/
theorem Tw.pop (t : Tw T K C B' H r p La Ls Lp dx ns ks f adp js g ada) (s : Same B B') (hLs : B Ls = some (.lst (ns.map V.str))) (hp : B p = some (.ins C dx [("held", .ref Lp)])) : Tw T K C B H r p La Ls Lp dx ns ks f adp js g ada :=
  ⟨fun b ps e => t.nt b ps (s _ _ e), fun b o e => t.sB _ _ (s _ _ e), same_no s t.Br, same_no s t.BLp, same_no s t.BLa, fun k hk => same_no s (t.Bad k hk), fun k hk => same_no s (t.Bal k hk), t.R, t.tabs, hLs, hp, t.cp, t.ca, t.npa, t.rp, t.ra, t.sep, t.nm, t.kn, t.it⟩
end
end My

namespace My
open PySem PySem.Spec PyProof.Rows L2 Gy Xl Xs Xt Xo Xp Xd Xq LamX
/-! ### puts with wrong arguments -/
section
variable {P : Program} {w : World} {K : PySem.W.Frag} {mg : Str → Option Value} {base : Heap} {H : Hp} {C CN CI CE CT CR CU : Addr}
/-- what the law's own _law_result is, and the errors that it knows -/
structure ResF (K : PySem.W.Frag) (mg : Str → Option Value) (N I E T R U : Addr) : Prop where
  ex : ∃ (g : Addr) (fd : FuncData), mg "_law_result" = some (.ref g) ∧ PySem.W.keepIn K (.ref g) = true ∧ L2.Binds K fd ["_law_call"] [] ∧ Fun K "_law_result" "_law_result" s_law_result g fd
  cg : Cg K
  xx : X25 K N I E T R U
  gN : mg "InvalidName" = some (.ref N)
  gI : mg "InvalidItem" = some (.ref I)
  gE : mg "EmptyChannel" = some (.ref E)
  gT : mg "InvalidText" = some (.ref T)
  gR : mg "RelinkTreeError" = some (.ref R)
  gU : mg "UnknownHost" = some (.ref U)
  zL : mg "LookupError" = none
  zK : mg "KeyError" = none
  zX : mg "IndexError" = none
theorem Two.ext {H' : Hp} {r p La Ls Lp dx : Addr} {ns : List Str} {ks : List (Str × Str)} {f : Str × Str → List PyData} {adp ada : Str × Str → Addr} (t : Two K C H r p La Ls Lp dx ns ks f adp ada) (s : ExtN H H') : Two K C H' r p La Ls Lp dx ns ks f adp ada :=
  ⟨t.R.ext s, t.nLs, lst_ext t.hLs s, ins_ext t.hp s, chd_ext t.cp s, chd_ext t.ca s, t.npa, t.rp, t.ra, t.sep, t.lsp, t.nm, t.kn, t.it⟩
theorem cx_code {CX : CXT} {N : List Str} {qual : Str} {sc : Scope} {f : Addr} {cdv : Value} {A : Around} {outer : List Env} {s : Shared} {E : XK} : (cxOf CX P w K mg base N qual sc f cdv A outer s H E).nox.env.code = cdv := rfl
structure FmP (P : Program) (w : World) (K : PySem.W.Frag) (mg : Str → Option Value) (base : Heap) (C CN CI : Addr) : Prop where
  ex : ∃ (f : Addr) (fd : FuncData), Meth K C "put" f ∧ Binds K fd ["self", "source", "goal", "item"] [] ∧ FnOk P w K mg base (L2.CX P w) 7 f fd ["self", "source", "goal", "item"] (spPutX K C CN CI)
/-- put by name: item, goal, source -/
structure FmPK (P : Program) (w : World) (K : PySem.W.Frag) (mg : Str → Option Value) (base : Heap) (C CN CI : Addr) : Prop where
  ex : ∃ (f : Addr) (fd : FuncData) (g : List Value → List Value → List Value), Meth K C "put" f ∧ KBn K fd ["self", "source", "goal", "item"] 1 ["item", "goal", "source"] g (fun vs zs => vs ++ zs.reverse) ∧ FnOk P w K mg base (L2.CX P w) 7 f fd ["self", "source", "goal", "item"] (spPutX K C CN CI)
theorem pick_a0 {K : PySem.W.Frag} {r : Addr} {H : Hp} {vs : List V} {ds : List PyData} {v : V} (D : Dbs K r H vs ds) (a : ∀ d ∈ ds, A0 d) (m : v ∈ vs) : ∃ d, Db K r H v d ∧ A0 d := by
  obtain ⟨d, md, h⟩ := D.mem m
  exact ⟨d, h, a d md⟩
/-- how large an entry is, and how large it is when it is an item -/
structure Cap (d : PyData) : Prop where
  bd : Bd 4 34025 d
  it : isItem d = true → Bd 9 150 d
theorem cap_ent {ds : List PyData} (en : Ent 4 12 ds) (h : isItem (.tuple ds) = true) : Cap (.tuple ds) := ⟨(Bd.tup (L := 4) en.2.2.1 en.2.1 (by decide)).mono (by decide) (by decide), fun _ => (ent_bd en h).mono (by decide) (by decide)⟩
theorem cap_out {d : PyData} (o : Out 2 1700 4 12 d) : Cap d := by
  have b : Bd 4 34025 d := o.bd
  refine ⟨b, fun h => ⟨b.sh, b.lf, Nat.le_trans b.dp (by decide), item_wt h fun ds es e m => ?_, b.sm, b.so⟩⟩
  exact Nat.le_trans ((o.tu ds e).2.2 _ m es rfl).1 (by decide)
theorem cap_odd {d : PyData} (o : A0 d) : Cap d := ⟨o.mono (by decide) (by decide), fun _ => o.mono (by decide) (by decide)⟩
theorem fits3 {d1 d2 d : PyData} (a1 : A0 d1) (a2 : A0 d2) (c : Cap d) : Fits (.list [d1, d2, d]) := by
  have b : Bd 5 (3 * 34026) (.list [d1, d2, d]) := Bd.lst (n := 4) (W := 34025) (L := 3) (fun e he => by
    simp only [List.mem_cons, List.not_mem_nil, or_false] at he
    rcases he with rfl | rfl | rfl
    · exact a1.mono (by decide) (by decide)
    · exact a2.mono (by decide) (by decide)
    · exact c.bd) (Nat.le_refl 3) (by decide)
  exact b.fits (by decide) (by decide)
def strOf : PyData → Str
  | .str x => x
  | _ => ""
def DONE : List Str := ["done"]
theorem due_cases {d1 d2 d : PyData} : (isHost d1 = false ∧ dueP d1 d2 d = ([("name" : Str), d1.shown] : List Str)) ∨ (isHost d1 = true ∧ (isHost d2 = false ∨ strD? d1 = strD? d2) ∧ dueP d1 d2 d = ([("name" : Str), d2.shown] : List Str)) ∨
    (isHost d1 = true ∧ isHost d2 = true ∧ strD? d1 ≠ strD? d2 ∧ isItem d = true ∧ dueP d1 d2 d = DONE) ∨ (isHost d1 = true ∧ isHost d2 = true ∧ strD? d1 ≠ strD? d2 ∧ isItem d = false ∧ dueP d1 d2 d = ([("item" : Str), d.shown] : List Str)) := by
  by_cases h1 : isHost d1 = false
  · exact .inl ⟨h1, if_pos h1⟩
  have g1 : isHost d1 = true := by simpa using h1
  by_cases h2 : isHost d2 = false ∨ strD? d1 = strD? d2
  · exact .inr (.inl ⟨g1, h2, by unfold dueP; rw [if_neg h1, if_pos h2]⟩)
  have g2 : isHost d2 = true := by
    cases z : isHost d2 with
    | true => rfl
    | false => exact absurd (.inl z) h2
  by_cases h3 : isItem d = true
  · exact .inr (.inr (.inl ⟨g1, g2, fun z => h2 (.inr z), h3, by unfold dueP; rw [if_neg h1, if_neg h2, if_pos h3]; rfl⟩))
  · exact .inr (.inr (.inr ⟨g1, g2, fun z => h2 (.inr z), by simpa using h3, by unfold dueP; rw [if_neg h1, if_neg h2, if_neg h3]⟩))
/-- what holds behind a put that is due this -/
def kD (ks : List (Str × Str)) (d1 d2 d : PyData) : List (Str × Str) := if dueP d1 d2 d = DONE then putKs ks (strOf d1, strOf d2) else ks
def fD (ks : List (Str × Str)) (f : Str × Str → List PyData) (d1 d2 d : PyData) : Str × Str → List PyData := if dueP d1 d2 d = DONE then putFn ks f (strOf d1, strOf d2) d else f
theorem TRes.imp {N I E : Addr} {H : Hp} {Q : VK} {tl tl' : XK → Hp → VK → Prop} (h : TRes K N I E tl' H Q) (i : ∀ E' H' Q', tl' E' H' Q' → tl E' H' Q') : TRes K N I E tl H Q := fun L Ech Q' nL hE hQ => i _ _ _ (h L Ech Q' nL hE hQ)
theorem put_tres {T : List (Addr × Str)} {B : Hp} {r p La Ls Lp dx : Addr} {ns : List Str} {ks js : List (Str × Str)} {f g : Str × Str → List PyData} {adp ada : Str × Str → Addr} {v1 v2 it : V} {d1 d2 d : PyData} {Q : VK} (t : Tw T K C B H r p La Ls Lp dx ns ks f adp js g ada)
    (n1 : Dn K H v1 d1) (n2 : Dn K H v2 d2) (n3 : Dn K H it d) (a1 : A0 d1) (a2 : A0 d2) (cap : Cap d) (kl : ks.length ≤ 500) (fl : ∀ k ∈ ks, (f k).length ≤ 500)
    (k : ∀ H' L adp', Tw T K C (upd B L (.lst ((dueP d1 d2 d).map V.str))) H' r p La Ls Lp dx ns (kD ks d1 d2 d) (fD ks f d1 d2 d) adp' js g ada → B L = none → Dn K H' v1 d1 → Dn K H' v2 d2 → Dn K H' it d → (dueP d1 d2 d = DONE → Dn K (fz H') v1 d1 ∧ Dn K (fz H') v2 d2 ∧ Dn K (fz H') it d) → (dueP d1 d2 d ≠ DONE → Same H H') → Q (.ref L) H') :
    TRes K CN CI CE (fun E' H' Q' => H' p = some (.ins C dx [("held", .ref Lp)]) ∧ spPutX K C CN CI [.ref p, v1, v2, it] H' Q' E') H Q := by
  intro L Ech Q' nL hE hQ
  have s0 := same_upd (o := .lst [.str "done"]) nL
  have t0 := t.push nL s0 upd_same (fun _ z => nomatch z)
  have nB : B L = none := same_no t.sB nL
  have n1' := n1.same s0
  have n2' := n2.same s0
  have n3' := n3.same s0
  have ft1 : Fits d1 := a1.fits (by decide) (by decide)
  have ft2 : Fits d2 := a2.fits (by decide) (by decide)
  have ft3 : Fits d := cap.bd.fits (by decide) (by decide)
  -- an error: all stands, but for what is new
  have bad : ∀ {nm : Str} {CC : Addr} {vv : V} {dd : PyData}, (CC = CN ∧ nm = "name") ∨ (CC = CI ∧ nm = "item") → Dn K (upd H L (.lst [.str "done"])) vv dd → Fits dd → dueP d1 d2 d = [nm, dd.shown] → Ro Ech CC "value" vv (upd H L (.lst [.str "done"])) := by
    intro nm CC vv dd hC dn ft e H' dx' s1 e1
    refine hE _ _ _ (.inl ⟨nm, CC, vv, dd, dx', hC, rfl, rfl, e1, dn.same s1, ft, fun H'' L' s2 nl e2 => ?_⟩)
    have ne : nm ≠ "done" := by
      rcases hC with ⟨_, rfl⟩ | ⟨_, rfl⟩ <;> decide +kernel
    have nd : ¬ dueP d1 d2 d = DONE := fun z => by
      rw [e] at z
      injection z with z
      exact ne z
    have s := (s0.trans s1).trans s2
    have nlH := same_no (s0.trans s1) nl
    refine k H'' L' adp ?_ (same_no t.sB nlH) (n1.same s) (n2.same s) (n3.same s) (fun z => absurd z nd) (fun _ => s)
    rw [e]
    unfold kD fD
    rw [if_neg nd, if_neg nd]
    exact t.push nlH s e2 (fun _ z => nomatch z)
  have k1 := host_dn n1
  have k2 := host_dn n2
  refine ⟨t0.hpH, p, Lp, dx, v1, v2, it, d, ks, f, adp, rfl, kd_dn n1' a1.sm, fun H' s => kd_dn (n2'.same s) a2.sm, n3', cap.bd.sm, t0.hpH, t0.cp, kl, fl, fun e1 => ?_, fun e1 e2 => ?_, fun a b ea eb na nb nab ni => ?_, fun a b ea eb na nb nab ii H' adp' fk fr n c => ?_⟩
  · rw [k1] at e1
    rcases due_cases (d1 := d1) (d2 := d2) (d := d) with ⟨_, e⟩ | ⟨g, _⟩ | ⟨g, _⟩ | ⟨g, _⟩
    · exact bad (.inl ⟨rfl, rfl⟩) n1' ft1 e
    all_goals (rw [e1] at g; cases g)
  · rw [k1] at e1
    rw [k2] at e2
    rcases due_cases (d1 := d1) (d2 := d2) (d := d) with ⟨g, _⟩ | ⟨_, _, e⟩ | ⟨_, g2, ne, _⟩ | ⟨_, g2, ne, _⟩
    · rw [e1] at g
      cases g
    · exact bad (.inl ⟨rfl, rfl⟩) n2' ft2 e
    all_goals
      exfalso
      rcases e2 with e2 | rfl
      · rw [e2] at g2
        cases g2
      · obtain ⟨x, rfl, rfl⟩ := dn_host n1 e1
        cases n2
        exact ne rfl
  · subst ea
    subst eb
    cases n1
    cases n2
    rcases due_cases (d1 := .str a) (d2 := .str b) (d := d) with ⟨g, _⟩ | ⟨_, g, _⟩ | ⟨_, _, _, g, _⟩ | ⟨_, _, _, _, e⟩
    · rw [show isHost (.str a) = textOf (.str a) LET 8 from rfl, nm_txt na] at g
      cases g
    · rcases g with g | g
      · rw [show isHost (.str b) = textOf (.str b) LET 8 from rfl, nm_txt nb] at g
        cases g
      · injection g with g
        exact absurd g nab
    · rw [ni] at g
      cases g
    · exact bad (.inr ⟨rfl, rfl⟩) n3' ft3 e
  · subst ea
    subst eb
    cases n1
    cases n2
    have e : dueP (.str a) (.str b) d = DONE := by
      rcases due_cases (d1 := .str a) (d2 := .str b) (d := d) with ⟨g, _⟩ | ⟨_, g, _⟩ | ⟨_, _, _, _, e⟩ | ⟨_, _, _, g, _⟩
      · rw [show isHost (.str a) = textOf (.str a) LET 8 from rfl, nm_txt na] at g
        cases g
      · rcases g with g | g
        · rw [show isHost (.str b) = textOf (.str b) LET 8 from rfl, nm_txt nb] at g
          cases g
        · injection g with g
          exact absurd g nab
      · exact e
      · rw [ii] at g
        cases g
    have di := (dn_fz n3' (item_noL ii)).same (fz_keep fk)
    refine hQ _ _ (k H' L adp' ?_ nB (.str a) (.str b) (di.same (fz_same H')) (fun _ => ⟨.str a, .str b, di⟩) (fun z => absurd e z))
    rw [e]
    unfold kD fD
    rw [if_pos e, if_pos e]
    exact t0.stepP fk fr n c (kn_put t.kn ⟨na, nb⟩) (it_put t.it (cap.it ii))
theorem kD_len {ks : List (Str × Str)} {d1 d2 d : PyData} : (kD ks d1 d2 d).length ≤ ks.length + 1 := by
  unfold kD
  split
  · exact putKs_len _ _
  · exact Nat.le_succ _
theorem fD_le {ks : List (Str × Str)} {f : Str × Str → List PyData} {d1 d2 d : PyData} (nd : ks.Nodup) : fcount (kD ks d1 d2 d) (fD ks f d1 d2 d) ≤ fcount ks f + 1 := by
  unfold kD fD
  split
  · rw [fc_put nd]
    exact Nat.le_refl _
  · exact Nat.le_succ _
theorem seq_by {A rest : TS} {D : Ends} {σ : L2.St} {H : Hp} (S : Hp → Prop) (h2 : ∀ H', S H' → rest D σ H') (h1 : ∀ R : Ends, (∀ H', S H' → R.nx σ H') → A R σ H) : tSeq A rest D σ H := h1 _ h2
/-- lists of texts as data -/
theorem dp_due {H : Hp} {L : Addr} : ∀ {xs : List Str}, H L = some (.lst (xs.map V.str)) → Dp K H (.ref L) (.list (xs.map PyData.str)) := fun {xs} e => by
  refine .lst (SqL.of e) ?_
  clear e
  induction xs with
  | nil => exact .nil
  | cons x xs ih => exact .cons (.str x) ih
theorem due_so {d1 d2 d : PyData} (a1 : A0 d1) (a2 : A0 d2) (cap : Cap d) : ∀ x ∈ dueP d1 d2 d, PyData.strOk x = true := by
  have two : ∀ {a b x : Str}, PyData.strOk a = true → PyData.strOk b = true → x ∈ ([a, b] : List Str) → PyData.strOk x = true := fun {a b x} h1 h2 m => by
    simp only [List.mem_cons, List.not_mem_nil, or_false] at m
    rcases m with rfl | rfl
    · exact h1
    · exact h2
  intro x hx
  rcases due_cases (d1 := d1) (d2 := d2) (d := d) with ⟨_, e⟩ | ⟨_, _, e⟩ | ⟨_, _, _, _, e⟩ | ⟨_, _, _, _, e⟩
  · rw [e] at hx
    exact two (by decide +kernel) (oks.so a1.so) hx
  · rw [e] at hx
    exact two (by decide +kernel) (oks.so a2.so) hx
  · rw [e] at hx
    rw [List.mem_singleton.mp hx]
    decide +kernel
  · rw [e] at hx
    exact two (by decide +kernel) (oks.so cap.bd.so) hx
theorem lay_strsD : ∀ {xs : List Str}, (∀ x ∈ xs, PyData.strOk x = true) → PyData.canLayAll0 (xs.map PyData.str) = true
  | [], _ => rfl
  | x :: xs, h => by
    show (PyData.strOk x && PyData.canLayAll0 (xs.map PyData.str)) = true
    rw [h x List.mem_cons_self, lay_strsD fun y hy => h y (List.mem_cons_of_mem _ hy)]
    rfl
theorem dep_strs : ∀ {xs : List Str}, PyData.depthAll (xs.map PyData.str) = 0
  | [] => rfl
  | x :: xs => by
    show max 0 (PyData.depthAll (xs.map PyData.str)) = 0
    rw [dep_strs]
    rfl
theorem shp_strs {xs : List Str} (h : ∀ x ∈ xs, PyData.strOk x = true) : SeqAt.shaped (.list (xs.map PyData.str)) = true := by
  unfold SeqAt.shaped
  rw [show (PyData.list (xs.map PyData.str)).canLay0 = true from lay_strsD h]
  show (true && decide (PyData.depthAll (xs.map PyData.str) + 1 ≤ 64)) = true
  rw [dep_strs]
  rfl
theorem two_lay {xs : List Str} (h : ∀ x ∈ xs, PyData.strOk x = true) : (PyData.list [.list (xs.map PyData.str), .list (xs.map PyData.str)]).canLay0 = true ∧ SeqAt.shaped (.list [.list (xs.map PyData.str), .list (xs.map PyData.str)]) = true := by
  have e : (PyData.list [.list (xs.map PyData.str), .list (xs.map PyData.str)]).canLay0 = true := by
    show (PyData.canLayAll0 (xs.map PyData.str) && (PyData.canLayAll0 (xs.map PyData.str) && true)) = true
    rw [lay_strsD h]
    rfl
  refine ⟨e, ?_⟩
  unfold SeqAt.shaped
  rw [e]
  show (true && decide (max (PyData.depthAll (xs.map PyData.str) + 1) (max (PyData.depthAll (xs.map PyData.str) + 1) 0) + 1 ≤ 64)) = true
  rw [dep_strs]
  rfl
theorem done_eqv {d1 d2 d : PyData} : PyData.eqv (.list ((dueP d1 d2 d).map PyData.str)) (.list [.str "done"]) = decide (dueP d1 d2 d = DONE) := by
  have two : ∀ {a b : Str}, PyData.eqv (.list ([a, b].map PyData.str)) (.list [.str "done"]) = decide (([a, b] : List Str) = DONE) := fun {a b} => by
    rw [decide_eq_false (by unfold DONE; intro z; injection z with _ z; cases z)]
    show (PyData.eqv (.str a) (.str "done") && PyData.eqvAll [.str b] []) = false
    rw [show PyData.eqvAll [.str b] [] = false from rfl, Bool.and_false]
  rcases due_cases (d1 := d1) (d2 := d2) (d := d) with ⟨_, e⟩ | ⟨_, _, e⟩ | ⟨_, _, _, _, e⟩ | ⟨_, _, _, _, e⟩
  · rw [e]
    exact two
  · rw [e]
    exact two
  · rw [e, decide_eq_true rfl]
    exact SeqAt.eqv_refl (.list [.str "done"]) (by decide +kernel)
  · rw [e]
    exact two
theorem flk {ks : List (Str × Str)} {f : Str × Str → List PyData} (h : fcount ks f ≤ 450) : ∀ k ∈ ks, (f k).length ≤ 500 := fun k hk => by
  have := fc_mem (f := f) hk
  omega
theorem kD_no {ks : List (Str × Str)} {d1 d2 d : PyData} (h : ¬ dueP d1 d2 d = DONE) : kD ks d1 d2 d = ks := if_neg h
theorem fD_no {ks : List (Str × Str)} {f : Str × Str → List PyData} {d1 d2 d : PyData} (h : ¬ dueP d1 d2 d = DONE) : fD ks f d1 d2 d = f := if_neg h
theorem kD_yes {ks : List (Str × Str)} {a b : Str} {d : PyData} (h : dueP (.str a) (.str b) d = DONE) : kD ks (.str a) (.str b) d = putKs ks (a, b) := if_pos h
theorem fD_yes {ks : List (Str × Str)} {f : Str × Str → List PyData} {a b : Str} {d : PyData} (h : dueP (.str a) (.str b) d = DONE) : fD ks f (.str a) (.str b) d = putFn ks f (a, b) d := if_pos h
theorem due_done {K : PySem.W.Frag} {H : Hp} {v1 v2 : V} {d1 d2 d : PyData} (n1 : Dn K H v1 d1) (n2 : Dn K H v2 d2) (e : dueP d1 d2 d = DONE) : ∃ a b, v1 = .str a ∧ d1 = .str a ∧ v2 = .str b ∧ d2 = .str b ∧ isItem d = true := by
  have no : ∀ {x y : Str}, ([x, y] : List Str) ≠ DONE := fun z => by
    unfold DONE at z
    injection z with _ z
    cases z
  rcases due_cases (d1 := d1) (d2 := d2) (d := d) with ⟨_, z⟩ | ⟨_, _, z⟩ | ⟨g1, g2, _, ii, _⟩ | ⟨_, _, _, _, z⟩
  · rw [z] at e
    exact absurd e no
  · rw [z] at e
    exact absurd e no
  · obtain ⟨a, e1, e2⟩ := dn_host n1 g1
    obtain ⟨b, e3, e4⟩ := dn_host n2 g2
    exact ⟨a, b, e1, e2, e3, e4, ii⟩
  · rw [z] at e
    exact absurd e no
def spPutR (T : List (Addr × Str)) (K : PySem.W.Frag) (C : Addr) : Sp := fun vs H Q _ => ∃ (r p La Ls Lp dx : Addr) (B : Hp) (ns : List Str) (ks : List (Str × Str)) (f : Str × Str → List PyData) (adp ada : Str × Str → Addr), vs = [.ref r, .ref p, .ref La, .ref Ls] ∧ Tw T K C B H r p La Ls Lp dx ns ks f adp ks f ada ∧ 2 ≤ ns.length ∧ ns.length ≤ 20 ∧ ns.Nodup ∧ ks.length ≤ 400 ∧ fcount ks f ≤ 400 ∧
  ∀ H' ks' f' adp' ada', Tw T K C B H' r p La Ls Lp dx ns ks' f' adp' ks' f' ada' → ks'.length ≤ ks.length + 1 → fcount ks' f' ≤ fcount ks f + 2 → Q (.bl true) H'
theorem ok_putR {f c Pt : Addr} {fd : FuncData} {T : List (Addr × Str)} (F : FunT K "_law_put_right" "_law_put_right" s_law_put_right f fd (.ref c)) (Y : Bn mg) (TO : Cc K C) (RF : ResF K mg CN CI CE CT CR CU) (TB : TabB base mg c Pt) (mT : (Pt, (("_law_put_right" : Str) ++ ".<locals>.") ++ "<lambda>") ∈ T) (uT : ∀ p ∈ T, p.1 = Pt → p.2 = (("_law_put_right" : Str) ++ ".<locals>.") ++ "<lambda>") (M_put : FmP P w K mg base C CN CI) (MK_put : FmPK P w K mg base C CN CI)
    (G_law_draw : Fk P w K mg base CX0 1 "_law_draw" ["_law_pot_here", "_law_many"] spDraw) (G_law_ends : Fk P w K mg base CX0 2 "_law_ends" ["_law_pot_here", "_law_names_here"] spEnds) (G_law_odd : Fk P w K mg base CX0 2 "_law_odd" ["_law_pot_here"] (spOdd K)) (G_law_entry : Fk P w K mg base CX0 4 "_law_entry" ["_law_pot_here"] (spEntD K)) (G_law_spoilt : Fk P w K mg base CX0 4 "_law_spoilt" ["_law_pot_here", "_law_entry_here"] (spSpoil K))
    (G_law_due_put : Fg P w K mg base CX0 4 "_law_due_put" ["_law_src", "_law_dst", "_law_entry_here"] (spDueP K)) (G_law_put_in : Fk P w K mg base CX0 2 "_law_put_in" ["_law_rows", "_law_src", "_law_dst", "_law_entry_here"] (spPutIn K)) : FnG P w K mg base CX0 12 f fd ["_law_pot_here", "_law_channels", "_law_rows", "_law_names_here"] (spPutR T K C) := by
  obtain ⟨fP, fdP, MM_put, MB_put, MF_put⟩ := M_put.ex
  obtain ⟨fPK, fdPK, gPK, MMK_put, KB_put, MFK_put⟩ := MK_put.ex
  obtain ⟨gR', fdR, gm, gk, bR, FR⟩ := RF.ex
  obtain ⟨ocR, odR, kVR, docR, pmR, anR, cdvR, ctR, oslR, rfl, lkR, hcR⟩ := FR.ex
  refine fun_gT F sc_law_put_right (fun {vs H Q E} h => ?_) (fun A outer s H vs Q E gd hr h => ?_)
  · obtain ⟨r, p, La, Ls, Lp, dx, B, ns, ks, g, adp, ada, rfl, _⟩ := h
    rfl
  · obtain ⟨r, p, La, Ls, Lp, dx, B, ns, ks, g, adp, ada, rfl, t, l2, l20, nd, kl, fl, q⟩ := h
    have hu70 := Room.units70 hr
    have hu64 := hr.units
    refine ⟨_, (pss_cons (ps_set (i := 4) sc_law_put_right.nd rfl (.inl rfl) (pe_callF G_law_ends (hr.mono (by decide)) (by rfl) pass0 (pa_cons (pv 0) (pa_cons (pv 3) pa_nil))))
 (pss_cons (ps_set (i := 5) sc_law_put_right.nd rfl (.inr rfl) (pe_ix ix_list (pe_lst (pa_cons (pe_ix ix_tup (pv 4) pe_int (fun _ _ => rfl)) (pa_cons (pe_ix ix_tup (pv 4) pe_int (fun _ _ => rfl)) (pa_cons (pe_callF G_law_odd (hr.mono (by decide)) (by rfl) pass0 (pa_cons (pv 0) pa_nil)) pa_nil)))) (pe_callF G_law_draw (hr.mono (by decide)) (by rfl) pass0 (pa_cons (pv 0) (pa_cons pe_int pa_nil))) (fun _ _ => rfl)))
 (pss_cons (ps_set (i := 6) sc_law_put_right.nd rfl (.inr rfl) (pe_ix ix_list (pe_lst (pa_cons (pe_ix ix_tup (pv 4) pe_int (fun _ _ => rfl)) (pa_cons (pe_ix ix_tup (pv 4) pe_int (fun _ _ => rfl)) (pa_cons (pe_callF G_law_odd (hr.mono (by decide)) (by rfl) pass0 (pa_cons (pv 0) pa_nil)) (pa_cons (pv 5) pa_nil))))) (pe_callF G_law_draw (hr.mono (by decide)) (by rfl) pass0 (pa_cons (pv 0) (pa_cons pe_int pa_nil))) (fun _ _ => rfl)))
 (pss_cons (ps_set (i := 7) sc_law_put_right.nd rfl (.inr rfl) (pe_callF G_law_entry (hr.mono (by decide)) (by rfl) pass0 (pa_cons (pv 0) pa_nil)))
 (pss_cons (ps_set (i := 7) sc_law_put_right.nd rfl (.inr rfl) (pe_ix ix_list (pe_lst (pa_cons (pv 7) (pa_cons (pe_callF G_law_spoilt (hr.mono (by decide)) (by rfl) pass0 (pa_cons (pv 0) (pa_cons (pv 7) pa_nil))) (pa_cons (pe_callF G_law_odd (hr.mono (by decide)) (by rfl) pass0 (pa_cons (pv 0) pa_nil)) pa_nil)))) (pe_callF G_law_draw (hr.mono (by decide)) (by rfl) pass0 (pa_cons (pv 0) (pa_cons pe_int pa_nil))) (fun _ _ => rfl)))
 (pss_cons (ps_par (i := 8) (j := 9) (by rfl) sc_law_put_right.nd rfl rfl (by decide) rfl rfl (pa_cons (pe_callFg (E := E0) G_law_due_put gd (hr.mono (by decide)) (by rfl) pass0 (pa_cons (pv 5) (pa_cons (pv 6) (pa_cons (pv 7) pa_nil)))) (pa_cons (pe_callB (show CallR _ (.builtin "repr") (rReprN K) from repr_dn gd hu70) (by rfl) Y.repr (by decide +kernel) (pa_cons (pe_lst (pa_cons (pv 5) (pa_cons (pv 6) (pa_cons (pv 7) pa_nil)))) pa_nil)) pa_nil)) (by rfl))
 (pss_cons (ps_set (i := 10) sc_law_put_right.nd rfl (.inl rfl) (pe_lst (pa_cons (pe_lamcallS (T := T) (TT := TRes K CN CI CE) (x := "_law_result") (a := "_law_call") (g := gR') (by rfl) gm gk lkR hcR bR sc_law_result (by rfl) (.inl rfl) (res_gives Y RF.cg gd (hr.mono (by decide)) RF.xx RF.gN RF.gI RF.gE RF.gT RF.gR RF.gU RF.zL RF.zK RF.zX) TB cx_code mT uT (hr.mono (by decide)) (lamS_by (sc := defScope s_law_put_right) (by decide +kernel)) (by rfl) (fun _ _ _ _ _ => by rfl) (fun A' outer' s' H' E' f' c2 r2 => pe_meth (E := E') (pv 1) TO.cl MM_put MF_put r2 MB_put .nil (passes_call (E := E') (takes_of rfl rfl rfl rfl) (fun _ _ _ _ h => h)) (pa_cons (pv 5) (pa_cons (pv 6) (pa_cons (pv 7) pa_nil))))) pa_nil)))
 (pss_cons (ps_expr (pe_bm PySem.F.plainAttrs_list PySem.F.slot_list_append PySem.F.type_list_append mt_append (pv 10) (pa_cons (pe_lamcallS (T := T) (TT := TRes K CN CI CE) (x := "_law_result") (a := "_law_call") (g := gR') (by rfl) gm gk lkR hcR bR sc_law_result (by rfl) (.inl rfl) (res_gives Y RF.cg gd (hr.mono (by decide)) RF.xx RF.gN RF.gI RF.gE RF.gT RF.gR RF.gU RF.zL RF.zK RF.zX) TB cx_code mT uT (hr.mono (by decide)) (lamS_by (sc := defScope s_law_put_right) (by decide +kernel)) (by rfl) (fun _ _ _ _ _ => by rfl) (fun A' outer' s' H' E' f' c2 r2 => pe_methK (E := E') (pv 1) TO.cl MMK_put MFK_put r2 KB_put (passes_call (E := E') (takes_of rfl rfl rfl rfl) (fun _ _ _ _ h => h)) (pk_cons (pv 7) (pk_cons (pv 6) (pk_cons (pv 5) pk_nil))))) pa_nil)))
 (pss_cons (ps_if (pt_cmpR (op_eqD hu64) (pv 8) (pe_lst (pa_cons pe_str pa_nil)) (nomark _))
 (pss_cons (ps_expr (pe_callF G_law_put_in (hr.mono (by decide)) (by rfl) pass0 (pa_cons (pv 2) (pa_cons (pv 5) (pa_cons (pv 6) (pa_cons (pv 7) pa_nil))))))
 (pss_one (ps_expr (pe_callF G_law_put_in (hr.mono (by decide)) (by rfl) pass0 (pa_cons (pv 2) (pa_cons (pv 5) (pa_cons (pv 6) (pa_cons (pv 7) pa_nil))))))))
 pss_nil)
 (pss_one (ps_ret (pe_and (pe_cmpR (op_eqD hu64) (pv 10) (pe_op op_rep (pe_lst (pa_cons (pv 8) pa_nil)) pe_int) (nomark _)) (pe_one (pe_cmpR op_eq (pe_callB (show CallR _ (.builtin "repr") (rReprN K) from repr_dn gd hu70) (by rfl) Y.repr (by decide +kernel) (pa_cons (pe_lst (pa_cons (pv 5) (pa_cons (pv 6) (pa_cons (pv 7) pa_nil)))) pa_nil)) (pv 9) (nomark _))))))))))))))), ?_⟩
    refine ⟨_, rfl, _, rfl, r, Ls, ns, rfl, t.R, t.nLs, t.hLsH, l2, l20, nd, fun H1 tp x z b1 R1 tz mx mz nxz => ?_⟩
    have t1 := t.but b1 R1
    refine ⟨_, rfl, tp, _, 0, .str x, rfl, rfl, tz.sq, rfl, _, rfl, tp, _, 0, .str x, rfl, rfl, tz.sq, rfl, _, rfl, r, rfl, R1, fun H2 vo dO b2 R2 on oa _ => ?_⟩
    refine ⟨(by show 3 ≤ sizeLine; decide), fun l3 n3 => ?_⟩
    generalize hg : upd H2 l3 _ = H3
    obtain ⟨s3, g3⟩ := upd_new hg n3
    clear hg
    have ne3 := R2.ne n3
    have R3 := R2.same s3
    refine ⟨_, rfl, r, 3, rfl, R3, by decide, by decide, fun H4 e b4 R4 e0 e1 => ?_⟩
    obtain ⟨v1, hv, mv⟩ := at_in (xs := [V.str x, .str x, vo]) e0 e1
    refine ⟨l3, _, e, v1, rfl, rfl, SqL.of (b4 _ _ ne3 g3), hv, ?_⟩
    obtain ⟨d1, q1, a1⟩ : ∃ d, Db K r H4 v1 d ∧ A0 d := pick_a0 (ds := [.str x, .str x, dO]) (.cons (.str _) (.cons (.str _) (.cons ((on.same s3).but b4) .nil))) (fun d hd => by
      simp only [List.mem_cons, List.not_mem_nil, or_false] at hd
      rcases hd with rfl | rfl | rfl
      · exact a0_nm (t.nm x mx)
      · exact a0_nm (t.nm x mx)
      · exact oa) mv
    have t4 := ((t1.but b2 R2).same s3).but b4 R4
    have tz4 := ((tz.but R1 b2).same s3).but R3 b4
    clear t1 tz b1 b2 b4 s3 g3 n3 ne3 R1 R2 R3 on oa e0 e1 hv mv H1 H2 H3
    refine ⟨_, rfl, tp, _, 1, .str z, rfl, rfl, tz4.sq, rfl, _, rfl, tp, _, 1, .str z, rfl, rfl, tz4.sq, rfl, _, rfl, r, rfl, R4, fun H2 vo dO b2 R2 on oa _ => ?_⟩
    refine ⟨_, rfl, (by show 4 ≤ sizeLine; decide), fun l3 n3 => ?_⟩
    generalize hg : upd H2 l3 _ = H3
    obtain ⟨s3, g3⟩ := upd_new hg n3
    clear hg
    have ne3 := R2.ne n3
    have R3 := R2.same s3
    refine ⟨_, rfl, r, 4, rfl, R3, by decide, by decide, fun H5 e b5 R5 e0 e1 => ?_⟩
    obtain ⟨v2, hv, mv⟩ := at_in (xs := [V.str z, .str z, vo, v1]) e0 e1
    refine ⟨l3, _, e, v2, rfl, rfl, SqL.of (b5 _ _ ne3 g3), hv, ?_⟩
    have q1' := ((q1.but b2).same s3).but b5
    obtain ⟨d2, q2, a2⟩ : ∃ d, Db K r H5 v2 d ∧ A0 d := pick_a0 (ds := [.str z, .str z, dO, d1]) (.cons (.str _) (.cons (.str _) (.cons ((on.same s3).but b5) (.cons q1' .nil)))) (fun d hd => by
      simp only [List.mem_cons, List.not_mem_nil, or_false] at hd
      rcases hd with rfl | rfl | rfl | rfl
      · exact a0_nm (t.nm z mz)
      · exact a0_nm (t.nm z mz)
      · exact oa
      · exact a1) mv
    have t5 := ((t4.but b2 R2).same s3).but b5 R5
    replace q1 := q1'
    clear q1' t4 tz4 b2 b5 s3 g3 n3 ne3 R2 R3 R4 on oa e0 e1 hv mv H2 H3 mx mz nxz
    refine ⟨_, rfl, r, rfl, R5, fun H6 te xs ds b6 R6 tz6 qd en iE => ?_⟩
    refine ⟨_, rfl, _, rfl, _, rfl, r, te, xs, ds, 2, 1700, 4, 12, rfl, R6, tz6, qd, en.1, en.2.1, by decide, by decide, by decide, by decide, by decide, by decide, en.2.2.1, en.2.2.2, fun H7 v3 d3 b7 R7 q3 out => ?_⟩
    refine ⟨_, rfl, r, rfl, R7, fun H8 vo dO b8 R8 on oa _ => ?_⟩
    refine ⟨(by show 3 ≤ sizeLine; decide), fun l9 n9 => ?_⟩
    generalize hg : upd H8 l9 _ = H9
    obtain ⟨s9, g9⟩ := upd_new hg n9
    clear hg
    have ne9 := R8.ne n9
    have R9 := R8.same s9
    refine ⟨_, rfl, r, 3, rfl, R9, by decide, by decide, fun HA e bA RA e0 e1 => ?_⟩
    obtain ⟨it, hv, mv⟩ := at_in (xs := [V.ref te, v3, vo]) e0 e1
    refine ⟨l9, _, e, it, rfl, rfl, SqL.of (bA _ _ ne9 g9), hv, ?_⟩
    have qE : Db K r H6 (.ref te) (.tuple ds) := .tup R6 tz6 qd
    obtain ⟨d, qi, cap⟩ : ∃ d, Db K r HA it d ∧ Cap d := by
      have D : Dbs K r HA [V.ref te, v3, vo] [.tuple ds, d3, dO] := .cons ((((qE.but b7).but b8).same s9).but bA) (.cons (((q3.but b8).same s9).but bA) (.cons ((on.same s9).but bA) .nil))
      obtain ⟨d, md, h⟩ := D.mem mv
      refine ⟨d, h, ?_⟩
      simp only [List.mem_cons, List.not_mem_nil, or_false] at md
      rcases md with rfl | rfl | rfl
      · exact cap_ent en iE
      · exact cap_out out
      · exact cap_odd oa
    have tA := ((((t5.but b6 R6).but b7 R7).but b8 R8).same s9).but bA RA
    have qA1 := ((((q1.but b6).but b7).but b8).same s9).but bA
    have qA2 := ((((q2.but b6).but b7).but b8).same s9).but bA
    have n1 := qA1.dn
    have n2 := qA2.dn
    have n3 := qi.dn
    clear t5 b6 b7 b8 s9 g9 n9 ne9 bA R5 R6 R7 R8 R9 e0 e1 hv mv on oa q3 out qE qd tz6 en iE q1 q2 qA1 qA2 qi
    have ft := fits3 a1 a2 cap
    refine ⟨_, rfl, _, rfl, _, rfl, _, _, _, d1, d2, d, rfl, n1, n2, n3, a1.sm, a2.sm, cap.bd.sm, a1.fits (by decide) (by decide), a2.fits (by decide) (by decide), cap.bd.fits (by decide) (by decide), fun HB Ld sB nD gD => ?_⟩
    have tB := (tA.push nD sB gD (fun _ z => nomatch z))
    replace n1 := n1.same sB
    replace n2 := n2.same sB
    replace n3 := n3.same sB
    have BD : (upd B Ld (.lst ((dueP d1 d2 d).map V.str))) Ld = some (.lst ((dueP d1 d2 d).map V.str)) := upd_same
    have sB0 : Same B (upd B Ld (.lst ((dueP d1 d2 d).map V.str))) := same_upd (same_no tA.sB nD)
    generalize upd B Ld (.lst ((dueP d1 d2 d).map V.str)) = B1 at tB BD sB0
    clear tA sB nD gD
    -- what is shown of the arguments
    refine ⟨_, rfl, _, rfl, _, rfl, (by show 3 ≤ sizeLine; decide), fun lC nC => ?_⟩
    generalize hg : upd HB lC _ = HC
    obtain ⟨sC, gC⟩ := upd_new hg nC
    clear hg
    have tC := tB.same sC
    replace n1 := n1.same sC
    replace n2 := n2.same sC
    replace n3 := n3.same sC
    refine ⟨_, .list [d1, d2, d], rfl, .lst gC (.cons n1 (.cons n2 (.cons n3 .nil))), ft.1, ft.2.1, ft.2.2, ?_⟩
    refine ⟨_, _, rfl, ?_⟩
    clear tB sC gC nC
    -- put
    refine ⟨tC.tabs, fun HD eD TD => ?_⟩
    refine TRes.imp (put_tres (tC.ext eD TD) (dn_ext eD n1) (dn_ext eD n2) (dn_ext eD n3) a1 a2 cap (by omega) (flk (by omega)) (fun HE L1 adp1 tE nB1 m1 m2 m3 z1 y1 => ?_)) (fun E' H' Q' z => ⟨_, rfl, p, dx, _, rfl, z.1, fld_no (by decide +kernel), _, rfl, _, rfl, _, rfl, z.2⟩)
    refine ⟨(by show 1 ≤ sizeLine; decide), fun Lr nr => ?_⟩
    generalize hg : upd HE Lr _ = HF
    obtain ⟨sF, gF⟩ := upd_new hg nr
    clear hg
    have tF := tE.push nr sF gF (fun _ z => nomatch z)
    have nBr := same_no tE.sB nr
    have BR := (upd_same : (upd (upd B1 L1 (.lst ((dueP d1 d2 d).map V.str))) Lr (.lst [.ref L1])) Lr = some (.lst [.ref L1]))
    have BL := same_upd (o := .lst [.ref L1]) nBr _ _ (upd_same : (upd B1 L1 (.lst ((dueP d1 d2 d).map V.str))) L1 = some (.lst ((dueP d1 d2 d).map V.str)))
    replace BD := same_upd (o := .lst [.ref L1]) nBr _ _ (same_upd (o := .lst ((dueP d1 d2 d).map V.str)) nB1 _ _ BD)
    have sB3 := (sB0.trans (same_upd (o := .lst ((dueP d1 d2 d).map V.str)) nB1)).trans (same_upd (o := .lst [.ref L1]) nBr)
    have nLrLs : Lr ≠ Ls := (ne_of_none tE.hLsH nr).symm
    have nB0 : B Lr = none := same_no (sB0.trans (same_upd (o := .lst ((dueP d1 d2 d).map V.str)) nB1)) nBr
    generalize upd (upd B1 L1 (.lst ((dueP d1 d2 d).map V.str))) Lr (.lst [.ref L1]) = B3 at tF BR BL BD sB3
    clear nBr nB1 sB0
    have c1 := fD_le (f := g) (d1 := d1) (d2 := d2) (d := d) t.cp.nd
    have c2 := kD_len (ks := ks) (d1 := d1) (d2 := d2) (d := d)
    refine ⟨_, rfl, .inl ⟨rfl, _, SqL.of gF⟩, ?_⟩
    refine ⟨tF.tabs, fun HG eG TG => ?_⟩
    have x1 : Dn K HG v1 d1 := dn_ext eG (m1.same sF)
    have x2 : Dn K HG v2 d2 := dn_ext eG (m2.same sF)
    have x3 : Dn K HG it d := dn_ext eG (m3.same sF)
    refine TRes.imp (put_tres (tF.ext eG TG) x1 x2 x3 a1 a2 cap (by omega) (flk (by omega)) (fun HH L2 adp2 tH nB2 m1' m2' m3' z2 y2 => ?_)) (fun E' H' Q' z => ⟨_, rfl, p, dx, _, rfl, z.1, fld_no (by decide +kernel), _, rfl, _, rfl, _, rfl, rfl, z.2⟩)
    have nLr2 : Lr ≠ L2 := ne_of_none BR nB2
    have BR' := (upd_ne (o := .lst ((dueP d1 d2 d).map V.str)) nLr2).trans BR
    have e2R := tH.sB _ _ BR'
    have tI := tH.set (vs := [.ref L1, .ref L2]) BR' nLrLs
    have nLd : Ld ≠ Lr := fun z => by
      rw [z, BR] at BD
      injection BD with BD
      injection BD with BD
      have := congrArg (fun l => l.head?) BD
      cases hd : dueP d1 d2 d with
      | nil => rw [hd] at BD; cases BD
      | cons y ys => rw [hd] at BD; injection BD with BD; cases BD
    have nL1 : L1 ≠ Lr := fun z => by
      rw [z, BR] at BL
      injection BL with BL
      injection BL with BL
      cases hd : dueP d1 d2 d with
      | nil => rw [hd] at BL; cases BL
      | cons y ys => rw [hd] at BL; injection BL with BL; cases BL
    have B5D := ((upd_ne (H := upd B3 L2 (.lst ((dueP d1 d2 d).map V.str))) (o := .lst [.ref L1, .ref L2]) nLd).trans (upd_ne (ne_of_none BD nB2))).trans BD
    have B5L := ((upd_ne (H := upd B3 L2 (.lst ((dueP d1 d2 d).map V.str))) (o := .lst [.ref L1, .ref L2]) nL1).trans (upd_ne (ne_of_none BL nB2))).trans BL
    have B5M := (upd_ne (o := .lst [.ref L1, .ref L2]) nLr2.symm).trans (upd_same : (upd B3 L2 (.lst ((dueP d1 d2 d).map V.str))) L2 = _)
    have B5R := (upd_same : (upd (upd B3 L2 (.lst ((dueP d1 d2 d).map V.str))) Lr (.lst [.ref L1, .ref L2])) Lr = _)
    have sB5 : Same B (upd (upd B3 L2 (.lst ((dueP d1 d2 d).map V.str))) Lr (.lst [.ref L1, .ref L2])) := fun b o e => by
      rw [upd_ne (ne_of_none e nB0), upd_ne (ne_of_none e (same_no sB3 nB2))]
      exact sB3 _ _ e
    generalize upd (upd B3 L2 (.lst ((dueP d1 d2 d).map V.str))) Lr (.lst [.ref L1, .ref L2]) = B5 at tI B5D B5L B5M B5R sB5
    -- what was passed stands
    have fkI : FzK HH (upd HH Lr (.lst [.ref L1, .ref L2])) := (FzK.refl HH).upd e2R (fun _ _ z => nomatch z)
    have w : Dn K (upd HH Lr (.lst [.ref L1, .ref L2])) v1 d1 ∧ Dn K (upd HH Lr (.lst [.ref L1, .ref L2])) v2 d2 ∧ Dn K (upd HH Lr (.lst [.ref L1, .ref L2])) it d := by
      by_cases dd : dueP d1 d2 d = DONE
      · obtain ⟨u1, u2, u3⟩ := z2 dd
        exact ⟨(u1.same (fz_keep fkI)).same (fz_same _), (u2.same (fz_keep fkI)).same (fz_same _), (u3.same (fz_keep fkI)).same (fz_same _)⟩
      · have eI : ExtN HC (upd HH Lr (.lst [.ref L1, .ref L2])) := fun b o e n => by
          have eE := (y1 dd) _ _ (eD _ _ e n)
          rw [upd_ne (ne_of_none eE nr)]
          exact (y2 dd) _ _ (eG _ _ (sF _ _ eE) n)
        exact ⟨dn_ext eI n1, dn_ext eI n2, dn_ext eI n3⟩
    refine ⟨Lr, [.ref L1], .ref L2, rfl, rfl, e2R, (by show 1 < sizeLine; decide), ?_⟩
    dsimp only [List.cons_append, List.nil_append]
    generalize upd HH Lr (.lst [.ref L1, .ref L2]) = HI at tI w
    have c3 := fD_le (f := fD ks g d1 d2 d) (d1 := d1) (d2 := d2) (d := d) tE.cp.nd
    have c4 := kD_len (ks := kD ks d1 d2 d) (d1 := d1) (d2 := d2) (d := d)
    have c5 : (kD (kD ks d1 d2 d) d1 d2 d).length ≤ ks.length + 1 := by
      by_cases dd : dueP d1 d2 d = DONE
      · have e : kD (kD ks d1 d2 d) d1 d2 d = kD ks d1 d2 d := by
          unfold kD
          rw [if_pos dd, if_pos dd]
          exact if_pos (by
            unfold putKs
            split
            · assumption
            · exact List.mem_append_right _ (List.mem_singleton.mpr rfl))
        rw [e]
        exact c2
      · rw [kD_no dd]
        exact c2
    clear tH tF tE tC x1 x2 x3 m1 m2 m3 m1' m2' m3' n1 n2 n3 y1 y2 z1 z2 e2R BR' fkI sF eG eD gF TG TD
    refine seq_by (fun H' => ∃ ks' f' adp' ada', Tw T K C B5 H' r p La Ls Lp dx ns ks' f' adp' ks' f' ada' ∧ ks'.length ≤ ks.length + 1 ∧ fcount ks' f' ≤ fcount ks g + 2 ∧ Dn K H' v1 d1 ∧ Dn K H' v2 d2 ∧ Dn K H' it d) (fun H' hS => ?_) (fun R hR => ?_)
    · obtain ⟨ks', f', adp', ada', tf, l1, l2, w1, w2, w3⟩ := hS
      refine ⟨_, rfl, _, rfl, (by show 1 ≤ sizeLine; decide), fun lb nb => ?_⟩
      generalize hg : upd H' lb _ = H2
      obtain ⟨s2, g2⟩ := upd_new hg nb
      clear hg
      refine ⟨lb, 2, _, rfl, rfl, g2, by decide, by decide, (by show 1 * 2 ≤ sizeLine; decide), fun lc nc => ?_⟩
      generalize hg : upd H2 lc _ = H3
      obtain ⟨s3, g3⟩ := upd_new hg nc
      clear hg
      have g3 : H3 lc = some (.lst [.ref Ld, .ref Ld]) := g3
      have s03 := s2.trans s3
      have tg := tf.same s03
      have fD3 := dp_due (K := K) (tg.sB _ _ B5D)
      have fL3 := dp_due (K := K) (tg.sB _ _ B5L)
      have fM3 := dp_due (K := K) (tg.sB _ _ B5M)
      have ly := two_lay (due_so a1 a2 cap)
      refine ⟨.list [.list ((dueP d1 d2 d).map PyData.str), .list ((dueP d1 d2 d).map PyData.str)], .list [.list ((dueP d1 d2 d).map PyData.str), .list ((dueP d1 d2 d).map PyData.str)], .lst (SqL.of (tg.sB _ _ B5R)) (.cons fL3 (.cons fM3 .nil)), .lst (SqL.of g3) (.cons fD3 (.cons fD3 .nil)), ly.2, ly.2, _, rfl, ?_⟩
      rw [SeqAt.eqv_refl _ ly.1]
      refine iteT ?_
      refine ⟨_, rfl, _, rfl, _, rfl, (by show 3 ≤ sizeLine; decide), fun ld nd => ?_⟩
      generalize hg : upd H3 ld _ = H4
      obtain ⟨s4, g4⟩ := upd_new hg nd
      clear hg
      have s04 := s03.trans s4
      refine ⟨_, .list [d1, d2, d], rfl, .lst g4 (.cons (w1.same s04) (.cons (w2.same s04) (.cons (w3.same s04) .nil))), ft.1, ft.2.1, ft.2.2, _, rfl, rfl, ?_⟩
      rw [decide_eq_true rfl]
      exact q _ ks' f' adp' ada' ((tf.same s04).pop sB5 t.hLs t.hp) l1 l2
    · refine ⟨_, rfl, (by show 1 ≤ sizeLine; decide), fun ln nn => ?_⟩
      generalize hg : upd HI ln _ = H2
      obtain ⟨s2, g2⟩ := upd_new hg nn
      clear hg
      have t2 := tI.same s2
      have sD := shp_strs (due_so a1 a2 cap)
      refine ⟨.list ((dueP d1 d2 d).map PyData.str), .list [.str "done"], dp_due (t2.sB _ _ B5D), dp_due (xs := DONE) g2, sD, (by decide +kernel), _, rfl, ?_⟩
      rw [done_eqv]
      by_cases dd : dueP d1 d2 d = DONE
      · rw [decide_eq_true dd]
        refine iteT ?_
        obtain ⟨a, b, rfl, rfl, rfl, rfl, ii⟩ := due_done w.1 w.2.1 dd
        have w3 := (dn_fz (w.2.2.same s2) (item_noL ii))
        refine ⟨_, rfl, _, rfl, _, rfl, _, rfl, La, a, b, it, d, ks, g, ada, rfl, t2.ca, w.2.2.same s2, item_noL ii, by omega, flk (by omega), fun H3 ad3 fk3 fr3 n3 c3' => ?_⟩
        have t3 := t2.stepL fk3 fr3 n3 c3'
        have w4 := w3.same (fz_keep fk3)
        have e1 := kD_len (ks := ks) (d1 := .str a) (d2 := .str b) (d := d)
        have e2 := fD_le (f := g) (d1 := .str a) (d2 := .str b) (d := d) t.cp.nd
        rw [kD_yes dd, fD_yes dd] at e2
        rw [kD_yes dd] at e1
        refine ⟨_, rfl, _, rfl, _, rfl, _, rfl, La, a, b, it, d, _, _, ad3, rfl, t3.ca, w4.same (fz_same _), item_noL ii, by omega, flk (by omega), fun H4 ad4 fk4 fr4 n4 c4' => ?_⟩
        have t4 := t3.stepL fk4 fr4 n4 c4'
        refine hR _ ⟨_, _, adp2, ad4, ?_, c5, Nat.le_trans c3 (by omega), .str a, .str b, (w4.same (fz_keep fk4)).same (fz_same _)⟩
        rw [kD_yes dd, fD_yes dd, kD_yes dd, fD_yes dd]
        rw [kD_yes dd, fD_yes dd, kD_yes dd, fD_yes dd] at t4
        exact t4
      · rw [decide_eq_false dd]
        refine iteF ?_
        rw [kD_no dd, fD_no dd, kD_no dd, fD_no dd] at t2
        exact hR _ ⟨_, _, adp2, ada, t2, by omega, by omega, w.1.same s2, w.2.1.same s2, w.2.2.same s2⟩
end
end My

namespace My
open PySem PySem.Spec PyProof.Rows L2 Gy Xl Xs Xt Xo Xp Xd Xq LamX
/-! ### takes with wrong arguments -/
section
variable {P : Program} {w : World} {K : PySem.W.Frag} {mg : Str → Option Value} {base : Heap} {H : Hp} {C CN CI CE CT CR CU : Addr}
structure FmK (P : Program) (w : World) (K : PySem.W.Frag) (mg : Str → Option Value) (base : Heap) (CX : CXT) (k : Nat) (C : Addr) (nm : Str) (ps ks : List Str) (gV : List V → List V → List V) (sp : Sp) : Prop where
  ex : ∃ (f : Addr) (fd : FuncData) (g : List Value → List Value → List Value), Meth K C nm f ∧ KBn K fd ps 1 ks g gV ∧ FnOk P w K mg base CX k f fd ps sp
abbrev gFw : List V → List V → List V := fun vs zs => vs ++ zs
abbrev gBk : List V → List V → List V := fun vs zs => vs ++ zs.reverse
theorem seq_byR {A rest : TS} {D : Ends} {σ : L2.St} {H : Hp} (S : Hp → Prop) (h2 : ∀ H', S H' → rest D σ H') (h1 : ∀ R : Ends, R.rt = D.rt → (∀ H', S H' → R.nx σ H') → A R σ H) : tSeq A rest D σ H := h1 _ rfl h2
theorem fits2 {d1 d2 : PyData} (a1 : A0 d1) (a2 : A0 d2) : Fits (.list [d1, d2]) := by
  have b : Bd 2 (2 * 121) (.list [d1, d2]) := Bd.lst (n := 1) (W := 120) (L := 2) (fun e he => by
    simp only [List.mem_cons, List.not_mem_nil, or_false] at he
    rcases he with rfl | rfl
    · exact a1
    · exact a2) (Nat.le_refl 2) (by decide)
  exact b.fits (by decide) (by decide)
/-- what is due -/
def emD (d1 d2 : PyData) : PyData := .list [.str "empty", .str (PyData.shown (.list [d1, d2])), .bool true]
def emV (d1 d2 : PyData) : List V := [.str "empty", .str (PyData.shown (.list [d1, d2])), .bl true]
theorem em_dp {H : Hp} {L : Addr} {d1 d2 : PyData} (e : H L = some (.lst (emV d1 d2))) : Dp K H (.ref L) (emD d1 d2) := .lst (SqL.of e) (.cons (.str _) (.cons (.str _) (.cons (.bl _) .nil)))
theorem em_lay {d1 d2 : PyData} (a1 : A0 d1) (a2 : A0 d2) : (PyData.list [emD d1 d2, emD d1 d2]).canLay0 = true ∧ SeqAt.shaped (.list [emD d1 d2, emD d1 d2]) = true := by
  have so : PyData.strOk (PyData.shown (.list [d1, d2])) = true := oks.so (okss_of fun e he => by
    simp only [List.mem_cons, List.not_mem_nil, or_false] at he
    rcases he with rfl | rfl
    · exact a1.so
    · exact a2.so)
  have e1 : (emD d1 d2).canLay0 = true := by
    show (PyData.strOk "empty" && (PyData.strOk (PyData.shown (.list [d1, d2])) && (true && true))) = true
    rw [so]
    decide +kernel
  have e : (PyData.list [emD d1 d2, emD d1 d2]).canLay0 = true := by
    show ((emD d1 d2).canLay0 && ((emD d1 d2).canLay0 && true)) = true
    rw [e1]
    rfl
  refine ⟨e, ?_⟩
  unfold SeqAt.shaped
  rw [e]
  rfl
/-- nothing is there to be taken -/
def Nothing (ks : List (Str × Str)) (v1 v2 : V) : Prop := ∀ a b, v1 = .str a → v2 = .str b → Nm a → Nm b → (a, b) ∉ ks
theorem take_tres {T : List (Addr × Str)} {B : Hp} {r p La Ls Lp dx : Addr} {ns : List Str} {ks js : List (Str × Str)} {f g : Str × Str → List PyData} {adp ada : Str × Str → Addr} {v1 v2 : V} {d1 d2 : PyData} {Q : VK} (t : Tw T K C B H r p La Ls Lp dx ns ks f adp js g ada)
    (n1 : Dn K H v1 d1) (n2 : Dn K H v2 d2) (a1 : A0 d1) (a2 : A0 d2) (kl : ks.length ≤ 500) (fl : ∀ k ∈ ks, (f k).length ≤ 500) (no : Nothing ks v1 v2)
    (k : ∀ H' L, Same H H' → H L = none → H' L = some (.lst (emV d1 d2)) → Q (.ref L) H') :
    TRes K CN CI CE (fun E' H' Q' => H' p = some (.ins C dx [("held", .ref Lp)]) ∧ spTakeX K C CE [.ref p, v1, v2] H' Q' E') H Q := by
  intro L Ech Q' nL hE hQ
  have s0 := same_upd (o := .lst [.str "done"]) nL
  have t0 := t.same s0
  have n1' := n1.same s0
  have n2' := n2.same s0
  refine ⟨t0.hpH, p, Lp, dx, v1, v2, ks, f, adp, rfl, kd_dn n1' a1.sm, fun H' s => kd_dn (n2'.same s) a2.sm, t0.hpH, t0.cp, fl, kl, fun _ H' dx' s1 e1 => ?_, fun a b ea eb na nb m => absurd m (no a b ea eb na nb)⟩
  refine hE _ _ _ (.inr ⟨v1, v2, d1, d2, dx', rfl, rfl, e1, n1'.same s1, n2'.same s1, fits2 a1 a2, fun H'' L' s2 nl e2 => ?_⟩)
  exact k H'' L' ((s0.trans s1).trans s2) (same_no (s0.trans s1) nl) e2
theorem inZ_none {ks : List (Str × Str)} {f : Str × Str → List PyData} {v1 v2 : V} (no : Nothing ks v1 v2) : inZ ks f v1 v2 = [] := by
  by_cases h : ∃ a b, v1 = .str a ∧ v2 = .str b ∧ Nm a ∧ Nm b
  · obtain ⟨a, b, rfl, rfl, na, nb⟩ := h
    rw [inZ_str ks f na nb]
    exact if_neg (no a b rfl rfl na nb)
  · unfold inZ
    rw [dif_neg h]
def spTakeR (T : List (Addr × Str)) (K : PySem.W.Frag) (C : Addr) : Sp := fun vs H Q _ => ∃ (r p La Ls Lp dx : Addr) (B : Hp) (ns : List Str) (ks : List (Str × Str)) (f : Str × Str → List PyData) (adp ada : Str × Str → Addr), vs = [.ref r, .ref p, .ref La, .ref Ls] ∧ Tw T K C B H r p La Ls Lp dx ns ks f adp ks f ada ∧ 2 ≤ ns.length ∧ ns.length ≤ 20 ∧ ns.Nodup ∧ ks.length ≤ 400 ∧ fcount ks f ≤ 400 ∧
  ∀ H' ks' f' adp' ada', Tw T K C B H' r p La Ls Lp dx ns ks' f' adp' ks' f' ada' → ks'.length ≤ ks.length → fcount ks' f' ≤ fcount ks f → Q (.bl true) H'
theorem ok_takeR {f c Pt : Addr} {fd : FuncData} {T : List (Addr × Str)} (F : FunT K "_law_take_right" "_law_take_right" s_law_take_right f fd (.ref c)) (Y : Bn mg) (TO : Cc K C) (RF : ResF K mg CN CI CE CT CR CU) (TB : TabB base mg c Pt) (mT : (Pt, (("_law_take_right" : Str) ++ ".<locals>.") ++ "<lambda>") ∈ T) (uT : ∀ p ∈ T, p.1 = Pt → p.2 = (("_law_take_right" : Str) ++ ".<locals>.") ++ "<lambda>")
    (M_take : Fm P w K mg base (L2.CX P w) 4 C "take" ["self", "source", "goal"] (spTakeX K C CE)) (MB_take : FmK P w K mg base (L2.CX P w) 4 C "take" ["self", "source", "goal"] ["goal", "source"] gBk (spTakeX K C CE)) (MS_take : FmK P w K mg base (L2.CX P w) 4 C "take" ["self", "source", "goal"] ["source", "goal"] gFw (spTakeX K C CE))
    (M_in : Fm P w K mg base CX0 3 C "in_flight" ["self", "source", "goal"] (spFlightX K C)) (MB_in : FmK P w K mg base CX0 3 C "in_flight" ["self", "source", "goal"] ["goal", "source"] gBk (spFlightX K C))
    (G_law_draw : Fk P w K mg base CX0 1 "_law_draw" ["_law_pot_here", "_law_many"] spDraw) (G_law_ends : Fk P w K mg base CX0 2 "_law_ends" ["_law_pot_here", "_law_names_here"] spEnds) (G_law_odd : Fk P w K mg base CX0 2 "_law_odd" ["_law_pot_here"] (spOdd K)) (G_law_is_name : Fk P w K mg base CX0 1 "_law_is_name" ["_law_thing"] (spIsName K))
    (G_law_taken : Fk P w K mg base CX0 1 "_law_taken" ["_law_rows", "_law_src", "_law_dst"] (spTaken K)) : FnG P w K mg base CX0 12 f fd ["_law_pot_here", "_law_channels", "_law_rows", "_law_names_here"] (spTakeR T K C) := by
  obtain ⟨fP, fdP, MM_take, MBn, MF_take⟩ := M_take.ex
  obtain ⟨fB, fdB, gB, MMK_take, KB_take, MFK_take⟩ := MB_take.ex
  obtain ⟨fS, fdS, gS, MMS_take, KS_take, MFS_take⟩ := MS_take.ex
  obtain ⟨fI, fdI, MM_in_flight, MB_in_flight, MF_in_flight⟩ := M_in.ex
  obtain ⟨fIB, fdIB, gIB, MMK_in_flight, KB_in_flight, MFK_in_flight⟩ := MB_in.ex
  obtain ⟨gR', fdR, gm, gk, bR, FR⟩ := RF.ex
  obtain ⟨ocR, odR, kVR, docR, pmR, anR, cdvR, ctR, oslR, rfl, lkR, hcR⟩ := FR.ex
  refine fun_gT F sc_law_take_right (fun {vs H Q E} h => ?_) (fun A outer s H vs Q E gd hr h => ?_)
  · obtain ⟨r, p, La, Ls, Lp, dx, B, ns, ks, g, adp, ada, rfl, _⟩ := h
    rfl
  · obtain ⟨r, p, La, Ls, Lp, dx, B, ns, ks, g, adp, ada, rfl, t, l2, l20, nd, kl, fl, q⟩ := h
    have hu70 := Room.units70 hr
    have hu64 := hr.units
    have hu1 := Nat.lt_of_le_of_lt (Nat.add_le_add_left (show 1 ≤ 64 by decide) _) hr.units
    have hu0 := Nat.lt_of_succ_lt hu1
    refine ⟨_, (pss_cons (ps_set (i := 4) sc_law_take_right.nd rfl (.inl rfl) (pe_callF G_law_ends (hr.mono (by decide)) (by rfl) pass0 (pa_cons (pv 0) (pa_cons (pv 3) pa_nil))))
 (pss_cons (ps_set (i := 5) sc_law_take_right.nd rfl (.inr rfl) (pe_ix ix_list (pe_lst (pa_cons (pe_ix ix_tup (pv 4) pe_int (fun _ _ => rfl)) (pa_cons (pe_ix ix_tup (pv 4) pe_int (fun _ _ => rfl)) (pa_cons (pe_callF G_law_odd (hr.mono (by decide)) (by rfl) pass0 (pa_cons (pv 0) pa_nil)) pa_nil)))) (pe_callF G_law_draw (hr.mono (by decide)) (by rfl) pass0 (pa_cons (pv 0) (pa_cons pe_int pa_nil))) (fun _ _ => rfl)))
 (pss_cons (ps_set (i := 6) sc_law_take_right.nd rfl (.inr rfl) (pe_ix ix_list (pe_lst (pa_cons (pe_ix ix_tup (pv 4) pe_int (fun _ _ => rfl)) (pa_cons (pe_ix ix_tup (pv 4) pe_int (fun _ _ => rfl)) (pa_cons (pe_callF G_law_odd (hr.mono (by decide)) (by rfl) pass0 (pa_cons (pv 0) pa_nil)) (pa_cons (pv 5) pa_nil))))) (pe_callF G_law_draw (hr.mono (by decide)) (by rfl) pass0 (pa_cons (pv 0) (pa_cons pe_int pa_nil))) (fun _ _ => rfl)))
 (pss_cons (ps_if (PW.pt (pw_and (pt_val (pe_callF G_law_is_name (hr.mono (by decide)) (by rfl) pass0 (pa_cons (pv 5) pa_nil))) (pw_and (pt_val (pe_callF G_law_is_name (hr.mono (by decide)) (by rfl) pass0 (pa_cons (pv 6) pa_nil))) (pw_and1 (pt_cmp (pc_din hu1 (pe_tup (pa_cons (pv 5) (pa_cons (pv 6) pa_nil))) (pv 2)))))))
 (pss_one (ps_ret (pe_cmpR op_eq (pe_callB (show CallR _ (.builtin "repr") (rReprN K) from repr_dn gd hu70) (by rfl) Y.repr (by decide +kernel) (pa_cons (pe_methK (pv 1) TO.cl MMK_take MFK_take (hr.mono (by decide)) KB_take passN (pk_cons (pv 6) (pk_cons (pv 5) pk_nil))) pa_nil)) (pe_callB (show CallR _ (.builtin "repr") (rReprN K) from repr_dn gd hu70) (by rfl) Y.repr (by decide +kernel) (pa_cons (pe_callF G_law_taken (hr.mono (by decide)) (by rfl) pass0 (pa_cons (pv 2) (pa_cons (pv 5) (pa_cons (pv 6) pa_nil)))) pa_nil)) (nomark _))))
 pss_nil)
 (pss_cons (ps_set (i := 7) sc_law_take_right.nd rfl (.inl rfl) (pe_lst (pa_cons pe_str (pa_cons (pe_callB (show CallR _ (.builtin "repr") (rReprN K) from repr_dn gd hu70) (by rfl) Y.repr (by decide +kernel) (pa_cons (pe_lst (pa_cons (pv 5) (pa_cons (pv 6) pa_nil))) pa_nil)) (pa_cons pe_bl pa_nil)))))
 (pss_cons (ps_set (i := 8) sc_law_take_right.nd rfl (.inl rfl) (pe_lst (pa_cons (pe_lamcallS (k := 4) (T := T) (TT := TRes K CN CI CE) (x := "_law_result") (a := "_law_call") (g := gR') (by rfl) gm gk lkR hcR bR sc_law_result (by rfl) (.inl rfl) (res_gives Y RF.cg gd (hr.mono (by decide)) RF.xx RF.gN RF.gI RF.gE RF.gT RF.gR RF.gU RF.zL RF.zK RF.zX) TB cx_code mT uT (hr.mono (by decide)) (lamS_by (sc := defScope s_law_take_right) (by decide +kernel)) (by rfl) (fun _ _ _ _ _ => by rfl) (fun A' outer' s' H' E' f' c2 r2 => pe_meth (E := E') (pv 1) TO.cl MM_take MF_take r2 MBn .nil (passes_call (E := E') (takes_of rfl rfl rfl rfl) (fun _ _ _ _ h => h)) (pa_cons (pv 5) (pa_cons (pv 6) pa_nil)))) pa_nil)))
 (pss_cons (ps_expr (pe_bm PySem.F.plainAttrs_list PySem.F.slot_list_append PySem.F.type_list_append mt_append (pv 8) (pa_cons (pe_lamcallS (k := 4) (T := T) (TT := TRes K CN CI CE) (x := "_law_result") (a := "_law_call") (g := gR') (by rfl) gm gk lkR hcR bR sc_law_result (by rfl) (.inl rfl) (res_gives Y RF.cg gd (hr.mono (by decide)) RF.xx RF.gN RF.gI RF.gE RF.gT RF.gR RF.gU RF.zL RF.zK RF.zX) TB cx_code mT uT (hr.mono (by decide)) (lamS_by (sc := defScope s_law_take_right) (by decide +kernel)) (by rfl) (fun _ _ _ _ _ => by rfl) (fun A' outer' s' H' E' f' c2 r2 => pe_methK (E := E') (pv 1) TO.cl MMS_take MFS_take r2 KS_take (passes_call (E := E') (takes_of rfl rfl rfl rfl) (fun _ _ _ _ h => h)) (pk_cons (pv 5) (pk_cons (pv 6) pk_nil)))) pa_nil)))
 (pss_cons (ps_if (PW.pt (pw_or (pt_cmpR (op_neEmL hu0) (pe_meth (pv 1) TO.cl MM_in_flight MF_in_flight (hr.mono (by decide)) MB_in_flight .nil pass0 (pa_cons (pv 5) (pa_cons (pv 6) pa_nil))) (pe_lst pa_nil) (nomark _)) (pw_or1 (pt_cmpR (op_neEmL hu0) (pe_methK (pv 1) TO.cl MMK_in_flight MFK_in_flight (hr.mono (by decide)) KB_in_flight pass0 (pk_cons (pv 6) (pk_cons (pv 5) pk_nil))) (pe_lst pa_nil) (nomark _)))))
 (pss_one (ps_ret pe_bl))
 pss_nil)
 (pss_one (ps_ret (pe_cmpR (op_eqD hu64) (pv 8) (pe_op op_rep (pe_lst (pa_cons (pv 7) pa_nil)) pe_int) (nomark _)))))))))))), ?_⟩
    refine ⟨_, rfl, _, rfl, r, Ls, ns, rfl, t.R, t.nLs, t.hLsH, l2, l20, nd, fun H1 tp x z b1 R1 tz mx mz nxz => ?_⟩
    have t1 := t.but b1 R1
    refine ⟨_, rfl, tp, _, 0, .str x, rfl, rfl, tz.sq, rfl, _, rfl, tp, _, 0, .str x, rfl, rfl, tz.sq, rfl, _, rfl, r, rfl, R1, fun H2 vo dO b2 R2 on oa _ => ?_⟩
    refine ⟨(by show 3 ≤ sizeLine; decide), fun l3 n3 => ?_⟩
    generalize hg : upd H2 l3 _ = H3
    obtain ⟨s3, g3⟩ := upd_new hg n3
    clear hg
    have ne3 := R2.ne n3
    have R3 := R2.same s3
    refine ⟨_, rfl, r, 3, rfl, R3, by decide, by decide, fun H4 e b4 R4 e0 e1 => ?_⟩
    obtain ⟨v1, hv, mv⟩ := at_in (xs := [V.str x, .str x, vo]) e0 e1
    refine ⟨l3, _, e, v1, rfl, rfl, SqL.of (b4 _ _ ne3 g3), hv, ?_⟩
    obtain ⟨d1, q1, a1⟩ : ∃ d, Db K r H4 v1 d ∧ A0 d := pick_a0 (ds := [.str x, .str x, dO]) (.cons (.str _) (.cons (.str _) (.cons ((on.same s3).but b4) .nil))) (fun d hd => by
      simp only [List.mem_cons, List.not_mem_nil, or_false] at hd
      rcases hd with rfl | rfl | rfl
      · exact a0_nm (t.nm x mx)
      · exact a0_nm (t.nm x mx)
      · exact oa) mv
    have t4 := ((t1.but b2 R2).same s3).but b4 R4
    have tz4 := ((tz.but R1 b2).same s3).but R3 b4
    clear t1 tz b1 b2 b4 s3 g3 n3 ne3 R1 R2 R3 on oa e0 e1 hv mv H1 H2 H3
    refine ⟨_, rfl, tp, _, 1, .str z, rfl, rfl, tz4.sq, rfl, _, rfl, tp, _, 1, .str z, rfl, rfl, tz4.sq, rfl, _, rfl, r, rfl, R4, fun H2 vo dO b2 R2 on oa _ => ?_⟩
    refine ⟨_, rfl, (by show 4 ≤ sizeLine; decide), fun l3 n3 => ?_⟩
    generalize hg : upd H2 l3 _ = H3
    obtain ⟨s3, g3⟩ := upd_new hg n3
    clear hg
    have ne3 := R2.ne n3
    have R3 := R2.same s3
    refine ⟨_, rfl, r, 4, rfl, R3, by decide, by decide, fun HA e b5 R5 e0 e1 => ?_⟩
    obtain ⟨v2, hv, mv⟩ := at_in (xs := [V.str z, .str z, vo, v1]) e0 e1
    refine ⟨l3, _, e, v2, rfl, rfl, SqL.of (b5 _ _ ne3 g3), hv, ?_⟩
    have q1' := ((q1.but b2).same s3).but b5
    obtain ⟨d2, q2, a2⟩ : ∃ d, Db K r HA v2 d ∧ A0 d := pick_a0 (ds := [.str z, .str z, dO, d1]) (.cons (.str _) (.cons (.str _) (.cons ((on.same s3).but b5) (.cons q1' .nil)))) (fun d hd => by
      simp only [List.mem_cons, List.not_mem_nil, or_false] at hd
      rcases hd with rfl | rfl | rfl | rfl
      · exact a0_nm (t.nm z mz)
      · exact a0_nm (t.nm z mz)
      · exact oa
      · exact a1) mv
    have tA := ((t4.but b2 R2).same s3).but b5 R5
    have n1 := q1'.dn
    have n2 := q2.dn
    clear q1 q1' q2 t4 tz4 b2 b5 s3 g3 n3 ne3 R2 R3 R4 R5 on oa e0 e1 hv mv H2 H3 mx mz nxz
    dsimp only
    by_cases NO : Nothing ks v1 v2
    · refine seq_byR (fun H' => Same HA H') (fun HB sB => ?_) (fun R eR hR => ?_)
      · have tB := tA.same sB
        replace n1 := n1.same sB
        replace n2 := n2.same sB
        have ft := fits2 a1 a2
        refine ⟨_, rfl, _, rfl, (by show 2 ≤ sizeLine; decide), fun l5 n5 => ?_⟩
        generalize hg : upd HB l5 _ = H5
        obtain ⟨s5, g5⟩ := upd_new hg n5
        clear hg
        refine ⟨_, .list [d1, d2], rfl, .lst g5 (.cons (n1.same s5) (.cons (n2.same s5) .nil)), ft.1, ft.2.1, ft.2.2, ?_⟩
        refine ⟨(by show 3 ≤ sizeLine; decide), fun Ld nD => ?_⟩
        generalize hg : upd H5 Ld _ = H6
        obtain ⟨s6, g6⟩ := upd_new hg nD
        clear hg
        have t6 := tB.same (s5.trans s6)
        replace n1 := n1.same (s5.trans s6)
        replace n2 := n2.same (s5.trans s6)
        refine ⟨t6.tabs, fun H7 e7 T7 => ?_⟩
        have t7 := t6.ext e7 T7
        replace n1 := dn_ext e7 n1
        replace n2 := dn_ext e7 n2
        refine TRes.imp (take_tres t7 n1 n2 a1 a2 (by omega) (flk (by omega)) NO (fun H8 L1 s8 nl1 g8 => ?_)) (fun E' H' Q' z => ⟨_, rfl, p, dx, _, rfl, z.1, fld_no (by decide +kernel), _, rfl, _, rfl, z.2⟩)
        refine ⟨(by show 1 ≤ sizeLine; decide), fun Lr nr => ?_⟩
        generalize hg : upd H8 Lr _ = H9
        obtain ⟨s9, g9⟩ := upd_new hg nr
        clear hg
        have t8 := t7.same s8
        have t9 := t8.push nr s9 g9 (fun _ z => nomatch z)
        have nB0 : B Lr = none := same_no t8.sB nr
        have nLs : Lr ≠ Ls := (ne_of_none t8.hLsH nr).symm
        have m1 := n1.same s8
        have m2 := n2.same s8
        replace n1 := m1.same s9
        replace n2 := m2.same s9
        have gD8 := s8 _ _ (lst_ext g6 e7)
        have nD' : Ld ≠ Lr := ne_of_none gD8 nr
        have nL1' : L1 ≠ Lr := ne_of_none g8 nr
        refine ⟨_, rfl, .inl ⟨rfl, _, SqL.of g9⟩, t9.tabs, fun HA2 eA TA => ?_⟩
        replace n1 := dn_ext eA n1
        replace n2 := dn_ext eA n2
        refine TRes.imp (take_tres (t9.ext eA TA) n1 n2 a1 a2 (by omega) (flk (by omega)) NO (fun HB2 L2 sB2 nl2 gB2 => ?_)) (fun E' H' Q' z => ⟨_, rfl, p, dx, _, rfl, z.1, fld_no (by decide +kernel), _, rfl, _, rfl, rfl, z.2⟩)
        have gR := sB2 _ _ (lst_ext g9 eA)
        have nL2' : L2 ≠ Lr := (ne_of_none (lst_ext g9 eA) nl2).symm
        have tF := ((t9.ext eA TA).same sB2).set (vs := [.ref L1, .ref L2]) upd_same nLs
        have tG := tF.pop (fun b o e => by rw [upd_ne (ne_of_none e nB0), upd_ne (ne_of_none e nB0)]; exact e) t.hLs t.hp
        have fD := (upd_ne (o := .lst [.ref L1, .ref L2]) nD').trans (sB2 _ _ (lst_ext (s9 _ _ gD8) eA))
        have fL := (upd_ne (o := .lst [.ref L1, .ref L2]) nL1').trans (sB2 _ _ (lst_ext (s9 _ _ g8) eA))
        have fM := (upd_ne (o := .lst [.ref L1, .ref L2]) nL2').trans gB2
        have fR := (upd_same : (upd HB2 Lr (.lst [.ref L1, .ref L2])) Lr = _)
        have eI : ExtN H8 (upd HB2 Lr (.lst [.ref L1, .ref L2])) := fun b o e n => by
          rw [upd_ne (ne_of_none e nr)]
          exact sB2 _ _ (eA _ _ (s9 _ _ e) n)
        have kk : (∀ H', Same (upd HB2 Lr (.lst [.ref L1, .ref L2])) H' → Kd K H' v1) ∧ ∀ H', Same (upd HB2 Lr (.lst [.ref L1, .ref L2])) H' → Kd K H' v2 :=
          ⟨fun H' s => kd_dn ((dn_ext eI m1).same s) a1.sm, fun H' s => kd_dn ((dn_ext eI m2).same s) a2.sm⟩
        refine ⟨Lr, [.ref L1], .ref L2, rfl, rfl, gR, (by show 1 < sizeLine; decide), ?_⟩
        dsimp only [List.cons_append, List.nil_append]
        generalize upd HB2 Lr (.lst [.ref L1, .ref L2]) = HF at tG fD fL fM fR kk
        clear tF t9 t8 t7 t6 gR gB2 sB2 eA TA g9 s9 g8 s8 e7 T7 g6 s6 g5 s5 nr nl1 nl2
        refine ⟨_, rfl, p, dx, _, rfl, tG.hpH, fld_no (by decide +kernel), _, rfl, _, rfl, p, v1, v2, ks, g, rfl, kk.1 _ (Same.refl _), kk.2, ⟨Lp, dx, _, tG.hpH, tG.cp⟩, fun HG Li us sG nLi gLi du => ?_⟩
        rw [inZ_none NO] at du
        cases du
        refine ⟨Nat.zero_le _, fun l0 n0 => ?_⟩
        generalize hg : upd HG l0 _ = HH
        obtain ⟨sH, gH⟩ := upd_new hg n0
        clear hg
        refine ⟨Li, l0, [], rfl, rfl, SqL.of (sH _ _ gLi), SqL.of gH, _, rfl, iteF ?_⟩
        have s02 := sG.trans sH
        have tH := tG.same s02
        refine ⟨_, rfl, p, dx, _, rfl, tH.hpH, fld_no (by decide +kernel), _, rfl, _, rfl, rfl, p, v1, v2, ks, g, rfl, kk.1 _ s02, (fun H' s => kk.2 _ (s02.trans s)), ⟨Lp, dx, _, tH.hpH, tH.cp⟩, fun HI Lj us sI nLj gLj du => ?_⟩
        rw [inZ_none NO] at du
        cases du
        refine ⟨Nat.zero_le _, fun l0 n0 => ?_⟩
        generalize hg : upd HI l0 _ = HJ
        obtain ⟨sJ, gJ⟩ := upd_new hg n0
        clear hg
        refine ⟨Lj, l0, [], rfl, rfl, SqL.of (sJ _ _ gLj), SqL.of gJ, _, rfl, iteF ?_⟩
        have s04 := s02.trans (sI.trans sJ)
        refine ⟨_, rfl, _, rfl, (by show 1 ≤ sizeLine; decide), fun lb nb => ?_⟩
        generalize hg : upd HJ lb _ = HK
        obtain ⟨sK, gK⟩ := upd_new hg nb
        clear hg
        refine ⟨lb, 2, _, rfl, rfl, gK, by decide, by decide, (by show 1 * 2 ≤ sizeLine; decide), fun lc nc => ?_⟩
        generalize hg : upd HK lc _ = HL
        obtain ⟨sL, gL⟩ := upd_new hg nc
        clear hg
        have gL : HL lc = some (.lst [.ref Ld, .ref Ld]) := gL
        have s06 := s04.trans (sK.trans sL)
        have ly := em_lay a1 a2
        have eD := em_dp (K := K) (s06 _ _ fD)
        have eL := em_dp (K := K) (s06 _ _ fL)
        have eM := em_dp (K := K) (s06 _ _ fM)
        refine ⟨.list [emD d1 d2, emD d1 d2], .list [emD d1 d2, emD d1 d2], .lst (SqL.of (s06 _ _ fR)) (.cons eL (.cons eM .nil)), .lst (SqL.of gL) (.cons eD (.cons eD .nil)), ly.2, ly.2, ?_⟩
        rw [SeqAt.eqv_refl _ ly.1]
        exact q _ ks g adp ada (tG.same s06) (Nat.le_refl _) (Nat.le_refl _)
      · refine ⟨_, rfl, v1, d1, rfl, n1, a1.sm, fun HB sB => ⟨_, rfl, ?_⟩⟩
        cases i1 : isHost d1 with
        | false => exact iteF (hR _ sB)
        | true =>
        obtain ⟨a, rfl, rfl⟩ := dn_host n1 i1
        refine iteT ⟨_, rfl, v2, d2, rfl, n2.same sB, a2.sm, fun HC sC => ⟨_, rfl, ?_⟩⟩
        cases i2 : isHost d2 with
        | false => exact iteF (hR _ (sB.trans sC))
        | true =>
        obtain ⟨b, rfl, rfl⟩ := dn_host n2 i2
        refine iteT ⟨_, rfl, _, rfl, (by show 2 ≤ sizeLine; decide), fun t0 nt => ?_⟩
        have s2 := same_upd (o := .tup [.str a, .str b]) nt
        have gt : (upd HC t0 (.tup [.str a, .str b])) t0 = some (.tup ((kq (a, b)).map kV)) := upd_same
        generalize upd HC t0 (.tup [.str a, .str b]) = HD at s2 gt ⊢
        have s02 := (sB.trans sC).trans s2
        have tD := tA.same s02
        have gd := DGet.t tD.ca.at_ gt
        rw [ckv_val, if_neg (NO a b rfl rfl (host_nm i1) (host_nm i2))] at gd
        exact ⟨_, rfl, La, _, rfl, gd, _, rfl, iteF (hR _ s02)⟩
    · obtain ⟨a, b, rfl, rfl, na, nb, m⟩ : ∃ a b, v1 = .str a ∧ v2 = .str b ∧ Nm a ∧ Nm b ∧ (a, b) ∈ ks := by
        refine Classical.byContradiction fun z => NO fun a b ea eb na nb m => z ⟨a, b, ea, eb, na, nb, m⟩
      cases n1
      cases n2
      have i1 : isHost (.str a) = true := nm_txt na
      have i2 : isHost (.str b) = true := nm_txt nb
      refine ⟨_, rfl, .str a, .str a, rfl, .str a, a1.sm, fun HB sB => ⟨_, rfl, ?_⟩⟩
      rw [i1]
      refine iteT ⟨_, rfl, .str b, .str b, rfl, .str b, a2.sm, fun HC sC => ⟨_, rfl, ?_⟩⟩
      rw [i2]
      refine iteT ⟨_, rfl, _, rfl, (by show 2 ≤ sizeLine; decide), fun t0 nt => ?_⟩
      have s2 := same_upd (o := .tup [.str a, .str b]) nt
      have gt : (upd HC t0 (.tup [.str a, .str b])) t0 = some (.tup ((kq (a, b)).map kV)) := upd_same
      generalize upd HC t0 (.tup [.str a, .str b]) = HD at s2 gt ⊢
      have s02 := (sB.trans sC).trans s2
      have tD := tA.same s02
      have gd := DGet.t tD.ca.at_ gt
      rw [ckv_val, if_pos m] at gd
      refine ⟨_, rfl, La, _, rfl, gd, _, rfl, iteT ?_⟩
      have cv : ∀ {ad1 ad2 : Str × Str → Addr} {H1 : Hp}, (∀ k ∈ takeKs ks g (a, b), k ∈ ks ∧ (ad1 k = ad2 k ∨ H1 (ad1 k) = none)) → ∀ k ∈ takeKs ks g (a, b), (k ∈ ks ∧ ad1 k = ad2 k) ∨ H1 (ad1 k) = none := fun h k hk => (h k hk).2.elim (fun e => .inl ⟨(h k hk).1, e⟩) .inr
      refine ⟨_, rfl, p, dx, _, rfl, tD.hpH, fld_no (by decide +kernel), _, rfl, _, rfl, rfl, p, Lp, dx, .str a, .str b, ks, g, adp, rfl, kd_dn (.str a) a1.sm, fun H' s => kd_dn (.str b) a2.sm, tD.hpH, tD.cp, flk (by omega), by omega, (fun no => absurd m (no a b rfl rfl na nb)), fun a' b' ea eb na' nb' m' HE ad' v d r hd fk fr n dv c => ?_⟩
      cases ea
      cases eb
      have tE := tD.stepP fk (fun x o e n1 _ => fr x o e n1) (cv n) c (fun k hk => t.kn k (mem_take hk)) (it_take t.it)
      have bd := t.it (a, b) m d (by rw [hd]; exact List.mem_cons_self)
      have ft := bd.fits (by decide) (by decide)
      refine ⟨_, d, rfl, dv.same (fz_same _), ft.1, ft.2.1, ft.2.2, ?_⟩
      refine ⟨_, rfl, _, rfl, _, rfl, La, a, b, ks, g, ada, rfl, tE.ca, m, by omega, fun HF ad2 v2 d2 r2 hd2 fk2 fr2 n2 dv2 c2 => ?_⟩
      rw [hd] at hd2
      injection hd2 with e1 e2
      subst e1
      have tF := tE.stepL fk2 fr2 (cv n2) c2
      refine ⟨_, d, rfl, dv2.same (fz_same _), ft.1, ft.2.1, ft.2.2, rfl, ?_⟩
      rw [decide_eq_true rfl]
      exact q _ _ _ _ _ tF (takeKs_len _ _ _) fc_takeL
end
end My

namespace My
open PySem PySem.Spec PyProof.Rows L2 Gy Xl Xs Xt Xo Xp Xd Xq LamX
/-- what stands but for tables and three addresses -/
def base3 (H : Hp) (r Lp La : Addr) : Hp := fun b => if b = r ∨ b = Lp ∨ b = La then none else match H b with
  | some (.tbl _) => none
  | o => o
theorem base3_nt {H : Hp} {r Lp La : Addr} : ∀ b ps, base3 H r Lp La b ≠ some (.tbl ps) := fun b ps e => by
  unfold base3 at e
  split at e
  · cases e
  · split at e
    · cases e
    · next n => exact n ps e
theorem base3_same {H : Hp} {r Lp La : Addr} : Same (base3 H r Lp La) H := fun b o e => by
  unfold base3 at e
  split at e
  · cases e
  · split at e
    · cases e
    · exact e
theorem base3_no {H : Hp} {r Lp La b : Addr} (h : b = r ∨ b = Lp ∨ b = La) : base3 H r Lp La b = none := if_pos h
theorem base3_at {H : Hp} {r Lp La b : Addr} {o : HO} (e : H b = some o) (n : ∀ ps, o ≠ .tbl ps) (n1 : b ≠ r) (n2 : b ≠ Lp) (n3 : b ≠ La) : base3 H r Lp La b = some o := by
  unfold base3
  rw [if_neg (by rintro (z | z | z) <;> contradiction), e]
  split
  · next ps z =>
    injection z with z
    exact absurd z (n ps)
  · rfl
theorem sq_ext {K : PySem.W.Frag} {H H' : Hp} {a : Addr} {xs : List V} (h : SqL K H a xs) (s : ExtN H H') : SqL K H' a xs := by
  rcases h with (h | ⟨o, h⟩) | h
  · exact .inl (.inl (s _ _ h fun _ z => nomatch z))
  · exact .inl (.inr ⟨o, s _ _ h fun _ z => nomatch z⟩)
  · exact .inr h
section
variable {P : Program} {w : World} {K : PySem.W.Frag} {mg : Str → Option Value} {base : Heap} {H : Hp} {C CI CN : Addr}
def spLaw (T : List (Addr × Str)) (K : PySem.W.Frag) : Sp := fun vs H Q _ => ∃ (a : Addr) (ns : List Int), vs = [.ref a] ∧ SqL K H a (ns.map V.int) ∧ ns.length ≤ 63 ∧ Tabs T H ∧ ∀ H', Q (.bl true) H'
theorem ok_law {T : List (Addr × Str)} {f : Addr} {fd : FuncData} (F : Fun K "law" "law" s_law f fd) (Y : Bn mg) (T_ : Cc K C) (gT : mg "Channels" = some (.ref C)) (G_law_pot : Fk P w K mg base CX0 1 "_law_pot" ["_law_script", "_law_k"] (spPot K)) (G_law_draw : Fk P w K mg base CX0 1 "_law_draw" ["_law_pot_here", "_law_many"] spDraw)
    (G_law_names : Fk P w K mg base CX0 3 "_law_names" ["_law_pot_here", "_law_many"] spNms) (G_law_ends : Fk P w K mg base CX0 2 "_law_ends" ["_law_pot_here", "_law_names_here"] spEnds) (G_law_entry : Fk P w K mg base CX0 4 "_law_entry" ["_law_pot_here"] (spEntD K)) (G_law_put_in : Fk P w K mg base CX0 2 "_law_put_in" ["_law_rows", "_law_src", "_law_dst", "_law_entry_here"] (spPutIn K))
    (M_put : Fm P w K mg base (L2.CX P w) 7 C "put" ["self", "source", "goal", "item"] (spPut K C)) (G_law_stands : Fg P w K mg base CX0 8 "_law_stands" ["_law_channels", "_law_rows", "_law_names_here"] (spStands K C)) (G_law_put_right : Fg P w K mg base CX0 12 "_law_put_right" ["_law_pot_here", "_law_channels", "_law_rows", "_law_names_here"] (spPutR T K C))
    (G_law_take_right : Fg P w K mg base CX0 12 "_law_take_right" ["_law_pot_here", "_law_channels", "_law_rows", "_law_names_here"] (spTakeR T K C))
    (MI : ∃ (fI : Addr) (fdI : FuncData), Mk K C fI ∧ Binds K fdI ["self"] [] ∧ FnOk P w K mg base CX0 1 fI fdI ["self"] (spCInit C)) : FnG P w K mg base CX0 13 f fd ["_law_script"] (spLaw T K) := by
  obtain ⟨_, _, MM_put, MB_put, MF_put⟩ := M_put.ex
  obtain ⟨fI, fdI, MMk, BI, FI⟩ := MI
  refine fun_g0 F sc_law (fun {vs H Q E} h => ?_) (fun cdv A outer s H vs Q E gd hr h => ?_)
  · obtain ⟨a, ns, rfl, _⟩ := h
    rfl
  · obtain ⟨a, ns, rfl, hS, hn, hT, q⟩ := h
    have hu70 := Room.units70 hr
    refine ⟨_, (pss_cons (ps_for PassesOwn.never rfl (pi_range1 (by rfl) Y.range (pa_cons (pe_callB (call_max2 rfl) (by rfl) Y.max (by decide +kernel) (pa_cons pe_int (pa_cons (pe_callB (call_min2 rfl) (by rfl) Y.min (by decide +kernel) (pa_cons pe_int (pa_cons (pe_callB call_len_seq (by rfl) Y.len PySem.boot_len (pa_cons (pv 0) pa_nil)) pa_nil))) pa_nil))) pa_nil)) (pg_name (i := 1) sc_law.nd rfl (Or.inl rfl))
 (pss_cons (ps_set (i := 2) sc_law.nd rfl (.inl rfl) (pe_callF G_law_pot (hr.mono (by decide)) (by rfl) pass0 (pa_cons (pv 0) (pa_cons (pv 1) pa_nil))))
 (pss_cons (ps_set (i := 3) sc_law.nd rfl (.inl rfl) (pe_callF G_law_names (hr.mono (by decide)) (by rfl) pass0 (pa_cons (pv 2) (pa_cons (pe_op op_add pe_int (pe_callF G_law_draw (hr.mono (by decide)) (by rfl) pass0 (pa_cons (pv 2) (pa_cons pe_int pa_nil)))) pa_nil))))
 (pss_cons (ps_par (i := 4) (j := 5) (by rfl) sc_law.nd rfl rfl (by decide) rfl rfl (pa_cons (pe_make0 (E := fun _ _ _ => False) MMk FI (hr.mono (by decide)) (by rfl) gT BI .nil pass0) (pa_cons pe_dnewT pa_nil)) (by rfl))
 (pss_cons (ps_for PassesOwn.never rfl (pi_range1 (by rfl) Y.range (pa_cons (pe_callF G_law_draw (hr.mono (by decide)) (by rfl) pass0 (pa_cons (pv 2) (pa_cons pe_int pa_nil))) pa_nil)) (pg_name (i := 6) sc_law.nd rfl (Or.inl rfl))
 (pss_cons (ps_par (i := 7) (j := 8) (by rfl) sc_law.nd rfl rfl (by decide) rfl rfl (pa_cons (pe_callF G_law_ends (hr.mono (by decide)) (by rfl) pass0 (pa_cons (pv 2) (pa_cons (pv 3) pa_nil))) (pa_cons (pe_callF G_law_entry (hr.mono (by decide)) (by rfl) pass0 (pa_cons (pv 2) pa_nil)) pa_nil)) (by rfl))
 (pss_cons (ps_expr (pe_meth (E := fun _ _ _ => False) (pv 4) T_.cl MM_put MF_put (hr.mono (by decide)) MB_put .nil passN (pa_cons (pe_ix ix_tup (pv 7) pe_int (fun _ _ => rfl)) (pa_cons (pe_ix ix_tup (pv 7) pe_int (fun _ _ => rfl)) (pa_cons (pv 8) pa_nil)))))
 (pss_one (ps_expr (pe_callF G_law_put_in (hr.mono (by decide)) (by rfl) pass0 (pa_cons (pv 5) (pa_cons (pe_ix ix_tup (pv 7) pe_int (fun _ _ => rfl)) (pa_cons (pe_ix ix_tup (pv 7) pe_int (fun _ _ => rfl)) (pa_cons (pv 8) pa_nil))))))))))
 (pss_one (ps_for PassesOwn.never rfl (pi_range1 (by rfl) Y.range (pa_cons pe_int pa_nil)) (pg_name (i := 6) sc_law.nd rfl (Or.inl rfl))
 (pss_cons (ps_if (pt_not (pt_val (pe_callFg (E := E0) G_law_put_right gd hr (by rfl) pass0 (pa_cons (pv 2) (pa_cons (pv 4) (pa_cons (pv 5) (pa_cons (pv 3) pa_nil)))))))
 (pss_one (ps_ret pe_bl))
 pss_nil)
 (pss_cons (ps_if (pt_not (pt_val (pe_callFg (E := E0) G_law_take_right gd hr (by rfl) pass0 (pa_cons (pv 2) (pa_cons (pv 4) (pa_cons (pv 5) (pa_cons (pv 3) pa_nil)))))))
 (pss_one (ps_ret pe_bl))
 pss_nil)
 (pss_one (ps_if (pt_not (pt_val (pe_callFg (E := E0) G_law_stands gd (hr.mono (by decide)) (by rfl) pass0 (pa_cons (pv 4) (pa_cons (pv 5) (pa_cons (pv 3) pa_nil))))))
 (pss_one (ps_ret pe_bl))
 pss_nil)))))))))))
 (pss_one (ps_ret pe_bl))), ?_⟩
    refine ⟨_, rfl, a, _, rfl, .inl hS, 4, _, rfl, 1, _, rfl, _, rfl, ?_, ?_, ?_⟩
    · rw [List.length_map]
      split <;> split <;> omega
    · rw [List.length_map]
      split <;> split <;> omega
    generalize hm : (Int.toNat _) = mm
    have m5 : mm ≤ 4 := by
      rw [List.length_map] at hm
      rw [← hm]
      split <;> split <;> omega
    refine for_it (walk_range (lo := 0) (n := mm)) (fun i σ H' => (∃ a1 a2 a3 a4 a5 a6 a7 a8, σ = [some (.ref a), a1, a2, a3, a4, a5, a6, a7, a8]) ∧ ExtN H H' ∧ Tabs T H') ⟨⟨_, _, _, _, _, _, _, _, rfl⟩, ExtN.refl _, hT⟩ (fun _ _ _ _ _ => trivial) ?_ ?_
    · rintro k y σ H2 HB hk ⟨⟨a1, a2, a3, a4, a5, a6, a7, a8, rfl⟩, s1, hTB⟩ ⟨rfl, rfl⟩
      refine ⟨_, rfl, _, rfl, a, ns, k, (by show [V.ref a, V.int (0 + (k : Int))] = _; rw [Int.zero_add]), sq_ext hS s1, by omega, fun H3 r s3 nr R3 => ?_⟩
      refine ⟨_, rfl, _, rfl, r, 3, rfl, R3, by decide, by decide, fun H3b e1 b3 R3b f1 g1 => ?_⟩
      obtain ⟨i0, rfl⟩ := Int.eq_ofNat_of_zero_le f1
      refine ⟨_, _, rfl, rfl, r, 2 + i0, rfl, R3b, by omega, fun H4 Ls ns2 b4 R4 nLs3 hLs el nm nd => ?_⟩
      have s4 : Same HB H4 := fun b o e => b4 b o (fun z => by rw [z, nr] at e; cases e) (b3 b o (fun z => by rw [z, nr] at e; cases e) (s3 b o e))
      have nLsr := R3b.ne nLs3
      have hT4 := hTB.ext s4
      intro p dx np ndx nex
      refine ⟨p, dx, rfl, upd_same, fun Lp nLp => ⟨rfl, fun La nLa => ⟨_, _, rfl, ?_⟩⟩⟩
      have s5 : Same H4 (upd (upd H4 dx (.own p)) p (.ins C dx [])) := same_upd2 (same_upd ndx) np
      have n0 : ∀ {H' : Hp} {x : Addr}, Same H4 H' → H' x = none → H4 x = none := fun {H' x} s e => same_no s e
      have nLp4 := n0 s5 nLp
      have pLp : p ≠ Lp := ne_of_none (show (upd (upd H4 dx (.own p)) p (.ins C dx [])) p = some (.ins C dx []) from upd_same) nLp
      have s6 : Same H4 (upd (upd (upd (upd H4 dx (.own p)) p (.ins C dx [])) Lp (.dT [])) p (.ins C dx [("held", .ref Lp)])) := same_upd2 (same_upd2 s5 nLp4) np
      have hp6 : (upd (upd (upd (upd H4 dx (.own p)) p (.ins C dx [])) Lp (.dT [])) p (.ins C dx [("held", .ref Lp)])) p = some (.ins C dx [("held", .ref Lp)]) := upd_same
      have hLp6 : (upd (upd (upd (upd H4 dx (.own p)) p (.ins C dx [])) Lp (.dT [])) p (.ins C dx [("held", .ref Lp)])) Lp = some (.dT (ckv [] fun _ => Lp)) := (upd_ne pLp.symm).trans upd_same
      generalize upd (upd (upd (upd H4 dx (.own p)) p (.ins C dx [])) Lp (.dT [])) p (.ins C dx [("held", .ref Lp)]) = H6 at nLa s6 hp6 hLp6 ⊢
      have nLa4 := n0 s6 nLa
      have LpLa : Lp ≠ La := ne_of_none hLp6 nLa
      generalize hg : upd H6 La _ = H7
      obtain ⟨s7, hLa7⟩ := upd_new hg nLa
      clear hg
      have s47 := s6.trans s7
      have R7 := R4.same s47
      have sB7 := s4.trans s47
      have nBLa := same_no s4 nLa4
      have nBLp := same_no s4 nLp4
      obtain ⟨B, hB⟩ : ∃ B, B = base3 H7 r Lp La := ⟨_, rfl⟩
      have hLs7 := s47 _ _ hLs
      have hp7 := s7 _ _ hp6
      have rp : p ≠ r := rng_ne R7 hp7 (fun _ z => nomatch z)
      have t7 : Tw T K C B H7 r p La Ls Lp dx ns2 [] (fun _ => []) (fun _ => Lp) [] (fun _ => []) (fun _ => La) := by
        subst hB
        refine ⟨base3_nt, base3_same, base3_no (.inl rfl), base3_no (.inr (.inl rfl)), base3_no (.inr (.inr rfl)), (fun _ z => nomatch z), (fun _ z => nomatch z), R7, hT4.ext s47, base3_at hLs7 (fun _ z => nomatch z) nLsr (ne_of_none hLs nLp4) (ne_of_none hLs nLa4), base3_at hp7 (fun _ z => nomatch z) rp pLp (ne_of_none hp6 nLa),
          ⟨s7 _ _ hLp6, List.nodup_nil, (fun _ z => nomatch z), (fun _ z => nomatch z)⟩, ⟨hLa7, List.nodup_nil, (fun _ z => nomatch z), (fun _ z => nomatch z)⟩, LpLa, (fun _ z => nomatch z), (fun _ z => nomatch z), (fun _ z => nomatch z), nm, (fun _ z => nomatch z), (fun _ z => nomatch z)⟩
      have back : ∀ {H'}, Same B H' → ExtN H H' := fun {H'} s b o e n => by
        have eB := s1 b o e n
        refine s b o ?_
        rw [hB]
        exact base3_at (sB7 _ _ eB) n (ne_of_none eB nr) (ne_of_none eB nBLp) (ne_of_none eB nBLa)
      have hLsB := t7.hLs
      have hpB := t7.hp
      have l2 : 2 ≤ ns2.length := by omega
      have l4 : ns2.length ≤ 4 := by omega
      clear hB sB7 s47 s7 hLa7 nLa4 LpLa hLp6 hp6 s6 pLp nLp4 n0 s5 nLa nLp nex ndx np hT4 nLsr s4 b3 b4 s3 R3 R3b R4 hLs nLs3 hLs7 hp7 rp nBLa nBLp g1 el
      refine ⟨_, rfl, r, 11, rfl, R7, by decide, by decide, fun H8 e b8 R8 e0 e1 => ⟨e, rfl, by omega, by omega, ?_⟩⟩
      have t8 := t7.but b8 R8
      have ne10 : e.toNat ≤ 10 := by omega
      refine for_it (walk_range (lo := 0) (n := e.toNat)) (fun i σ H' => ∃ (b6 b7 b8 : Option V) (ks : List (Str × Str)) (f : Str × Str → List PyData) (adp ada : Str × Str → Addr), σ = [some (.ref a), some (.int (0 + (k : Int))), some (.ref r), some (.ref Ls), some (.ref p), some (.ref La), b6, b7, b8] ∧ Tw T K C B H' r p La Ls Lp dx ns2 ks f adp ks f ada ∧ ks.length ≤ i ∧ fcount ks f ≤ i)
        ⟨a6, a7, a8, [], fun _ => [], fun _ => Lp, fun _ => La, rfl, t8, Nat.le_refl _, Nat.le_refl _⟩ (fun _ _ _ _ _ => trivial) ?_ ?_
      · rintro i y σ H9 H10 hi ⟨c6, c7, c8, ks, f, adp, ada, rfl, t, kl, fl⟩ ⟨rfl, rfl⟩
        refine ⟨_, rfl, _, rfl, r, Ls, ns2, rfl, t.R, t.nLs, t.hLsH, by omega, by omega, nd, fun HA tp x z bA RA tz mx mz nxz => ?_⟩
        have tA := t.but bA RA
        refine ⟨_, rfl, r, rfl, RA, fun HE te xs ds bE RE tzE qd en iE => ⟨_, _, rfl, ?_⟩⟩
        have tE := tA.but bE RE
        have tz := tz.but RA bE
        have qE : Db K r HE (.ref te) (.tuple ds) := .tup RE tzE qd
        have bd := ent_bd en iE
        have fl2 : ∀ k ∈ ks, (f k).length ≤ 500 := fun k hk => by
          have := fc_mem (f := f) hk
          omega
        refine ⟨_, rfl, p, dx, _, rfl, tE.hpH, fld_no (by decide +kernel), _, rfl, tp, _, 0, .str x, rfl, rfl, tz.sq, rfl, _, rfl, tp, _, 1, .str z, rfl, rfl, tz.sq, rfl, _, rfl, p, Lp, dx, x, z, .ref te, .tuple ds, ks, f, adp, rfl, nm x mx, nm z mz, nxz, qE.dn, bd.sm, iE, tE.hpH, tE.cp, by omega, fl2, fun HF ad1 fk1 fr1 n1 c1 => ?_⟩
        have t1 := tE.stepP fk1 fr1 n1 c1 (kn_put tE.kn ⟨nm x mx, nm z mz⟩) (it_put tE.it (bd.mono (by decide) (by decide)))
        have tzF := tz_fr tz fk1
        have dnF : Dn K HF (.ref te) (.tuple ds) := ((dn_fz qE.dn (item_noL iE)).same (fz_keep fk1)).same (fz_same HF)
        refine ⟨_, rfl, _, rfl, tp, _, 0, .str x, rfl, rfl, tzF.sq, rfl, _, rfl, tp, _, 1, .str z, rfl, rfl, tzF.sq, rfl, _, rfl, La, x, z, .ref te, .tuple ds, ks, f, ada, rfl, t1.ca, dnF, item_noL iE, by omega, fl2, fun HG ad2 fk2 fr2 n2 c2 => ?_⟩
        have kp := putKs_len ks (x, z)
        have fp := fc_put (f := f) (q := (x, z)) (d := .tuple ds) tE.cp.nd
        exact ⟨_, _, _, putKs ks (x, z), putFn ks f (x, z) (.tuple ds), ad1, ad2, rfl, t1.stepL fk2 fr2 n2 c2, by omega, by omega⟩
      · rintro σ H9 ⟨c6, c7, c8, ks, f, adp, ada, rfl, t, kl, fl⟩
        refine ⟨8, rfl, by decide, by decide, ?_⟩
        refine for_it (walk_range (lo := 0) (n := 8)) (fun i σ H' => ∃ (b6 b7 b8 : Option V) (ks : List (Str × Str)) (f : Str × Str → List PyData) (adp ada : Str × Str → Addr), σ = [some (.ref a), some (.int (0 + (k : Int))), some (.ref r), some (.ref Ls), some (.ref p), some (.ref La), b6, b7, b8] ∧ Tw T K C B H' r p La Ls Lp dx ns2 ks f adp ks f ada ∧ ks.length ≤ 10 + i ∧ fcount ks f ≤ 10 + 2 * i)
          ⟨c6, c7, c8, ks, f, adp, ada, rfl, t, by omega, by omega⟩ (fun _ _ _ _ _ => trivial) ?_ ?_
        · rintro i y σ HU HV hi ⟨d6, d7, d8, ks', f', adp', ada', rfl, tU, kU, fU⟩ ⟨rfl, rfl⟩
          refine ⟨_, rfl, _, rfl, _, rfl, _, rfl, r, p, La, Ls, Lp, dx, B, ns2, ks', f', adp', ada', rfl, tU, l2, by omega, nd, by omega, by omega, fun HW k3 f3 adp3 ada3 tW l3 m3 => ⟨_, rfl, iteF ?_⟩⟩
          refine ⟨_, rfl, _, rfl, _, rfl, _, rfl, r, p, La, Ls, Lp, dx, B, ns2, k3, f3, adp3, ada3, rfl, tW, l2, by omega, nd, by omega, by omega, fun HX k4 f4 adp4 ada4 tX l4' m4 => ⟨_, rfl, iteF ?_⟩⟩
          refine ⟨_, rfl, _, rfl, _, rfl, p, Ls, La, ns2, k4, f4, ada4, rfl, tX.hLsH, tX.nm, by omega, ⟨Lp, dx, adp4, tX.hpH, tX.cp⟩, tX.ca, tX.kn, tX.it, by omega, by omega, fun HS sS => ⟨_, rfl, iteF ?_⟩⟩
          exact ⟨_, _, _, k4, f4, adp4, ada4, rfl, tX.same sS, by omega, by omega⟩
        · rintro σ HU ⟨d6, d7, d8, ks', f', adp', ada', rfl, tU, kU, fU⟩
          exact ⟨⟨_, _, _, _, _, _, _, _, rfl⟩, back tU.sB, tU.tabs⟩
    · rintro σ H1 ⟨⟨a1, a2, a3, a4, a5, a6, a7, a8, rfl⟩, s1, _⟩
      exact q _
end
end My

namespace My
open PySem PySem.Spec PyProof.Rows L2 Gy Xl Xs Xt Xo Xp Xd Xq
theorem xb_mk {K : PySem.W.Frag} {x qual : Str} {st : Stmt} {f : Addr} {fd : FuncData} {ps ks : List Str} {g : List Value → List Value → List Value} {gV : List V → List V → List V} (F : Fun K x qual st f fd)
    (rel : ∀ {vs : List V} {us : List Value} {zs : List V} {ws : List Value}, Vals vs us → Vals zs ws → Vals (gV vs zs) (g us ws))
    (h : ∀ (kV doc pm : Value) (an : Option Addr) (cdv ct : Value) (b : Value) (us ws : List Value), (b :: g us ws).length = ps.length →
      bindArgs (PySem.W.fnOf x qual (defArgs st) (defBody st) (defScope st) .none kV doc pm an cdv ct) ⟨b :: us, ks.zip ws⟩ = pure (ps.zip (b :: g us ws))) : XB K fd ps ks g gV := by
  obtain ⟨oc, od, kV, doc, pm, an, cdv, ct, osl, rfl, lk, hcd⟩ := F.ex
  exact ⟨fun s b us ws _ hl => .of_eq (h kV doc pm an cdv ct b us ws hl), rel⟩
abbrev sI_InvalidItem : Stmt := inClass (top 4) 0
theorem scI_InvalidItem : FnScope ["self", "value"] ["self", "value"] (defScope sI_InvalidItem) := ⟨rfl, rfl, rfl, by decide +kernel, rfl, by decide +kernel, by decide +kernel⟩
theorem raw_InvalidItem {K : PySem.W.Frag} {c fI : Addr} {od an : Option Addr} {sl : Array (Option Value)} {oc kV dc pm cdv ct : Value}
    (ii : PySem.W.excInitIn K c [.type "ValueError", .type "Exception", .type "BaseException", .type "object"] "ValueError.__new__" = true) (ov : PySem.W.excOver K c [.type "ValueError", .type "Exception", .type "BaseException", .type "object"] = true) (sa : PySem.W.findIn K (.ref c) "__setattr__" = some (some (.builtin "object.__setattr__")))
    (ga : PySem.W.findIn K (.ref c) "__getattribute__" = some (some (.builtin "BaseException.__getattribute__"))) (gg : PySem.W.findIn K (.ref c) "__getattr__" = some none) (ca : PySem.W.findIn K (.ref c) "__class__" = some (some (.builtin "object.__class__")))
    (ex : PySem.W.subIn K (.ref c) (.type "BaseException") = some true) (ob : PySem.W.mroIn K c (.type "object") = some true) (hd : PySem.W.hasDictIn K c = true) (kp : PySem.W.keepIn K (.ref c) = true)
    (ty : PySem.W.typeIn K (.ref c) = some (.type "type")) (ini : PySem.W.findIn K (.ref c) "__init__" = some (some (.ref fI))) (tf : PySem.W.typeIn K (.ref fI) = some (.type "function"))
    (li : K.lookup fI = some ⟨oc, od, .func (PySem.W.fnOf "__init__" "InvalidItem.__init__" (defArgs sI_InvalidItem) (defBody sI_InvalidItem) (defScope sI_InvalidItem) .none kV dc pm an cdv ct), sl⟩) (ci : PySem.W.codeIn K cdv "InvalidItem.__init__" = true) (ki : PySem.W.keepIn K (.ref fI) = true)
    (n0 : PySem.W.findIn K (.ref c) "value" = some none) : XCl K c ∧ ∀ (P : Program) (w : World) (mg : Str → Option Value) (base : Heap), mg "InvalidItem" = some (.ref c) → Rz P w K mg base "InvalidItem" "value" c := by
  have X : XCl K c := ⟨⟨_, _, _, _, PySem.F.excBase_ValueError, PySem.F.store_ValueError, ii, ov⟩, sa, ga, gg, ca, ex, ob, hd, kp⟩
  refine ⟨X, fun P w mg base gm => ?_⟩
  have F := fun_mk (st := sI_InvalidItem) li ci ki
  refine ⟨gm, ty, fI, _, ⟨X, ini, tf⟩, ?_, xb_mk F (fun r _ => r) fun _ _ _ _ _ _ b us ws hl => match us, hl with | [_], _ => rfl⟩
  refine F.ok scI_InvalidItem (fun vs H Q E h => ?_) (fun cdv A outer s H vs Q E hr h => ?_)
  · obtain ⟨a, v, rfl, _⟩ := h
    rfl
  · obtain ⟨a, v, rfl, ha, q⟩ := h
    exact ⟨_, pss_one (ps_xs (pv 0) (pv 1)), v, rfl, .ref a, rfl, a, c, rfl, X, n0, .inl ⟨ha, fun dx n ne => q dx n ne⟩⟩
abbrev sI_InvalidName : Stmt := inClass (top 3) 0
theorem scI_InvalidName : FnScope ["self", "value"] ["self", "value"] (defScope sI_InvalidName) := ⟨rfl, rfl, rfl, by decide +kernel, rfl, by decide +kernel, by decide +kernel⟩
theorem raw_InvalidName {K : PySem.W.Frag} {c fI : Addr} {od an : Option Addr} {sl : Array (Option Value)} {oc kV dc pm cdv ct : Value}
    (ii : PySem.W.excInitIn K c [.type "ValueError", .type "Exception", .type "BaseException", .type "object"] "ValueError.__new__" = true) (ov : PySem.W.excOver K c [.type "ValueError", .type "Exception", .type "BaseException", .type "object"] = true) (sa : PySem.W.findIn K (.ref c) "__setattr__" = some (some (.builtin "object.__setattr__")))
    (ga : PySem.W.findIn K (.ref c) "__getattribute__" = some (some (.builtin "BaseException.__getattribute__"))) (gg : PySem.W.findIn K (.ref c) "__getattr__" = some none) (ca : PySem.W.findIn K (.ref c) "__class__" = some (some (.builtin "object.__class__")))
    (ex : PySem.W.subIn K (.ref c) (.type "BaseException") = some true) (ob : PySem.W.mroIn K c (.type "object") = some true) (hd : PySem.W.hasDictIn K c = true) (kp : PySem.W.keepIn K (.ref c) = true)
    (ty : PySem.W.typeIn K (.ref c) = some (.type "type")) (ini : PySem.W.findIn K (.ref c) "__init__" = some (some (.ref fI))) (tf : PySem.W.typeIn K (.ref fI) = some (.type "function"))
    (li : K.lookup fI = some ⟨oc, od, .func (PySem.W.fnOf "__init__" "InvalidName.__init__" (defArgs sI_InvalidName) (defBody sI_InvalidName) (defScope sI_InvalidName) .none kV dc pm an cdv ct), sl⟩) (ci : PySem.W.codeIn K cdv "InvalidName.__init__" = true) (ki : PySem.W.keepIn K (.ref fI) = true)
    (n0 : PySem.W.findIn K (.ref c) "value" = some none) : XCl K c ∧ ∀ (P : Program) (w : World) (mg : Str → Option Value) (base : Heap), mg "InvalidName" = some (.ref c) → Rz P w K mg base "InvalidName" "value" c := by
  have X : XCl K c := ⟨⟨_, _, _, _, PySem.F.excBase_ValueError, PySem.F.store_ValueError, ii, ov⟩, sa, ga, gg, ca, ex, ob, hd, kp⟩
  refine ⟨X, fun P w mg base gm => ?_⟩
  have F := fun_mk (st := sI_InvalidName) li ci ki
  refine ⟨gm, ty, fI, _, ⟨X, ini, tf⟩, ?_, xb_mk F (fun r _ => r) fun _ _ _ _ _ _ b us ws hl => match us, hl with | [_], _ => rfl⟩
  refine F.ok scI_InvalidName (fun vs H Q E h => ?_) (fun cdv A outer s H vs Q E hr h => ?_)
  · obtain ⟨a, v, rfl, _⟩ := h
    rfl
  · obtain ⟨a, v, rfl, ha, q⟩ := h
    exact ⟨_, pss_one (ps_xs (pv 0) (pv 1)), v, rfl, .ref a, rfl, a, c, rfl, X, n0, .inl ⟨ha, fun dx n ne => q dx n ne⟩⟩
abbrev sI_EmptyChannel : Stmt := inClass (top 7) 0
theorem scI_EmptyChannel : FnScope ["self", "source", "goal"] ["self", "source", "goal"] (defScope sI_EmptyChannel) := ⟨rfl, rfl, rfl, by decide +kernel, rfl, by decide +kernel, by decide +kernel⟩
theorem raw_EmptyChannel {K : PySem.W.Frag} {c fI : Addr} {od an : Option Addr} {sl : Array (Option Value)} {oc kV dc pm cdv ct : Value}
    (ii : PySem.W.excInitIn K c [.type "LookupError", .type "Exception", .type "BaseException", .type "object"] "LookupError.__new__" = true) (ov : PySem.W.excOver K c [.type "LookupError", .type "Exception", .type "BaseException", .type "object"] = true) (sa : PySem.W.findIn K (.ref c) "__setattr__" = some (some (.builtin "object.__setattr__")))
    (ga : PySem.W.findIn K (.ref c) "__getattribute__" = some (some (.builtin "BaseException.__getattribute__"))) (gg : PySem.W.findIn K (.ref c) "__getattr__" = some none) (ca : PySem.W.findIn K (.ref c) "__class__" = some (some (.builtin "object.__class__")))
    (ex : PySem.W.subIn K (.ref c) (.type "BaseException") = some true) (ob : PySem.W.mroIn K c (.type "object") = some true) (hd : PySem.W.hasDictIn K c = true) (kp : PySem.W.keepIn K (.ref c) = true)
    (ty : PySem.W.typeIn K (.ref c) = some (.type "type")) (ini : PySem.W.findIn K (.ref c) "__init__" = some (some (.ref fI))) (tf : PySem.W.typeIn K (.ref fI) = some (.type "function"))
    (li : K.lookup fI = some ⟨oc, od, .func (PySem.W.fnOf "__init__" "EmptyChannel.__init__" (defArgs sI_EmptyChannel) (defBody sI_EmptyChannel) (defScope sI_EmptyChannel) .none kV dc pm an cdv ct), sl⟩) (ci : PySem.W.codeIn K cdv "EmptyChannel.__init__" = true) (ki : PySem.W.keepIn K (.ref fI) = true)
    (n0 : PySem.W.findIn K (.ref c) "source" = some none) (n1 : PySem.W.findIn K (.ref c) "goal" = some none) : XCl K c ∧ ∀ (P : Program) (w : World) (mg : Str → Option Value) (base : Heap), mg "EmptyChannel" = some (.ref c) → Rz2 P w K mg base "EmptyChannel" "source" "goal" c := by
  have X : XCl K c := ⟨⟨_, _, _, _, PySem.F.excBase_LookupError, PySem.F.store_LookupError, ii, ov⟩, sa, ga, gg, ca, ex, ob, hd, kp⟩
  refine ⟨X, fun P w mg base gm => ?_⟩
  have F := fun_mk (st := sI_EmptyChannel) li ci ki
  refine ⟨gm, ty, fI, _, ⟨X, ini, tf⟩, ?_, xb_mk F (fun r _ => r) fun _ _ _ _ _ _ b us ws hl => match us, hl with | [_, _], _ => rfl⟩
  refine F.ok scI_EmptyChannel (fun vs H Q E h => ?_) (fun cdv A outer s H vs Q E hr h => ?_)
  · obtain ⟨a, v1, v2, rfl, _⟩ := h
    rfl
  · obtain ⟨a, v1, v2, rfl, ha, q⟩ := h
    exact ⟨_, pss_cons (ps_xs (pv 0) (pv 1)) (pss_one (ps_xs (pv 0) (pv 2))), v1, rfl, .ref a, rfl, a, c, rfl, X, n0, .inl ⟨ha, fun dx n ne => ⟨v2, rfl, .ref a, rfl, a, c, rfl, X, n1, .inr ⟨dx, _, upd_same, (upd_ne ne).trans upd_same, (by show 1 ≤ 900; decide), q dx n ne⟩⟩⟩⟩
theorem exm_of {K : PySem.W.Frag} {C D : Addr} {cd : ClassData} {b : Bool} (bP : PySem.W.subIn K (.ref D) (.type "BaseException") = some true) (cl : PySem.W.clsIn K D = some cd) (ty : PySem.W.typeIn K (.ref D) = some (.type "type")) (ss : PySem.W.subIn K (.ref C) (.ref D) = some b) : PySem.W.exmOne K (.ref C) (.ref D) = some b := by
  unfold PySem.W.exmOne
  rw [bP, if_pos (by rfl)]
  show (if ((PySem.W.clsIn K D).isSome && PySem.W.typeIn K (.ref D) == some (.type "type")) = true then PySem.W.subIn K (.ref C) (.ref D) else none) = _
  rw [cl, ty, if_pos (by rfl)]
  exact ss
theorem kit_bt {K : PySem.W.Frag} {C : Addr} {T : String} {b : Bool} (m : PySem.W.kitMeta T = true) (sb : PySem.W.subIn K (.ref C) (.type T) = some b) : PySem.W.kitOne K (.ref C) (.type T) = some b := by
  unfold PySem.W.kitOne
  rw [if_neg (show ¬ ((Value.ref C == Value.type T) = true) from fun z => Value.noConfusion (beq_iff_eq.mp z))]
  show (if PySem.W.kitMeta T = true then PySem.W.subIn K (.ref C) (.type T) else none) = _
  rw [if_pos m]
  exact sb
theorem kit_sub {K : PySem.W.Frag} {C D : Addr} {cd : ClassData} {b : Bool} (ne : C ≠ D) (cl : PySem.W.clsIn K D = some cd) (ty : PySem.W.typeIn K (.ref D) = some (.type "type")) (sb : PySem.W.subIn K (.ref C) (.ref D) = some b) : PySem.W.kitOne K (.ref C) (.ref D) = some b := by
  unfold PySem.W.kitOne
  rw [if_neg (fun z => ne (Value.ref.inj (beq_iff_eq.mp z)))]
  show (if ((PySem.W.clsIn K D).isSome && PySem.W.typeIn K (.ref D) == some (.type "type")) = true then PySem.W.subIn K (.ref C) (.ref D) else none) = _
  rw [cl, ty, if_pos (by rfl)]
  exact sb
theorem kit_self {K : PySem.W.Frag} {C : Addr} : PySem.W.kitOne K (.ref C) (.ref C) = some true := by
  unfold PySem.W.kitOne
  rw [if_pos (beq_self_eq_true _)]
/-- the table that a code object names -/
def codeTab (o : Obj) : Option Addr := match o.data with
  | .fields vs => (match (vs[11]? : Option Value) with
    | some (.ref P) => some P
    | _ => none)
  | _ => none
/-- the defs that make lambdas: their tables -/
def TT (P1 P2 : Addr) : List (Addr × Str) := [(P1, (("_law_put_right" : Str) ++ ".<locals>.") ++ "<lambda>"), (P2, (("_law_take_right" : Str) ++ ".<locals>.") ++ "<lambda>")]
theorem tt_1 {P1 P2 : Addr} : (P1, (("_law_put_right" : Str) ++ ".<locals>.") ++ "<lambda>") ∈ TT P1 P2 := List.mem_cons_self
theorem tt_2 {P1 P2 : Addr} : (P2, (("_law_take_right" : Str) ++ ".<locals>.") ++ "<lambda>") ∈ TT P1 P2 := List.mem_cons_of_mem _ List.mem_cons_self
theorem tu_1 {P1 P2 : Addr} (n : P1 ≠ P2) : ∀ p ∈ TT P1 P2, p.1 = P1 → p.2 = (("_law_put_right" : Str) ++ ".<locals>.") ++ "<lambda>" := fun p hp e => by
  unfold TT at hp
  simp only [List.mem_cons, List.not_mem_nil, or_false] at hp
  rcases hp with rfl | rfl
  · rfl
  · exact absurd e.symm n
theorem tu_2 {P1 P2 : Addr} (n : P1 ≠ P2) : ∀ p ∈ TT P1 P2, p.1 = P2 → p.2 = (("_law_take_right" : Str) ++ ".<locals>.") ++ "<lambda>" := fun p hp e => by
  unfold TT at hp
  simp only [List.mem_cons, List.not_mem_nil, or_false] at hp
  rcases hp with rfl | rfl
  · exact absurd e n
  · rfl
theorem tt_tabs {c1 c2 P1 P2 : Addr} {H : Hp} (h : ∀ p ∈ ([(c1, P1), (c2, P2)] : List (Addr × Addr)), H p.2 = some (.tbl #[])) : LamX.Tabs (TT P1 P2) H := fun p hp => by
  unfold TT at hp
  simp only [List.mem_cons, List.not_mem_nil, or_false] at hp
  rcases hp with rfl | rfl
  · exact LamX.TabS.nil (h (c1, P1) List.mem_cons_self)
  · exact LamX.TabS.nil (h (c2, P2) (List.mem_cons_of_mem _ List.mem_cons_self))
theorem two_of {α : Type} {p : α → Prop} {a b : α} (h1 : p a) (h2 : p b) : ∀ x ∈ [a, b], p x := fun x hx => by
  simp only [List.mem_cons, List.not_mem_nil, or_false] at hx
  rcases hx with rfl | rfl
  · exact h1
  · exact h2
theorem all_mk {l : PySem.W.OpenLaw} {w : World} {K : PySem.W.Frag} {h : Heap} {mg : Str → Option Value} {fa f_is_integer_from f_is_index f_is_text_of f_is_host_name f_is_word f_is_relink_path f_is_cut_of f_is_relink f_are_message_parts f_is_control_kind f_is_item f_check_item f_law_pot f_law_draw f_law_name f_law_word f_law_path f_law_entry f_law_is_name f_law_is_word f_law_is_whole f_law_is_relink f_law_is_entry f_law_odd f_law_other_path f_law_spoilt f_law_held f_law_stands f_law_put_in f_law_taken f_law_names f_law_ends f_law_result f_law_due_put f_law_put_right f_law_take_right f_law c_InvalidItem c_InvalidName c_EmptyChannel : Addr} {ck c1 c2 P1 P2 : Addr} {o_ck o_c1 o_c2 : Obj} {c_Channels : Addr} {fTm_init : Addr} {odTm_init anTm_init : Option Addr} {slTm_init : Array (Option Value)} {ocTm_init kVTm_init dcTm_init pmTm_init cdTm_init ctTm_init : Value} {fTm_len : Addr} {odTm_len anTm_len : Option Addr} {slTm_len : Array (Option Value)} {ocTm_len kVTm_len dcTm_len pmTm_len cdTm_len ctTm_len : Value} {fTm_put : Addr} {odTm_put anTm_put : Option Addr} {slTm_put : Array (Option Value)} {ocTm_put kVTm_put dcTm_put pmTm_put cdTm_put ctTm_put : Value} {fTm_take : Addr} {odTm_take anTm_take : Option Addr} {slTm_take : Array (Option Value)} {ocTm_take kVTm_take dcTm_take pmTm_take cdTm_take ctTm_take : Value} {fTm_in_flight : Addr} {odTm_in_flight anTm_in_flight : Option Addr} {slTm_in_flight : Array (Option Value)} {ocTm_in_flight kVTm_in_flight dcTm_in_flight pmTm_in_flight cdTm_in_flight ctTm_in_flight : Value} {fTm_busy : Addr} {odTm_busy anTm_busy : Option Addr} {slTm_busy : Array (Option Value)} {ocTm_busy kVTm_busy dcTm_busy pmTm_busy cdTm_busy ctTm_busy : Value} {cd_N : ClassData} {cd_I : ClassData} {cd_E : ClassData} {c_InvalidText : Addr} {cd_T : ClassData} {c_RelinkTreeError : Addr} {cd_R : ClassData} {c_UnknownHost : Addr} {cd_U : ClassData} (X : K.In h) (G : h.Ns mainGlobals mg) (hfa : mg "law" = some (.ref fa))
    {od_is_integer_from od_is_index od_is_text_of od_is_host_name od_is_word od_is_relink_path od_is_cut_of od_is_relink od_are_message_parts od_is_control_kind od_is_item od_check_item od_law_pot od_law_draw od_law_name od_law_word od_law_path od_law_entry od_law_is_name od_law_is_word od_law_is_whole od_law_is_relink od_law_is_entry od_law_odd od_law_other_path od_law_spoilt od_law_held od_law_stands od_law_put_in od_law_taken od_law_names od_law_ends od_law_result od_law_due_put od_law_put_right od_law_take_right od_law an_is_integer_from an_is_index an_is_text_of an_is_host_name an_is_word an_is_relink_path an_is_cut_of an_is_relink an_are_message_parts an_is_control_kind an_is_item an_check_item an_law_pot an_law_draw an_law_name an_law_word an_law_path an_law_entry an_law_is_name an_law_is_word an_law_is_whole an_law_is_relink an_law_is_entry an_law_odd an_law_other_path an_law_spoilt an_law_held an_law_stands an_law_put_in an_law_taken an_law_names an_law_ends an_law_result an_law_due_put an_law_put_right an_law_take_right an_law : Option Addr} {sl_is_integer_from sl_is_index sl_is_text_of sl_is_host_name sl_is_word sl_is_relink_path sl_is_cut_of sl_is_relink sl_are_message_parts sl_is_control_kind sl_is_item sl_check_item sl_law_pot sl_law_draw sl_law_name sl_law_word sl_law_path sl_law_entry sl_law_is_name sl_law_is_word sl_law_is_whole sl_law_is_relink sl_law_is_entry sl_law_odd sl_law_other_path sl_law_spoilt sl_law_held sl_law_stands sl_law_put_in sl_law_taken sl_law_names sl_law_ends sl_law_result sl_law_due_put sl_law_put_right sl_law_take_right sl_law : Array (Option Value)} {oc_is_integer_from oc_is_index oc_is_text_of oc_is_host_name oc_is_word oc_is_relink_path oc_is_cut_of oc_is_relink oc_are_message_parts oc_is_control_kind oc_is_item oc_check_item oc_law_pot oc_law_draw oc_law_name oc_law_word oc_law_path oc_law_entry oc_law_is_name oc_law_is_word oc_law_is_whole oc_law_is_relink oc_law_is_entry oc_law_odd oc_law_other_path oc_law_spoilt oc_law_held oc_law_stands oc_law_put_in oc_law_taken oc_law_names oc_law_ends oc_law_result oc_law_due_put oc_law_put_right oc_law_take_right oc_law kV_is_integer_from kV_is_index kV_is_text_of kV_is_host_name kV_is_word kV_is_relink_path kV_is_cut_of kV_is_relink kV_are_message_parts kV_is_control_kind kV_is_item kV_check_item kV_law_pot kV_law_draw kV_law_name kV_law_word kV_law_path kV_law_entry kV_law_is_name kV_law_is_word kV_law_is_whole kV_law_is_relink kV_law_is_entry kV_law_odd kV_law_other_path kV_law_spoilt kV_law_held kV_law_stands kV_law_put_in kV_law_taken kV_law_names kV_law_ends kV_law_result kV_law_due_put kV_law_put_right kV_law_take_right kV_law dc_is_integer_from dc_is_index dc_is_text_of dc_is_host_name dc_is_word dc_is_relink_path dc_is_cut_of dc_is_relink dc_are_message_parts dc_is_control_kind dc_is_item dc_check_item dc_law_pot dc_law_draw dc_law_name dc_law_word dc_law_path dc_law_entry dc_law_is_name dc_law_is_word dc_law_is_whole dc_law_is_relink dc_law_is_entry dc_law_odd dc_law_other_path dc_law_spoilt dc_law_held dc_law_stands dc_law_put_in dc_law_taken dc_law_names dc_law_ends dc_law_result dc_law_due_put dc_law_put_right dc_law_take_right dc_law pm_is_integer_from pm_is_index pm_is_text_of pm_is_host_name pm_is_word pm_is_relink_path pm_is_cut_of pm_is_relink pm_are_message_parts pm_is_control_kind pm_is_item pm_check_item pm_law_pot pm_law_draw pm_law_name pm_law_word pm_law_path pm_law_entry pm_law_is_name pm_law_is_word pm_law_is_whole pm_law_is_relink pm_law_is_entry pm_law_odd pm_law_other_path pm_law_spoilt pm_law_held pm_law_stands pm_law_put_in pm_law_taken pm_law_names pm_law_ends pm_law_result pm_law_due_put pm_law_put_right pm_law_take_right pm_law cd_is_integer_from cd_is_index cd_is_text_of cd_is_host_name cd_is_word cd_is_relink_path cd_is_cut_of cd_is_relink cd_are_message_parts cd_is_control_kind cd_is_item cd_check_item cd_law_pot cd_law_draw cd_law_name cd_law_word cd_law_path cd_law_entry cd_law_is_name cd_law_is_word cd_law_is_whole cd_law_is_relink cd_law_is_entry cd_law_odd cd_law_other_path cd_law_spoilt cd_law_held cd_law_stands cd_law_put_in cd_law_taken cd_law_names cd_law_ends cd_law_result cd_law_due_put cd_law_put_right cd_law_take_right cd_law ct_is_integer_from ct_is_index ct_is_text_of ct_is_host_name ct_is_word ct_is_relink_path ct_is_cut_of ct_is_relink ct_are_message_parts ct_is_control_kind ct_is_item ct_check_item ct_law_pot ct_law_draw ct_law_name ct_law_word ct_law_path ct_law_entry ct_law_is_name ct_law_is_word ct_law_is_whole ct_law_is_relink ct_law_is_entry ct_law_odd ct_law_other_path ct_law_spoilt ct_law_held ct_law_stands ct_law_put_in ct_law_taken ct_law_names ct_law_ends ct_law_result ct_law_due_put ct_law_put_right ct_law_take_right ct_law : Value}
    {t_LETTERS t_DIGITS t_LONGEST_NAME t_LONGEST_WORD t_SHORTEST_PATH t_MESSAGE t_BYE t_BITS : Tok}
    (a_is_integer_from : PySem.W.nsIn K mainGlobals "is_integer_from" = some (some (.ref f_is_integer_from))) (l_is_integer_from : K.lookup f_is_integer_from = some ⟨oc_is_integer_from, od_is_integer_from, .func (PySem.W.fnOf "is_integer_from" "is_integer_from" (defArgs s_is_integer_from) (defBody s_is_integer_from) (defScope s_is_integer_from) .none kV_is_integer_from dc_is_integer_from pm_is_integer_from an_is_integer_from cd_is_integer_from ct_is_integer_from), sl_is_integer_from⟩) (co_is_integer_from : PySem.W.codeIn K cd_is_integer_from "is_integer_from" = true) (k_is_integer_from : PySem.W.keepIn K (.ref f_is_integer_from) = true)
    (a_is_index : PySem.W.nsIn K mainGlobals "is_index" = some (some (.ref f_is_index))) (l_is_index : K.lookup f_is_index = some ⟨oc_is_index, od_is_index, .func (PySem.W.fnOf "is_index" "is_index" (defArgs s_is_index) (defBody s_is_index) (defScope s_is_index) .none kV_is_index dc_is_index pm_is_index an_is_index cd_is_index ct_is_index), sl_is_index⟩) (co_is_index : PySem.W.codeIn K cd_is_index "is_index" = true) (k_is_index : PySem.W.keepIn K (.ref f_is_index) = true)
    (a_is_text_of : PySem.W.nsIn K mainGlobals "is_text_of" = some (some (.ref f_is_text_of))) (l_is_text_of : K.lookup f_is_text_of = some ⟨oc_is_text_of, od_is_text_of, .func (PySem.W.fnOf "is_text_of" "is_text_of" (defArgs s_is_text_of) (defBody s_is_text_of) (defScope s_is_text_of) .none kV_is_text_of dc_is_text_of pm_is_text_of an_is_text_of cd_is_text_of ct_is_text_of), sl_is_text_of⟩) (co_is_text_of : PySem.W.codeIn K cd_is_text_of "is_text_of" = true) (k_is_text_of : PySem.W.keepIn K (.ref f_is_text_of) = true)
    (a_is_host_name : PySem.W.nsIn K mainGlobals "is_host_name" = some (some (.ref f_is_host_name))) (l_is_host_name : K.lookup f_is_host_name = some ⟨oc_is_host_name, od_is_host_name, .func (PySem.W.fnOf "is_host_name" "is_host_name" (defArgs s_is_host_name) (defBody s_is_host_name) (defScope s_is_host_name) .none kV_is_host_name dc_is_host_name pm_is_host_name an_is_host_name cd_is_host_name ct_is_host_name), sl_is_host_name⟩) (co_is_host_name : PySem.W.codeIn K cd_is_host_name "is_host_name" = true) (k_is_host_name : PySem.W.keepIn K (.ref f_is_host_name) = true)
    (a_is_word : PySem.W.nsIn K mainGlobals "is_word" = some (some (.ref f_is_word))) (l_is_word : K.lookup f_is_word = some ⟨oc_is_word, od_is_word, .func (PySem.W.fnOf "is_word" "is_word" (defArgs s_is_word) (defBody s_is_word) (defScope s_is_word) .none kV_is_word dc_is_word pm_is_word an_is_word cd_is_word ct_is_word), sl_is_word⟩) (co_is_word : PySem.W.codeIn K cd_is_word "is_word" = true) (k_is_word : PySem.W.keepIn K (.ref f_is_word) = true)
    (a_is_relink_path : PySem.W.nsIn K mainGlobals "is_relink_path" = some (some (.ref f_is_relink_path))) (l_is_relink_path : K.lookup f_is_relink_path = some ⟨oc_is_relink_path, od_is_relink_path, .func (PySem.W.fnOf "is_relink_path" "is_relink_path" (defArgs s_is_relink_path) (defBody s_is_relink_path) (defScope s_is_relink_path) .none kV_is_relink_path dc_is_relink_path pm_is_relink_path an_is_relink_path cd_is_relink_path ct_is_relink_path), sl_is_relink_path⟩) (co_is_relink_path : PySem.W.codeIn K cd_is_relink_path "is_relink_path" = true) (k_is_relink_path : PySem.W.keepIn K (.ref f_is_relink_path) = true)
    (a_is_cut_of : PySem.W.nsIn K mainGlobals "is_cut_of" = some (some (.ref f_is_cut_of))) (l_is_cut_of : K.lookup f_is_cut_of = some ⟨oc_is_cut_of, od_is_cut_of, .func (PySem.W.fnOf "is_cut_of" "is_cut_of" (defArgs s_is_cut_of) (defBody s_is_cut_of) (defScope s_is_cut_of) .none kV_is_cut_of dc_is_cut_of pm_is_cut_of an_is_cut_of cd_is_cut_of ct_is_cut_of), sl_is_cut_of⟩) (co_is_cut_of : PySem.W.codeIn K cd_is_cut_of "is_cut_of" = true) (k_is_cut_of : PySem.W.keepIn K (.ref f_is_cut_of) = true)
    (a_is_relink : PySem.W.nsIn K mainGlobals "is_relink" = some (some (.ref f_is_relink))) (l_is_relink : K.lookup f_is_relink = some ⟨oc_is_relink, od_is_relink, .func (PySem.W.fnOf "is_relink" "is_relink" (defArgs s_is_relink) (defBody s_is_relink) (defScope s_is_relink) .none kV_is_relink dc_is_relink pm_is_relink an_is_relink cd_is_relink ct_is_relink), sl_is_relink⟩) (co_is_relink : PySem.W.codeIn K cd_is_relink "is_relink" = true) (k_is_relink : PySem.W.keepIn K (.ref f_is_relink) = true)
    (a_are_message_parts : PySem.W.nsIn K mainGlobals "are_message_parts" = some (some (.ref f_are_message_parts))) (l_are_message_parts : K.lookup f_are_message_parts = some ⟨oc_are_message_parts, od_are_message_parts, .func (PySem.W.fnOf "are_message_parts" "are_message_parts" (defArgs s_are_message_parts) (defBody s_are_message_parts) (defScope s_are_message_parts) .none kV_are_message_parts dc_are_message_parts pm_are_message_parts an_are_message_parts cd_are_message_parts ct_are_message_parts), sl_are_message_parts⟩) (co_are_message_parts : PySem.W.codeIn K cd_are_message_parts "are_message_parts" = true) (k_are_message_parts : PySem.W.keepIn K (.ref f_are_message_parts) = true)
    (a_is_control_kind : PySem.W.nsIn K mainGlobals "is_control_kind" = some (some (.ref f_is_control_kind))) (l_is_control_kind : K.lookup f_is_control_kind = some ⟨oc_is_control_kind, od_is_control_kind, .func (PySem.W.fnOf "is_control_kind" "is_control_kind" (defArgs s_is_control_kind) (defBody s_is_control_kind) (defScope s_is_control_kind) .none kV_is_control_kind dc_is_control_kind pm_is_control_kind an_is_control_kind cd_is_control_kind ct_is_control_kind), sl_is_control_kind⟩) (co_is_control_kind : PySem.W.codeIn K cd_is_control_kind "is_control_kind" = true) (k_is_control_kind : PySem.W.keepIn K (.ref f_is_control_kind) = true)
    (a_is_item : PySem.W.nsIn K mainGlobals "is_item" = some (some (.ref f_is_item))) (l_is_item : K.lookup f_is_item = some ⟨oc_is_item, od_is_item, .func (PySem.W.fnOf "is_item" "is_item" (defArgs s_is_item) (defBody s_is_item) (defScope s_is_item) .none kV_is_item dc_is_item pm_is_item an_is_item cd_is_item ct_is_item), sl_is_item⟩) (co_is_item : PySem.W.codeIn K cd_is_item "is_item" = true) (k_is_item : PySem.W.keepIn K (.ref f_is_item) = true)
    (a_check_item : PySem.W.nsIn K mainGlobals "check_item" = some (some (.ref f_check_item))) (l_check_item : K.lookup f_check_item = some ⟨oc_check_item, od_check_item, .func (PySem.W.fnOf "check_item" "check_item" (defArgs s_check_item) (defBody s_check_item) (defScope s_check_item) .none kV_check_item dc_check_item pm_check_item an_check_item cd_check_item ct_check_item), sl_check_item⟩) (co_check_item : PySem.W.codeIn K cd_check_item "check_item" = true) (k_check_item : PySem.W.keepIn K (.ref f_check_item) = true)
    (a_law_pot : PySem.W.nsIn K mainGlobals "_law_pot" = some (some (.ref f_law_pot))) (l_law_pot : K.lookup f_law_pot = some ⟨oc_law_pot, od_law_pot, .func (PySem.W.fnOf "_law_pot" "_law_pot" (defArgs s_law_pot) (defBody s_law_pot) (defScope s_law_pot) .none kV_law_pot dc_law_pot pm_law_pot an_law_pot cd_law_pot ct_law_pot), sl_law_pot⟩) (co_law_pot : PySem.W.codeIn K cd_law_pot "_law_pot" = true) (k_law_pot : PySem.W.keepIn K (.ref f_law_pot) = true)
    (a_law_draw : PySem.W.nsIn K mainGlobals "_law_draw" = some (some (.ref f_law_draw))) (l_law_draw : K.lookup f_law_draw = some ⟨oc_law_draw, od_law_draw, .func (PySem.W.fnOf "_law_draw" "_law_draw" (defArgs s_law_draw) (defBody s_law_draw) (defScope s_law_draw) .none kV_law_draw dc_law_draw pm_law_draw an_law_draw cd_law_draw ct_law_draw), sl_law_draw⟩) (co_law_draw : PySem.W.codeIn K cd_law_draw "_law_draw" = true) (k_law_draw : PySem.W.keepIn K (.ref f_law_draw) = true)
    (a_law_name : PySem.W.nsIn K mainGlobals "_law_name" = some (some (.ref f_law_name))) (l_law_name : K.lookup f_law_name = some ⟨oc_law_name, od_law_name, .func (PySem.W.fnOf "_law_name" "_law_name" (defArgs s_law_name) (defBody s_law_name) (defScope s_law_name) .none kV_law_name dc_law_name pm_law_name an_law_name cd_law_name ct_law_name), sl_law_name⟩) (co_law_name : PySem.W.codeIn K cd_law_name "_law_name" = true) (k_law_name : PySem.W.keepIn K (.ref f_law_name) = true)
    (a_law_word : PySem.W.nsIn K mainGlobals "_law_word" = some (some (.ref f_law_word))) (l_law_word : K.lookup f_law_word = some ⟨oc_law_word, od_law_word, .func (PySem.W.fnOf "_law_word" "_law_word" (defArgs s_law_word) (defBody s_law_word) (defScope s_law_word) .none kV_law_word dc_law_word pm_law_word an_law_word cd_law_word ct_law_word), sl_law_word⟩) (co_law_word : PySem.W.codeIn K cd_law_word "_law_word" = true) (k_law_word : PySem.W.keepIn K (.ref f_law_word) = true)
    (a_law_path : PySem.W.nsIn K mainGlobals "_law_path" = some (some (.ref f_law_path))) (l_law_path : K.lookup f_law_path = some ⟨oc_law_path, od_law_path, .func (PySem.W.fnOf "_law_path" "_law_path" (defArgs s_law_path) (defBody s_law_path) (defScope s_law_path) .none kV_law_path dc_law_path pm_law_path an_law_path cd_law_path ct_law_path), sl_law_path⟩) (co_law_path : PySem.W.codeIn K cd_law_path "_law_path" = true) (k_law_path : PySem.W.keepIn K (.ref f_law_path) = true)
    (a_law_entry : PySem.W.nsIn K mainGlobals "_law_entry" = some (some (.ref f_law_entry))) (l_law_entry : K.lookup f_law_entry = some ⟨oc_law_entry, od_law_entry, .func (PySem.W.fnOf "_law_entry" "_law_entry" (defArgs s_law_entry) (defBody s_law_entry) (defScope s_law_entry) .none kV_law_entry dc_law_entry pm_law_entry an_law_entry cd_law_entry ct_law_entry), sl_law_entry⟩) (co_law_entry : PySem.W.codeIn K cd_law_entry "_law_entry" = true) (k_law_entry : PySem.W.keepIn K (.ref f_law_entry) = true)
    (a_law_is_name : PySem.W.nsIn K mainGlobals "_law_is_name" = some (some (.ref f_law_is_name))) (l_law_is_name : K.lookup f_law_is_name = some ⟨oc_law_is_name, od_law_is_name, .func (PySem.W.fnOf "_law_is_name" "_law_is_name" (defArgs s_law_is_name) (defBody s_law_is_name) (defScope s_law_is_name) .none kV_law_is_name dc_law_is_name pm_law_is_name an_law_is_name cd_law_is_name ct_law_is_name), sl_law_is_name⟩) (co_law_is_name : PySem.W.codeIn K cd_law_is_name "_law_is_name" = true) (k_law_is_name : PySem.W.keepIn K (.ref f_law_is_name) = true)
    (a_law_is_word : PySem.W.nsIn K mainGlobals "_law_is_word" = some (some (.ref f_law_is_word))) (l_law_is_word : K.lookup f_law_is_word = some ⟨oc_law_is_word, od_law_is_word, .func (PySem.W.fnOf "_law_is_word" "_law_is_word" (defArgs s_law_is_word) (defBody s_law_is_word) (defScope s_law_is_word) .none kV_law_is_word dc_law_is_word pm_law_is_word an_law_is_word cd_law_is_word ct_law_is_word), sl_law_is_word⟩) (co_law_is_word : PySem.W.codeIn K cd_law_is_word "_law_is_word" = true) (k_law_is_word : PySem.W.keepIn K (.ref f_law_is_word) = true)
    (a_law_is_whole : PySem.W.nsIn K mainGlobals "_law_is_whole" = some (some (.ref f_law_is_whole))) (l_law_is_whole : K.lookup f_law_is_whole = some ⟨oc_law_is_whole, od_law_is_whole, .func (PySem.W.fnOf "_law_is_whole" "_law_is_whole" (defArgs s_law_is_whole) (defBody s_law_is_whole) (defScope s_law_is_whole) .none kV_law_is_whole dc_law_is_whole pm_law_is_whole an_law_is_whole cd_law_is_whole ct_law_is_whole), sl_law_is_whole⟩) (co_law_is_whole : PySem.W.codeIn K cd_law_is_whole "_law_is_whole" = true) (k_law_is_whole : PySem.W.keepIn K (.ref f_law_is_whole) = true)
    (a_law_is_relink : PySem.W.nsIn K mainGlobals "_law_is_relink" = some (some (.ref f_law_is_relink))) (l_law_is_relink : K.lookup f_law_is_relink = some ⟨oc_law_is_relink, od_law_is_relink, .func (PySem.W.fnOf "_law_is_relink" "_law_is_relink" (defArgs s_law_is_relink) (defBody s_law_is_relink) (defScope s_law_is_relink) .none kV_law_is_relink dc_law_is_relink pm_law_is_relink an_law_is_relink cd_law_is_relink ct_law_is_relink), sl_law_is_relink⟩) (co_law_is_relink : PySem.W.codeIn K cd_law_is_relink "_law_is_relink" = true) (k_law_is_relink : PySem.W.keepIn K (.ref f_law_is_relink) = true)
    (a_law_is_entry : PySem.W.nsIn K mainGlobals "_law_is_entry" = some (some (.ref f_law_is_entry))) (l_law_is_entry : K.lookup f_law_is_entry = some ⟨oc_law_is_entry, od_law_is_entry, .func (PySem.W.fnOf "_law_is_entry" "_law_is_entry" (defArgs s_law_is_entry) (defBody s_law_is_entry) (defScope s_law_is_entry) .none kV_law_is_entry dc_law_is_entry pm_law_is_entry an_law_is_entry cd_law_is_entry ct_law_is_entry), sl_law_is_entry⟩) (co_law_is_entry : PySem.W.codeIn K cd_law_is_entry "_law_is_entry" = true) (k_law_is_entry : PySem.W.keepIn K (.ref f_law_is_entry) = true)
    (a_law_odd : PySem.W.nsIn K mainGlobals "_law_odd" = some (some (.ref f_law_odd))) (l_law_odd : K.lookup f_law_odd = some ⟨oc_law_odd, od_law_odd, .func (PySem.W.fnOf "_law_odd" "_law_odd" (defArgs s_law_odd) (defBody s_law_odd) (defScope s_law_odd) .none kV_law_odd dc_law_odd pm_law_odd an_law_odd cd_law_odd ct_law_odd), sl_law_odd⟩) (co_law_odd : PySem.W.codeIn K cd_law_odd "_law_odd" = true) (k_law_odd : PySem.W.keepIn K (.ref f_law_odd) = true)
    (a_law_other_path : PySem.W.nsIn K mainGlobals "_law_other_path" = some (some (.ref f_law_other_path))) (l_law_other_path : K.lookup f_law_other_path = some ⟨oc_law_other_path, od_law_other_path, .func (PySem.W.fnOf "_law_other_path" "_law_other_path" (defArgs s_law_other_path) (defBody s_law_other_path) (defScope s_law_other_path) .none kV_law_other_path dc_law_other_path pm_law_other_path an_law_other_path cd_law_other_path ct_law_other_path), sl_law_other_path⟩) (co_law_other_path : PySem.W.codeIn K cd_law_other_path "_law_other_path" = true) (k_law_other_path : PySem.W.keepIn K (.ref f_law_other_path) = true)
    (a_law_spoilt : PySem.W.nsIn K mainGlobals "_law_spoilt" = some (some (.ref f_law_spoilt))) (l_law_spoilt : K.lookup f_law_spoilt = some ⟨oc_law_spoilt, od_law_spoilt, .func (PySem.W.fnOf "_law_spoilt" "_law_spoilt" (defArgs s_law_spoilt) (defBody s_law_spoilt) (defScope s_law_spoilt) .none kV_law_spoilt dc_law_spoilt pm_law_spoilt an_law_spoilt cd_law_spoilt ct_law_spoilt), sl_law_spoilt⟩) (co_law_spoilt : PySem.W.codeIn K cd_law_spoilt "_law_spoilt" = true) (k_law_spoilt : PySem.W.keepIn K (.ref f_law_spoilt) = true)
    (a_law_held : PySem.W.nsIn K mainGlobals "_law_held" = some (some (.ref f_law_held))) (l_law_held : K.lookup f_law_held = some ⟨oc_law_held, od_law_held, .func (PySem.W.fnOf "_law_held" "_law_held" (defArgs s_law_held) (defBody s_law_held) (defScope s_law_held) .none kV_law_held dc_law_held pm_law_held an_law_held cd_law_held ct_law_held), sl_law_held⟩) (co_law_held : PySem.W.codeIn K cd_law_held "_law_held" = true) (k_law_held : PySem.W.keepIn K (.ref f_law_held) = true)
    (a_law_stands : PySem.W.nsIn K mainGlobals "_law_stands" = some (some (.ref f_law_stands))) (l_law_stands : K.lookup f_law_stands = some ⟨oc_law_stands, od_law_stands, .func (PySem.W.fnOf "_law_stands" "_law_stands" (defArgs s_law_stands) (defBody s_law_stands) (defScope s_law_stands) .none kV_law_stands dc_law_stands pm_law_stands an_law_stands cd_law_stands ct_law_stands), sl_law_stands⟩) (co_law_stands : PySem.W.codeIn K cd_law_stands "_law_stands" = true) (k_law_stands : PySem.W.keepIn K (.ref f_law_stands) = true)
    (a_law_put_in : PySem.W.nsIn K mainGlobals "_law_put_in" = some (some (.ref f_law_put_in))) (l_law_put_in : K.lookup f_law_put_in = some ⟨oc_law_put_in, od_law_put_in, .func (PySem.W.fnOf "_law_put_in" "_law_put_in" (defArgs s_law_put_in) (defBody s_law_put_in) (defScope s_law_put_in) .none kV_law_put_in dc_law_put_in pm_law_put_in an_law_put_in cd_law_put_in ct_law_put_in), sl_law_put_in⟩) (co_law_put_in : PySem.W.codeIn K cd_law_put_in "_law_put_in" = true) (k_law_put_in : PySem.W.keepIn K (.ref f_law_put_in) = true)
    (a_law_taken : PySem.W.nsIn K mainGlobals "_law_taken" = some (some (.ref f_law_taken))) (l_law_taken : K.lookup f_law_taken = some ⟨oc_law_taken, od_law_taken, .func (PySem.W.fnOf "_law_taken" "_law_taken" (defArgs s_law_taken) (defBody s_law_taken) (defScope s_law_taken) .none kV_law_taken dc_law_taken pm_law_taken an_law_taken cd_law_taken ct_law_taken), sl_law_taken⟩) (co_law_taken : PySem.W.codeIn K cd_law_taken "_law_taken" = true) (k_law_taken : PySem.W.keepIn K (.ref f_law_taken) = true)
    (a_law_names : PySem.W.nsIn K mainGlobals "_law_names" = some (some (.ref f_law_names))) (l_law_names : K.lookup f_law_names = some ⟨oc_law_names, od_law_names, .func (PySem.W.fnOf "_law_names" "_law_names" (defArgs s_law_names) (defBody s_law_names) (defScope s_law_names) .none kV_law_names dc_law_names pm_law_names an_law_names cd_law_names ct_law_names), sl_law_names⟩) (co_law_names : PySem.W.codeIn K cd_law_names "_law_names" = true) (k_law_names : PySem.W.keepIn K (.ref f_law_names) = true)
    (a_law_ends : PySem.W.nsIn K mainGlobals "_law_ends" = some (some (.ref f_law_ends))) (l_law_ends : K.lookup f_law_ends = some ⟨oc_law_ends, od_law_ends, .func (PySem.W.fnOf "_law_ends" "_law_ends" (defArgs s_law_ends) (defBody s_law_ends) (defScope s_law_ends) .none kV_law_ends dc_law_ends pm_law_ends an_law_ends cd_law_ends ct_law_ends), sl_law_ends⟩) (co_law_ends : PySem.W.codeIn K cd_law_ends "_law_ends" = true) (k_law_ends : PySem.W.keepIn K (.ref f_law_ends) = true)
    (a_law_result : PySem.W.nsIn K mainGlobals "_law_result" = some (some (.ref f_law_result))) (l_law_result : K.lookup f_law_result = some ⟨oc_law_result, od_law_result, .func (PySem.W.fnOf "_law_result" "_law_result" (defArgs s_law_result) (defBody s_law_result) (defScope s_law_result) .none kV_law_result dc_law_result pm_law_result an_law_result cd_law_result ct_law_result), sl_law_result⟩) (co_law_result : PySem.W.codeIn K cd_law_result "_law_result" = true) (k_law_result : PySem.W.keepIn K (.ref f_law_result) = true)
    (a_law_due_put : PySem.W.nsIn K mainGlobals "_law_due_put" = some (some (.ref f_law_due_put))) (l_law_due_put : K.lookup f_law_due_put = some ⟨oc_law_due_put, od_law_due_put, .func (PySem.W.fnOf "_law_due_put" "_law_due_put" (defArgs s_law_due_put) (defBody s_law_due_put) (defScope s_law_due_put) .none kV_law_due_put dc_law_due_put pm_law_due_put an_law_due_put cd_law_due_put ct_law_due_put), sl_law_due_put⟩) (co_law_due_put : PySem.W.codeIn K cd_law_due_put "_law_due_put" = true) (k_law_due_put : PySem.W.keepIn K (.ref f_law_due_put) = true)
    (a_law_put_right : PySem.W.nsIn K mainGlobals "_law_put_right" = some (some (.ref f_law_put_right))) (l_law_put_right : K.lookup f_law_put_right = some ⟨oc_law_put_right, od_law_put_right, .func (PySem.W.fnOf "_law_put_right" "_law_put_right" (defArgs s_law_put_right) (defBody s_law_put_right) (defScope s_law_put_right) .none kV_law_put_right dc_law_put_right pm_law_put_right an_law_put_right cd_law_put_right ct_law_put_right), sl_law_put_right⟩) (co_law_put_right : PySem.W.codeIn K cd_law_put_right "_law_put_right" = true) (k_law_put_right : PySem.W.keepIn K (.ref f_law_put_right) = true)
    (a_law_take_right : PySem.W.nsIn K mainGlobals "_law_take_right" = some (some (.ref f_law_take_right))) (l_law_take_right : K.lookup f_law_take_right = some ⟨oc_law_take_right, od_law_take_right, .func (PySem.W.fnOf "_law_take_right" "_law_take_right" (defArgs s_law_take_right) (defBody s_law_take_right) (defScope s_law_take_right) .none kV_law_take_right dc_law_take_right pm_law_take_right an_law_take_right cd_law_take_right ct_law_take_right), sl_law_take_right⟩) (co_law_take_right : PySem.W.codeIn K cd_law_take_right "_law_take_right" = true) (k_law_take_right : PySem.W.keepIn K (.ref f_law_take_right) = true)
    (a_law : PySem.W.nsIn K mainGlobals "law" = some (some (.ref f_law))) (l_law : K.lookup f_law = some ⟨oc_law, od_law, .func (PySem.W.fnOf "law" "law" (defArgs s_law) (defBody s_law) (defScope s_law) .none kV_law dc_law pm_law an_law cd_law ct_law), sl_law⟩) (co_law : PySem.W.codeIn K cd_law "law" = true) (k_law : PySem.W.keepIn K (.ref f_law) = true)
    (v_LETTERS : PySem.W.nsIn K mainGlobals "LETTERS" = some (some (.str LET t_LETTERS)))
    (v_DIGITS : PySem.W.nsIn K mainGlobals "DIGITS" = some (some (.str DIG t_DIGITS)))
    (v_LONGEST_NAME : PySem.W.nsIn K mainGlobals "LONGEST_NAME" = some (some (.int 8 t_LONGEST_NAME)))
    (v_LONGEST_WORD : PySem.W.nsIn K mainGlobals "LONGEST_WORD" = some (some (.int 12 t_LONGEST_WORD)))
    (v_SHORTEST_PATH : PySem.W.nsIn K mainGlobals "SHORTEST_PATH" = some (some (.int 3 t_SHORTEST_PATH)))
    (v_MESSAGE : PySem.W.nsIn K mainGlobals "MESSAGE" = some (some (.str "message" t_MESSAGE)))
    (v_BYE : PySem.W.nsIn K mainGlobals "BYE" = some (some (.str "bye" t_BYE)))
    (v_BITS : PySem.W.nsIn K mainGlobals "BITS" = some (some (.int 2 t_BITS)))
    (z_len : PySem.W.nsIn K mainGlobals "len" = some none)
    (z_range : PySem.W.nsIn K mainGlobals "range" = some none)
    (z_abs : PySem.W.nsIn K mainGlobals "abs" = some none)
    (z_max : PySem.W.nsIn K mainGlobals "max" = some none)
    (z_min : PySem.W.nsIn K mainGlobals "min" = some none)
    (z_divmod : PySem.W.nsIn K mainGlobals "divmod" = some none)
    (z_isinstance : PySem.W.nsIn K mainGlobals "isinstance" = some none)
    (z_str : PySem.W.nsIn K mainGlobals "str" = some none)
    (z_int : PySem.W.nsIn K mainGlobals "int" = some none)
    (z_bool : PySem.W.nsIn K mainGlobals "bool" = some none)
    (z_tuple : PySem.W.nsIn K mainGlobals "tuple" = some none)
    (z_list : PySem.W.nsIn K mainGlobals "list" = some none)
    (z_set : PySem.W.nsIn K mainGlobals "set" = some none)
    (z_dict : PySem.W.nsIn K mainGlobals "dict" = some none)
    (z_all : PySem.W.nsIn K mainGlobals "all" = some none)
    (z_any : PySem.W.nsIn K mainGlobals "any" = some none)
    (z_repr : PySem.W.nsIn K mainGlobals "repr" = some none)
    (z_sorted : PySem.W.nsIn K mainGlobals "sorted" = some none)
    (z_enumerate : PySem.W.nsIn K mainGlobals "enumerate" = some none)
    (z_zip : PySem.W.nsIn K mainGlobals "zip" = some none)
    (e_InvalidItem : PySem.W.nsIn K mainGlobals "InvalidItem" = some (some (.ref c_InvalidItem))) (S_InvalidItem : XCl K c_InvalidItem ∧ ∀ (P : Program) (w : World) (mg : Str → Option Value) (base : Heap), mg "InvalidItem" = some (.ref c_InvalidItem) → Rz P w K mg base "InvalidItem" "value" c_InvalidItem)
    (e_InvalidName : PySem.W.nsIn K mainGlobals "InvalidName" = some (some (.ref c_InvalidName))) (S_InvalidName : XCl K c_InvalidName ∧ ∀ (P : Program) (w : World) (mg : Str → Option Value) (base : Heap), mg "InvalidName" = some (.ref c_InvalidName) → Rz P w K mg base "InvalidName" "value" c_InvalidName)
    (e_EmptyChannel : PySem.W.nsIn K mainGlobals "EmptyChannel" = some (some (.ref c_EmptyChannel))) (S_EmptyChannel : XCl K c_EmptyChannel ∧ ∀ (P : Program) (w : World) (mg : Str → Option Value) (base : Heap), mg "EmptyChannel" = some (.ref c_EmptyChannel) → Rz2 P w K mg base "EmptyChannel" "source" "goal" c_EmptyChannel)
    (v_CK : PySem.W.nsIn K mainGlobals "CONTROL_KINDS" = some (some (.ref ck)))
    (l_CK : K.lookup ck = some o_ck)
    (q_CK : KindsAt o_ck)
    (e_Channels : PySem.W.nsIn K mainGlobals "Channels" = some (some (.ref c_Channels)))
    (T_pg : PySem.W.plainGet K c_Channels Str.empty = true)
    (T_hd : PySem.W.hasDictIn K c_Channels = true)
    (T_po : PySem.W.plainOver K c_Channels = true)
    (T_sa : PySem.W.findIn K (.ref c_Channels) "__setattr__" = some (some (.builtin "object.__setattr__")))
    (T_mk : PySem.W.makesIn K c_Channels = true)
    (T_kc : PySem.W.keepIn K (.ref c_Channels) = true)
    (T_nheld : PySem.W.findIn K (.ref c_Channels) "held" = some none)
    (aTm_init : PySem.W.findIn K (.ref c_Channels) "__init__" = some (some (.ref fTm_init)))
    (iTm_init : PySem.W.isFn K (.ref fTm_init) = true)
    (lTm_init : K.lookup fTm_init = some ⟨ocTm_init, odTm_init, .func (PySem.W.fnOf "__init__" "Channels.__init__" (defArgs m_init) (defBody m_init) (defScope m_init) .none kVTm_init dcTm_init pmTm_init anTm_init cdTm_init ctTm_init), slTm_init⟩)
    (cTm_init : PySem.W.codeIn K cdTm_init "Channels.__init__" = true)
    (kTm_init : PySem.W.keepIn K (.ref fTm_init) = true)
    (aTm_len : PySem.W.findIn K (.ref c_Channels) "__len__" = some (some (.ref fTm_len)))
    (iTm_len : PySem.W.isFn K (.ref fTm_len) = true)
    (lTm_len : K.lookup fTm_len = some ⟨ocTm_len, odTm_len, .func (PySem.W.fnOf "__len__" "Channels.__len__" (defArgs m_len) (defBody m_len) (defScope m_len) .none kVTm_len dcTm_len pmTm_len anTm_len cdTm_len ctTm_len), slTm_len⟩)
    (cTm_len : PySem.W.codeIn K cdTm_len "Channels.__len__" = true)
    (kTm_len : PySem.W.keepIn K (.ref fTm_len) = true)
    (aTm_put : PySem.W.findIn K (.ref c_Channels) "put" = some (some (.ref fTm_put)))
    (iTm_put : PySem.W.isFn K (.ref fTm_put) = true)
    (lTm_put : K.lookup fTm_put = some ⟨ocTm_put, odTm_put, .func (PySem.W.fnOf "put" "Channels.put" (defArgs m_put) (defBody m_put) (defScope m_put) .none kVTm_put dcTm_put pmTm_put anTm_put cdTm_put ctTm_put), slTm_put⟩)
    (cTm_put : PySem.W.codeIn K cdTm_put "Channels.put" = true)
    (kTm_put : PySem.W.keepIn K (.ref fTm_put) = true)
    (aTm_take : PySem.W.findIn K (.ref c_Channels) "take" = some (some (.ref fTm_take)))
    (iTm_take : PySem.W.isFn K (.ref fTm_take) = true)
    (lTm_take : K.lookup fTm_take = some ⟨ocTm_take, odTm_take, .func (PySem.W.fnOf "take" "Channels.take" (defArgs m_take) (defBody m_take) (defScope m_take) .none kVTm_take dcTm_take pmTm_take anTm_take cdTm_take ctTm_take), slTm_take⟩)
    (cTm_take : PySem.W.codeIn K cdTm_take "Channels.take" = true)
    (kTm_take : PySem.W.keepIn K (.ref fTm_take) = true)
    (aTm_in_flight : PySem.W.findIn K (.ref c_Channels) "in_flight" = some (some (.ref fTm_in_flight)))
    (iTm_in_flight : PySem.W.isFn K (.ref fTm_in_flight) = true)
    (lTm_in_flight : K.lookup fTm_in_flight = some ⟨ocTm_in_flight, odTm_in_flight, .func (PySem.W.fnOf "in_flight" "Channels.in_flight" (defArgs m_in_flight) (defBody m_in_flight) (defScope m_in_flight) .none kVTm_in_flight dcTm_in_flight pmTm_in_flight anTm_in_flight cdTm_in_flight ctTm_in_flight), slTm_in_flight⟩)
    (cTm_in_flight : PySem.W.codeIn K cdTm_in_flight "Channels.in_flight" = true)
    (kTm_in_flight : PySem.W.keepIn K (.ref fTm_in_flight) = true)
    (aTm_busy : PySem.W.findIn K (.ref c_Channels) "busy" = some (some (.ref fTm_busy)))
    (iTm_busy : PySem.W.isFn K (.ref fTm_busy) = true)
    (lTm_busy : K.lookup fTm_busy = some ⟨ocTm_busy, odTm_busy, .func (PySem.W.fnOf "busy" "Channels.busy" (defArgs m_busy) (defBody m_busy) (defScope m_busy) .none kVTm_busy dcTm_busy pmTm_busy anTm_busy cdTm_busy ctTm_busy), slTm_busy⟩)
    (cTm_busy : PySem.W.codeIn K cdTm_busy "Channels.busy" = true)
    (kTm_busy : PySem.W.keepIn K (.ref fTm_busy) = true)
    (cg : PySem.W.specialIn K (.builtin "object.__class__") "__get__" = some (some (.builtin "getset_descriptor.__get__")))
    (ct : PySem.W.takesIn K (.builtin "object.__class__") = some true)
    (cl_N : PySem.W.clsIn K c_InvalidName = some cd_N)
    (tP_N : PySem.W.typeIn K (.ref c_InvalidName) = some (.type "type"))
    (cl_I : PySem.W.clsIn K c_InvalidItem = some cd_I)
    (tP_I : PySem.W.typeIn K (.ref c_InvalidItem) = some (.type "type"))
    (cl_E : PySem.W.clsIn K c_EmptyChannel = some cd_E)
    (tP_E : PySem.W.typeIn K (.ref c_EmptyChannel) = some (.type "type"))
    (e_InvalidText : PySem.W.nsIn K mainGlobals "InvalidText" = some (some (.ref c_InvalidText)))
    (cl_T : PySem.W.clsIn K c_InvalidText = some cd_T)
    (tP_T : PySem.W.typeIn K (.ref c_InvalidText) = some (.type "type"))
    (e_RelinkTreeError : PySem.W.nsIn K mainGlobals "RelinkTreeError" = some (some (.ref c_RelinkTreeError)))
    (cl_R : PySem.W.clsIn K c_RelinkTreeError = some cd_R)
    (tP_R : PySem.W.typeIn K (.ref c_RelinkTreeError) = some (.type "type"))
    (e_UnknownHost : PySem.W.nsIn K mainGlobals "UnknownHost" = some (some (.ref c_UnknownHost)))
    (cl_U : PySem.W.clsIn K c_UnknownHost = some cd_U)
    (tP_U : PySem.W.typeIn K (.ref c_UnknownHost) = some (.type "type"))
    (zz_sum : PySem.W.nsIn K mainGlobals "sum" = some none)
    (bP_R : PySem.W.subIn K (.ref c_RelinkTreeError) (.type "BaseException") = some true)
    (s_NR : PySem.W.subIn K (.ref c_InvalidName) (.ref c_RelinkTreeError) = some true)
    (s_IR : PySem.W.subIn K (.ref c_InvalidItem) (.ref c_RelinkTreeError) = some true)
    (s_ER : PySem.W.subIn K (.ref c_EmptyChannel) (.ref c_RelinkTreeError) = some false)
    (bP_E : PySem.W.subIn K (.ref c_EmptyChannel) (.type "BaseException") = some true)
    (s_EE : PySem.W.subIn K (.ref c_EmptyChannel) (.ref c_EmptyChannel) = some true)
    (ne_NI : c_InvalidName ≠ c_InvalidItem)
    (s_NI : PySem.W.subIn K (.ref c_InvalidName) (.ref c_InvalidItem) = some false)
    (ne_NT : c_InvalidName ≠ c_InvalidText)
    (s_NT : PySem.W.subIn K (.ref c_InvalidName) (.ref c_InvalidText) = some false)
    (sb_NLookupError : PySem.W.subIn K (.ref c_InvalidName) (.type "LookupError") = some false)
    (ne_IN : c_InvalidItem ≠ c_InvalidName)
    (s_IN : PySem.W.subIn K (.ref c_InvalidItem) (.ref c_InvalidName) = some false)
    (ne_IT : c_InvalidItem ≠ c_InvalidText)
    (s_IT : PySem.W.subIn K (.ref c_InvalidItem) (.ref c_InvalidText) = some false)
    (sb_ILookupError : PySem.W.subIn K (.ref c_InvalidItem) (.type "LookupError") = some false)
    (ne_EU : c_EmptyChannel ≠ c_UnknownHost)
    (s_EU : PySem.W.subIn K (.ref c_EmptyChannel) (.ref c_UnknownHost) = some false)
    (sb_EKeyError : PySem.W.subIn K (.ref c_EmptyChannel) (.type "KeyError") = some false)
    (sb_EIndexError : PySem.W.subIn K (.ref c_EmptyChannel) (.type "IndexError") = some false)
    (sb_ELookupError : PySem.W.subIn K (.ref c_EmptyChannel) (.type "LookupError") = some true)
    (f_Nvalue : PySem.W.findIn K (.ref c_InvalidName) "value" = some none)
    (f_Ivalue : PySem.W.findIn K (.ref c_InvalidItem) "value" = some none)
    (f_Esource : PySem.W.findIn K (.ref c_EmptyChannel) "source" = some none)
    (f_Egoal : PySem.W.findIn K (.ref c_EmptyChannel) "goal" = some none)
    (zz_LookupError : PySem.W.nsIn K mainGlobals "LookupError" = some none)
    (zz_KeyError : PySem.W.nsIn K mainGlobals "KeyError" = some none)
    (zz_IndexError : PySem.W.nsIn K mainGlobals "IndexError" = some none)
    (qc1 : cd_law_put_right = .ref c1)
    (lo1 : K.lookup c1 = some o_c1)
    (tb1 : codeTab o_c1 = some P1)
    (hd1 : PySem.W.codeHdIn K c1 P1 = true)
    (nk1 : K.lookup P1 = none)
    (te1 : h.get? P1 = some { cls := .none, data := .fields #[] })
    (qc2 : cd_law_take_right = .ref c2)
    (lo2 : K.lookup c2 = some o_c2)
    (tb2 : codeTab o_c2 = some P2)
    (hd2 : PySem.W.codeHdIn K c2 P2 = true)
    (nk2 : K.lookup P2 = none)
    (te2 : h.get? P2 = some { cls := .none, data := .fields #[] })
    (nP : P1 ≠ P2) :
    Gy.LawG l w K 13 63 "_law_script" mg fa h := by
  subst qc1
  subst qc2
  have e := hfa.symm.trans (PySem.W.mg_of X G a_law)
  cases e
  have F_is_integer_from := fun_mk (st := s_is_integer_from) l_is_integer_from co_is_integer_from k_is_integer_from
  have b_is_integer_from := F_is_integer_from.binds (ps := ["value", "least"]) fun _ _ _ _ _ _ us hl => match us, hl with | [_, _], _ => rfl
  have m_is_integer_from := PySem.W.mg_of X G a_is_integer_from
  have F_is_index := fun_mk (st := s_is_index) l_is_index co_is_index k_is_index
  have b_is_index := F_is_index.binds (ps := ["value", "size"]) fun _ _ _ _ _ _ us hl => match us, hl with | [_, _], _ => rfl
  have m_is_index := PySem.W.mg_of X G a_is_index
  have F_is_text_of := fun_mk (st := s_is_text_of) l_is_text_of co_is_text_of k_is_text_of
  have b_is_text_of := F_is_text_of.binds (ps := ["value", "characters", "longest"]) fun _ _ _ _ _ _ us hl => match us, hl with | [_, _, _], _ => rfl
  have m_is_text_of := PySem.W.mg_of X G a_is_text_of
  have F_is_host_name := fun_mk (st := s_is_host_name) l_is_host_name co_is_host_name k_is_host_name
  have b_is_host_name := F_is_host_name.binds (ps := ["value"]) fun _ _ _ _ _ _ us hl => match us, hl with | [_], _ => rfl
  have m_is_host_name := PySem.W.mg_of X G a_is_host_name
  have F_is_word := fun_mk (st := s_is_word) l_is_word co_is_word k_is_word
  have b_is_word := F_is_word.binds (ps := ["value"]) fun _ _ _ _ _ _ us hl => match us, hl with | [_], _ => rfl
  have m_is_word := PySem.W.mg_of X G a_is_word
  have F_is_relink_path := fun_mk (st := s_is_relink_path) l_is_relink_path co_is_relink_path k_is_relink_path
  have b_is_relink_path := F_is_relink_path.binds (ps := ["value"]) fun _ _ _ _ _ _ us hl => match us, hl with | [_], _ => rfl
  have m_is_relink_path := PySem.W.mg_of X G a_is_relink_path
  have F_is_cut_of := fun_mk (st := s_is_cut_of) l_is_cut_of co_is_cut_of k_is_cut_of
  have b_is_cut_of := F_is_cut_of.binds (ps := ["path", "value"]) fun _ _ _ _ _ _ us hl => match us, hl with | [_, _], _ => rfl
  have m_is_cut_of := PySem.W.mg_of X G a_is_cut_of
  have F_is_relink := fun_mk (st := s_is_relink) l_is_relink co_is_relink k_is_relink
  have b_is_relink := F_is_relink.binds (ps := ["value"]) fun _ _ _ _ _ _ us hl => match us, hl with | [_], _ => rfl
  have m_is_relink := PySem.W.mg_of X G a_is_relink
  have F_are_message_parts := fun_mk (st := s_are_message_parts) l_are_message_parts co_are_message_parts k_are_message_parts
  have b_are_message_parts := F_are_message_parts.binds (ps := ["parts"]) fun _ _ _ _ _ _ us hl => match us, hl with | [_], _ => rfl
  have m_are_message_parts := PySem.W.mg_of X G a_are_message_parts
  have F_is_control_kind := fun_mk (st := s_is_control_kind) l_is_control_kind co_is_control_kind k_is_control_kind
  have b_is_control_kind := F_is_control_kind.binds (ps := ["value"]) fun _ _ _ _ _ _ us hl => match us, hl with | [_], _ => rfl
  have m_is_control_kind := PySem.W.mg_of X G a_is_control_kind
  have F_is_item := fun_mk (st := s_is_item) l_is_item co_is_item k_is_item
  have b_is_item := F_is_item.binds (ps := ["value"]) fun _ _ _ _ _ _ us hl => match us, hl with | [_], _ => rfl
  have m_is_item := PySem.W.mg_of X G a_is_item
  have F_check_item := fun_mk (st := s_check_item) l_check_item co_check_item k_check_item
  have b_check_item := F_check_item.binds (ps := ["value"]) fun _ _ _ _ _ _ us hl => match us, hl with | [_], _ => rfl
  have m_check_item := PySem.W.mg_of X G a_check_item
  have F_law_pot := fun_mk (st := s_law_pot) l_law_pot co_law_pot k_law_pot
  have b_law_pot := F_law_pot.binds (ps := ["_law_script", "_law_k"]) fun _ _ _ _ _ _ us hl => match us, hl with | [_, _], _ => rfl
  have m_law_pot := PySem.W.mg_of X G a_law_pot
  have F_law_draw := fun_mk (st := s_law_draw) l_law_draw co_law_draw k_law_draw
  have b_law_draw := F_law_draw.binds (ps := ["_law_pot_here", "_law_many"]) fun _ _ _ _ _ _ us hl => match us, hl with | [_, _], _ => rfl
  have m_law_draw := PySem.W.mg_of X G a_law_draw
  have F_law_name := fun_mk (st := s_law_name) l_law_name co_law_name k_law_name
  have b_law_name := F_law_name.binds (ps := ["_law_pot_here", "_law_used"]) fun _ _ _ _ _ _ us hl => match us, hl with | [_, _], _ => rfl
  have m_law_name := PySem.W.mg_of X G a_law_name
  have F_law_word := fun_mk (st := s_law_word) l_law_word co_law_word k_law_word
  have b_law_word := F_law_word.binds (ps := ["_law_pot_here"]) fun _ _ _ _ _ _ us hl => match us, hl with | [_], _ => rfl
  have m_law_word := PySem.W.mg_of X G a_law_word
  have F_law_path := fun_mk (st := s_law_path) l_law_path co_law_path k_law_path
  have b_law_path := F_law_path.binds (ps := ["_law_pot_here"]) fun _ _ _ _ _ _ us hl => match us, hl with | [_], _ => rfl
  have m_law_path := PySem.W.mg_of X G a_law_path
  have F_law_entry := fun_mk (st := s_law_entry) l_law_entry co_law_entry k_law_entry
  have b_law_entry := F_law_entry.binds (ps := ["_law_pot_here"]) fun _ _ _ _ _ _ us hl => match us, hl with | [_], _ => rfl
  have m_law_entry := PySem.W.mg_of X G a_law_entry
  have F_law_is_name := fun_mk (st := s_law_is_name) l_law_is_name co_law_is_name k_law_is_name
  have b_law_is_name := F_law_is_name.binds (ps := ["_law_thing"]) fun _ _ _ _ _ _ us hl => match us, hl with | [_], _ => rfl
  have m_law_is_name := PySem.W.mg_of X G a_law_is_name
  have F_law_is_word := fun_mk (st := s_law_is_word) l_law_is_word co_law_is_word k_law_is_word
  have b_law_is_word := F_law_is_word.binds (ps := ["_law_thing"]) fun _ _ _ _ _ _ us hl => match us, hl with | [_], _ => rfl
  have m_law_is_word := PySem.W.mg_of X G a_law_is_word
  have F_law_is_whole := fun_mk (st := s_law_is_whole) l_law_is_whole co_law_is_whole k_law_is_whole
  have b_law_is_whole := F_law_is_whole.binds (ps := ["_law_thing", "_law_least", "_law_most"]) fun _ _ _ _ _ _ us hl => match us, hl with | [_, _, _], _ => rfl
  have m_law_is_whole := PySem.W.mg_of X G a_law_is_whole
  have F_law_is_relink := fun_mk (st := s_law_is_relink) l_law_is_relink co_law_is_relink k_law_is_relink
  have b_law_is_relink := F_law_is_relink.binds (ps := ["_law_path_here", "_law_cut"]) fun _ _ _ _ _ _ us hl => match us, hl with | [_, _], _ => rfl
  have m_law_is_relink := PySem.W.mg_of X G a_law_is_relink
  have F_law_is_entry := fun_mk (st := s_law_is_entry) l_law_is_entry co_law_is_entry k_law_is_entry
  have b_law_is_entry := F_law_is_entry.binds (ps := ["_law_thing"]) fun _ _ _ _ _ _ us hl => match us, hl with | [_], _ => rfl
  have m_law_is_entry := PySem.W.mg_of X G a_law_is_entry
  have F_law_odd := fun_mk (st := s_law_odd) l_law_odd co_law_odd k_law_odd
  have b_law_odd := F_law_odd.binds (ps := ["_law_pot_here"]) fun _ _ _ _ _ _ us hl => match us, hl with | [_], _ => rfl
  have m_law_odd := PySem.W.mg_of X G a_law_odd
  have F_law_other_path := fun_mk (st := s_law_other_path) l_law_other_path co_law_other_path k_law_other_path
  have b_law_other_path := F_law_other_path.binds (ps := ["_law_pot_here", "_law_path_here"]) fun _ _ _ _ _ _ us hl => match us, hl with | [_, _], _ => rfl
  have m_law_other_path := PySem.W.mg_of X G a_law_other_path
  have F_law_spoilt := fun_mk (st := s_law_spoilt) l_law_spoilt co_law_spoilt k_law_spoilt
  have b_law_spoilt := F_law_spoilt.binds (ps := ["_law_pot_here", "_law_entry_here"]) fun _ _ _ _ _ _ us hl => match us, hl with | [_, _], _ => rfl
  have m_law_spoilt := PySem.W.mg_of X G a_law_spoilt
  have F_law_held := fun_mk (st := s_law_held) l_law_held co_law_held k_law_held
  have b_law_held := F_law_held.binds (ps := ["_law_rows", "_law_src", "_law_dst"]) fun _ _ _ _ _ _ us hl => match us, hl with | [_, _, _], _ => rfl
  have m_law_held := PySem.W.mg_of X G a_law_held
  have F_law_stands := fun_mk (st := s_law_stands) l_law_stands co_law_stands k_law_stands
  have b_law_stands := F_law_stands.binds (ps := ["_law_channels", "_law_rows", "_law_names_here"]) fun _ _ _ _ _ _ us hl => match us, hl with | [_, _, _], _ => rfl
  have m_law_stands := PySem.W.mg_of X G a_law_stands
  have F_law_put_in := fun_mk (st := s_law_put_in) l_law_put_in co_law_put_in k_law_put_in
  have b_law_put_in := F_law_put_in.binds (ps := ["_law_rows", "_law_src", "_law_dst", "_law_entry_here"]) fun _ _ _ _ _ _ us hl => match us, hl with | [_, _, _, _], _ => rfl
  have m_law_put_in := PySem.W.mg_of X G a_law_put_in
  have F_law_taken := fun_mk (st := s_law_taken) l_law_taken co_law_taken k_law_taken
  have b_law_taken := F_law_taken.binds (ps := ["_law_rows", "_law_src", "_law_dst"]) fun _ _ _ _ _ _ us hl => match us, hl with | [_, _, _], _ => rfl
  have m_law_taken := PySem.W.mg_of X G a_law_taken
  have F_law_names := fun_mk (st := s_law_names) l_law_names co_law_names k_law_names
  have b_law_names := F_law_names.binds (ps := ["_law_pot_here", "_law_many"]) fun _ _ _ _ _ _ us hl => match us, hl with | [_, _], _ => rfl
  have m_law_names := PySem.W.mg_of X G a_law_names
  have F_law_ends := fun_mk (st := s_law_ends) l_law_ends co_law_ends k_law_ends
  have b_law_ends := F_law_ends.binds (ps := ["_law_pot_here", "_law_names_here"]) fun _ _ _ _ _ _ us hl => match us, hl with | [_, _], _ => rfl
  have m_law_ends := PySem.W.mg_of X G a_law_ends
  have F_law_result := fun_mk (st := s_law_result) l_law_result co_law_result k_law_result
  have b_law_result := F_law_result.binds (ps := ["_law_call"]) fun _ _ _ _ _ _ us hl => match us, hl with | [_], _ => rfl
  have m_law_result := PySem.W.mg_of X G a_law_result
  have F_law_due_put := fun_mk (st := s_law_due_put) l_law_due_put co_law_due_put k_law_due_put
  have b_law_due_put := F_law_due_put.binds (ps := ["_law_src", "_law_dst", "_law_entry_here"]) fun _ _ _ _ _ _ us hl => match us, hl with | [_, _, _], _ => rfl
  have m_law_due_put := PySem.W.mg_of X G a_law_due_put
  have F_law_put_right := fun_mk (st := s_law_put_right) l_law_put_right co_law_put_right k_law_put_right
  have b_law_put_right := F_law_put_right.binds (ps := ["_law_pot_here", "_law_channels", "_law_rows", "_law_names_here"]) fun _ _ _ _ _ _ us hl => match us, hl with | [_, _, _, _], _ => rfl
  have m_law_put_right := PySem.W.mg_of X G a_law_put_right
  have F_law_take_right := fun_mk (st := s_law_take_right) l_law_take_right co_law_take_right k_law_take_right
  have b_law_take_right := F_law_take_right.binds (ps := ["_law_pot_here", "_law_channels", "_law_rows", "_law_names_here"]) fun _ _ _ _ _ _ us hl => match us, hl with | [_, _, _, _], _ => rfl
  have m_law_take_right := PySem.W.mg_of X G a_law_take_right
  have F_law := fun_mk (st := s_law) l_law co_law k_law
  have b_law := F_law.binds (ps := ["_law_script"]) fun _ _ _ _ _ _ us hl => match us, hl with | [_], _ => rfl
  have m_law := PySem.W.mg_of X G a_law
  have w_LETTERS := PySem.W.mg_of X G v_LETTERS
  have w_DIGITS := PySem.W.mg_of X G v_DIGITS
  have w_LONGEST_NAME := PySem.W.mg_of X G v_LONGEST_NAME
  have w_LONGEST_WORD := PySem.W.mg_of X G v_LONGEST_WORD
  have w_SHORTEST_PATH := PySem.W.mg_of X G v_SHORTEST_PATH
  have w_MESSAGE := PySem.W.mg_of X G v_MESSAGE
  have w_BYE := PySem.W.mg_of X G v_BYE
  have w_BITS := PySem.W.mg_of X G v_BITS
  have Y : Bn mg := ⟨PySem.W.mg_none_of X G z_len, PySem.W.mg_none_of X G z_range, PySem.W.mg_none_of X G z_abs, PySem.W.mg_none_of X G z_max, PySem.W.mg_none_of X G z_min, PySem.W.mg_none_of X G z_divmod, PySem.W.mg_none_of X G z_isinstance, PySem.W.mg_none_of X G z_str, PySem.W.mg_none_of X G z_int, PySem.W.mg_none_of X G z_bool, PySem.W.mg_none_of X G z_tuple, PySem.W.mg_none_of X G z_list, PySem.W.mg_none_of X G z_set, PySem.W.mg_none_of X G z_dict, PySem.W.mg_none_of X G z_all, PySem.W.mg_none_of X G z_any, PySem.W.mg_none_of X G z_repr, PySem.W.mg_none_of X G z_sorted, PySem.W.mg_none_of X G z_enumerate, PySem.W.mg_none_of X G z_zip⟩
  refine ⟨PySem.W.fnOf "law" "law" (defArgs s_law) (defBody s_law) (defScope s_law) .none kV_law dc_law pm_law an_law cd_law ct_law, [(c1, P1), (c2, P2)], spLaw (TT P1 P2) K, two_of te1 te2, two_of nk1 nk2, two_of (PySem.W.codeHd_of_K X hd1) (PySem.W.codeHd_of_K X hd2), fun s v => .of_eq rfl, fun H a ns hl he hS => ⟨a, ns, rfl, hS, hl, tt_tabs he, fun _ => rfl⟩, fun base _ _ TB => ?_⟩
  have R_InvalidItem := S_InvalidItem.2 l.prog w mg base (PySem.W.mg_of X G e_InvalidItem)
  have R_InvalidName := S_InvalidName.2 l.prog w mg base (PySem.W.mg_of X G e_InvalidName)
  have R_EmptyChannel := S_EmptyChannel.2 l.prog w mg base (PySem.W.mg_of X G e_EmptyChannel)
  have TC : TxtC mg := ⟨⟨_, w_LETTERS⟩, ⟨_, w_LONGEST_NAME⟩⟩
  have TW : TxtW mg := ⟨⟨_, w_DIGITS⟩, ⟨_, w_LONGEST_WORD⟩⟩
  have TI : TxtI mg := ⟨⟨_, w_MESSAGE⟩, ⟨_, w_BYE⟩, ⟨_, w_BITS⟩⟩
  have TK : TxtK K mg := ⟨ck, o_ck, PySem.W.mg_of X G v_CK, l_CK, q_CK⟩
  have TCl : Cc K c_Channels := ⟨⟨T_pg, T_hd, T_po, T_sa⟩, T_nheld⟩
  have gT := PySem.W.mg_of X G e_Channels
  have gsum := (PySem.W.mg_none_of X G zz_sum)
  have XX : X25 K c_InvalidName c_InvalidItem c_EmptyChannel c_InvalidText c_RelinkTreeError c_UnknownHost := ⟨S_InvalidName.1, S_InvalidItem.1, S_EmptyChannel.1, (exm_of bP_R cl_R tP_R s_NR), (exm_of bP_R cl_R tP_R s_IR), (exm_of bP_R cl_R tP_R s_ER), (exm_of bP_E cl_E tP_E s_EE), kit_self, (kit_sub ne_NI cl_I tP_I s_NI), (kit_sub ne_NT cl_T tP_T s_NT), (kit_bt (by decide +kernel) sb_NLookupError), (kit_sub ne_IN cl_N tP_N s_IN), kit_self, (kit_sub ne_IT cl_T tP_T s_IT), (kit_bt (by decide +kernel) sb_ILookupError), (kit_sub ne_EU cl_U tP_U s_EU), (kit_bt (by decide +kernel) sb_EKeyError), (kit_bt (by decide +kernel) sb_EIndexError), (kit_bt (by decide +kernel) sb_ELookupError), f_Nvalue, f_Ivalue, f_Esource, f_Egoal⟩
  have FTm_init := fun_mk (st := m_init) lTm_init cTm_init kTm_init
  have bTm_init := FTm_init.binds (ps := ["self"]) fun _ _ _ _ _ _ us hl => match us, hl with | [_], _ => rfl
  have MTm_init : Meth K c_Channels "__init__" fTm_init := ⟨aTm_init, iTm_init, kTm_init⟩
  have FTm_len := fun_mk (st := m_len) lTm_len cTm_len kTm_len
  have bTm_len := FTm_len.binds (ps := ["self"]) fun _ _ _ _ _ _ us hl => match us, hl with | [_], _ => rfl
  have MTm_len : Meth K c_Channels "__len__" fTm_len := ⟨aTm_len, iTm_len, kTm_len⟩
  have FTm_put := fun_mk (st := m_put) lTm_put cTm_put kTm_put
  have bTm_put := FTm_put.binds (ps := ["self", "source", "goal", "item"]) fun _ _ _ _ _ _ us hl => match us, hl with | [_, _, _, _], _ => rfl
  have MTm_put : Meth K c_Channels "put" fTm_put := ⟨aTm_put, iTm_put, kTm_put⟩
  have FTm_take := fun_mk (st := m_take) lTm_take cTm_take kTm_take
  have bTm_take := FTm_take.binds (ps := ["self", "source", "goal"]) fun _ _ _ _ _ _ us hl => match us, hl with | [_, _, _], _ => rfl
  have MTm_take : Meth K c_Channels "take" fTm_take := ⟨aTm_take, iTm_take, kTm_take⟩
  have FTm_in_flight := fun_mk (st := m_in_flight) lTm_in_flight cTm_in_flight kTm_in_flight
  have bTm_in_flight := FTm_in_flight.binds (ps := ["self", "source", "goal"]) fun _ _ _ _ _ _ us hl => match us, hl with | [_, _, _], _ => rfl
  have MTm_in_flight : Meth K c_Channels "in_flight" fTm_in_flight := ⟨aTm_in_flight, iTm_in_flight, kTm_in_flight⟩
  have FTm_busy := fun_mk (st := m_busy) lTm_busy cTm_busy kTm_busy
  have bTm_busy := FTm_busy.binds (ps := ["self"]) fun _ _ _ _ _ _ us hl => match us, hl with | [_], _ => rfl
  have MTm_busy : Meth K c_Channels "busy" fTm_busy := ⟨aTm_busy, iTm_busy, kTm_busy⟩
  have MKT : Mk K c_Channels fTm_init := ⟨T_mk, aTm_init, iTm_init, T_kc⟩
  have G_is_integer_from := (⟨⟨_, _, m_is_integer_from, k_is_integer_from, b_is_integer_from, ok_from F_is_integer_from Y⟩⟩ : Fk l.prog w K mg base _ _ "is_integer_from" _ _)
  have G_is_index := (⟨⟨_, _, m_is_index, k_is_index, b_is_index, ok_idx F_is_index G_is_integer_from⟩⟩ : Fk l.prog w K mg base _ _ "is_index" _ _)
  have G_is_text_of := (⟨⟨_, _, m_is_text_of, k_is_text_of, b_is_text_of, ok_text F_is_text_of Y⟩⟩ : Fk l.prog w K mg base _ _ "is_text_of" _ _)
  have G_is_host_name := (⟨⟨_, _, m_is_host_name, k_is_host_name, b_is_host_name, ok_host F_is_host_name TC G_is_text_of⟩⟩ : Fk l.prog w K mg base _ _ "is_host_name" _ _)
  have G_is_word := (⟨⟨_, _, m_is_word, k_is_word, b_is_word, ok_word F_is_word TC TW G_is_text_of⟩⟩ : Fk l.prog w K mg base _ _ "is_word" _ _)
  have G_is_relink_path := (⟨⟨_, _, m_is_relink_path, k_is_relink_path, b_is_relink_path, ok_path F_is_relink_path Y ⟨_, w_SHORTEST_PATH⟩ G_is_host_name⟩⟩ : Fk l.prog w K mg base _ _ "is_relink_path" _ _)
  have G_is_cut_of := (⟨⟨_, _, m_is_cut_of, k_is_cut_of, b_is_cut_of, ok_cut F_is_cut_of Y G_is_index⟩⟩ : Fk l.prog w K mg base _ _ "is_cut_of" _ _)
  have G_is_relink := (⟨⟨_, _, m_is_relink, k_is_relink, b_is_relink, ok_rel F_is_relink Y G_is_relink_path G_is_cut_of⟩⟩ : Fk l.prog w K mg base _ _ "is_relink" _ _)
  have G_are_message_parts := (⟨⟨_, _, m_are_message_parts, k_are_message_parts, b_are_message_parts, ok_msg F_are_message_parts Y TI G_is_host_name G_is_word G_is_index⟩⟩ : Fk l.prog w K mg base _ _ "are_message_parts" _ _)
  have G_is_control_kind := (⟨⟨_, _, m_is_control_kind, k_is_control_kind, b_is_control_kind, ok_kind F_is_control_kind Y TK⟩⟩ : Fk l.prog w K mg base _ _ "is_control_kind" _ _)
  have G_is_item := (⟨⟨_, _, m_is_item, k_is_item, b_is_item, ok_item F_is_item Y TI G_are_message_parts G_is_control_kind G_is_relink⟩⟩ : Fk l.prog w K mg base _ _ "is_item" _ _)
  have G_check_item := (⟨⟨_, _, m_check_item, k_check_item, b_check_item, ok_chk F_check_item R_InvalidItem G_is_item⟩⟩ : Fk l.prog w K mg base _ _ "check_item" _ _)
  have OKI := ok_cinit (C := c_Channels) (P := l.prog) (w := w) (base := base) FTm_init Y TCl
  have OKL := ok_clen (C := c_Channels) (P := l.prog) (w := w) (base := base) FTm_len Y TCl
  have M_len := (⟨⟨_, _, MTm_len, bTm_len, OKL⟩⟩ : Fm l.prog w K mg base _ _ c_Channels "__len__" _ _)
  have M_busy := (⟨⟨_, _, MTm_busy, bTm_busy, ok_busy FTm_busy Y TCl⟩⟩ : Fm l.prog w K mg base _ _ c_Channels "busy" _ _)
  have M_in_flight := (⟨⟨_, _, MTm_in_flight, bTm_in_flight, ok_flight FTm_in_flight Y TCl G_is_host_name⟩⟩ : Fm l.prog w K mg base _ _ c_Channels "in_flight" _ _)
  have M_put := (⟨⟨_, _, MTm_put, bTm_put, ok_put FTm_put Y TCl R_InvalidName G_is_host_name G_check_item⟩⟩ : Fm l.prog w K mg base _ _ c_Channels "put" _ _)
  have OKP := ok_putX (C := c_Channels) (P := l.prog) (w := w) (base := base) FTm_put Y TCl R_InvalidName G_is_host_name G_check_item
  have FMP : FmP l.prog w K mg base c_Channels c_InvalidName c_InvalidItem := ⟨⟨_, _, MTm_put, bTm_put, OKP⟩⟩
  have FMPK : FmPK l.prog w K mg base c_Channels c_InvalidName c_InvalidItem := ⟨⟨_, _, _, MTm_put, kbn_back FTm_put (ps := ["self", "source", "goal", "item"]) (ks := ["item", "goal", "source"]) (n := 1) (fun _ _ _ _ _ _ us ws h1 h2 => match us, ws, h1, h2 with | [_], [_, _, _], _, _ => rfl), OKP⟩⟩
  have OKF := ok_flightX (C := c_Channels) (P := l.prog) (w := w) (base := base) FTm_in_flight Y TCl G_is_host_name
  have FMI := (⟨⟨_, _, MTm_in_flight, bTm_in_flight, OKF⟩⟩ : Fm l.prog w K mg base _ _ c_Channels "in_flight" _ _)
  have FMIB := (⟨⟨_, _, _, MTm_in_flight, kbn_back FTm_in_flight (ps := ["self", "source", "goal"]) (ks := ["goal", "source"]) (n := 1) (fun _ _ _ _ _ _ us ws h1 h2 => match us, ws, h1, h2 with | [_], [_, _], _, _ => rfl), OKF⟩⟩ : FmK l.prog w K mg base _ _ c_Channels "in_flight" _ ["goal", "source"] gBk _)
  have OKT := ok_takeX (C := c_Channels) (P := l.prog) (w := w) (base := base) FTm_take Y TCl R_EmptyChannel FMI
  have FMT := (⟨⟨_, _, MTm_take, bTm_take, OKT⟩⟩ : Fm l.prog w K mg base _ _ c_Channels "take" _ _)
  have FMTB := (⟨⟨_, _, _, MTm_take, kbn_back FTm_take (ps := ["self", "source", "goal"]) (ks := ["goal", "source"]) (n := 1) (fun _ _ _ _ _ _ us ws h1 h2 => match us, ws, h1, h2 with | [_], [_, _], _, _ => rfl), OKT⟩⟩ : FmK l.prog w K mg base _ _ c_Channels "take" _ ["goal", "source"] gBk _)
  have FMTS := (⟨⟨_, _, _, MTm_take, kbn_fwd FTm_take (ps := ["self", "source", "goal"]) (ks := ["source", "goal"]) (n := 1) (fun _ _ _ _ _ _ us ws h1 h2 => match us, ws, h1, h2 with | [_], [_, _], _, _ => rfl), OKT⟩⟩ : FmK l.prog w K mg base _ _ c_Channels "take" _ ["source", "goal"] gFw _)
  have FTP : FunT K "_law_put_right" "_law_put_right" s_law_put_right f_law_put_right _ (.ref c1) := ⟨⟨_, _, _, _, _, _, _, _, rfl, l_law_put_right, co_law_put_right⟩⟩
  have FTT : FunT K "_law_take_right" "_law_take_right" s_law_take_right f_law_take_right _ (.ref c2) := ⟨⟨_, _, _, _, _, _, _, _, rfl, l_law_take_right, co_law_take_right⟩⟩
  have G_law_pot := (⟨⟨_, _, m_law_pot, k_law_pot, b_law_pot, ok_pot F_law_pot Y⟩⟩ : Fk l.prog w K mg base _ _ "_law_pot" _ _)
  have G_law_draw := (⟨⟨_, _, m_law_draw, k_law_draw, b_law_draw, ok_draw F_law_draw Y⟩⟩ : Fk l.prog w K mg base _ _ "_law_draw" _ _)
  have G_law_name := (⟨⟨_, _, m_law_name, k_law_name, b_law_name, ok_name F_law_name Y G_law_draw⟩⟩ : Fk l.prog w K mg base _ _ "_law_name" _ _)
  have G_law_word := (⟨⟨_, _, m_law_word, k_law_word, b_law_word, ok_wordD F_law_word Y G_law_draw⟩⟩ : Fk l.prog w K mg base _ _ "_law_word" _ _)
  have G_law_path := (⟨⟨_, _, m_law_path, k_law_path, b_law_path, ok_pathD F_law_path Y G_law_draw G_law_name⟩⟩ : Fk l.prog w K mg base _ _ "_law_path" _ _)
  have G_law_entry := (⟨⟨_, _, m_law_entry, k_law_entry, b_law_entry, ok_entD F_law_entry Y G_law_draw G_law_name G_law_word G_law_path⟩⟩ : Fk l.prog w K mg base _ _ "_law_entry" _ _)
  have G_law_is_name := (⟨⟨_, _, m_law_is_name, k_law_is_name, b_law_is_name, ok_isName F_law_is_name Y⟩⟩ : Fk l.prog w K mg base _ _ "_law_is_name" _ _)
  have G_law_is_word := (⟨⟨_, _, m_law_is_word, k_law_is_word, b_law_is_word, ok_isWord F_law_is_word Y⟩⟩ : Fk l.prog w K mg base _ _ "_law_is_word" _ _)
  have G_law_is_whole := (⟨⟨_, _, m_law_is_whole, k_law_is_whole, b_law_is_whole, ok_whole F_law_is_whole Y⟩⟩ : Fk l.prog w K mg base _ _ "_law_is_whole" _ _)
  have G_law_is_relink := (⟨⟨_, _, m_law_is_relink, k_law_is_relink, b_law_is_relink, ok_isRel F_law_is_relink Y G_law_is_name G_law_is_whole⟩⟩ : Fk l.prog w K mg base _ _ "_law_is_relink" _ _)
  have G_law_is_entry := (⟨⟨_, _, m_law_is_entry, k_law_is_entry, b_law_is_entry, ok_ent F_law_is_entry Y G_law_is_name G_law_is_word G_law_is_whole G_law_is_relink⟩⟩ : Fk l.prog w K mg base _ _ "_law_is_entry" _ _)
  have G_law_odd := (⟨⟨_, _, m_law_odd, k_law_odd, b_law_odd, ok_odd F_law_odd Y G_law_draw⟩⟩ : Fk l.prog w K mg base _ _ "_law_odd" _ _)
  have G_law_other_path := (⟨⟨_, _, m_law_other_path, k_law_other_path, b_law_other_path, ok_other F_law_other_path Y G_law_draw G_law_odd⟩⟩ : Fk l.prog w K mg base _ _ "_law_other_path" _ _)
  have G_law_spoilt := (⟨⟨_, _, m_law_spoilt, k_law_spoilt, b_law_spoilt, ok_spoil F_law_spoilt Y G_law_draw G_law_odd G_law_other_path⟩⟩ : Fk l.prog w K mg base _ _ "_law_spoilt" _ _)
  have G_law_held := (⟨⟨_, _, m_law_held, k_law_held, b_law_held, ok_held F_law_held Y⟩⟩ : Fk l.prog w K mg base _ _ "_law_held" _ _)
  have G_law_stands := (⟨⟨_, _, m_law_stands, k_law_stands, b_law_stands, ok_stands F_law_stands Y gsum TCl G_law_held M_busy M_len M_in_flight⟩⟩ : Fg l.prog w K mg base _ _ "_law_stands" _ _)
  have G_law_put_in := (⟨⟨_, _, m_law_put_in, k_law_put_in, b_law_put_in, ok_putin F_law_put_in G_law_held⟩⟩ : Fk l.prog w K mg base _ _ "_law_put_in" _ _)
  have G_law_taken := (⟨⟨_, _, m_law_taken, k_law_taken, b_law_taken, ok_taken F_law_taken Y⟩⟩ : Fk l.prog w K mg base _ _ "_law_taken" _ _)
  have G_law_names := (⟨⟨_, _, m_law_names, k_law_names, b_law_names, ok_nms F_law_names Y G_law_name⟩⟩ : Fk l.prog w K mg base _ _ "_law_names" _ _)
  have G_law_ends := (⟨⟨_, _, m_law_ends, k_law_ends, b_law_ends, ok_ends F_law_ends Y G_law_draw⟩⟩ : Fk l.prog w K mg base _ _ "_law_ends" _ _)
  have RF : ResF K mg c_InvalidName c_InvalidItem c_EmptyChannel c_InvalidText c_RelinkTreeError c_UnknownHost := ⟨⟨_, _, m_law_result, k_law_result, b_law_result, F_law_result⟩, ⟨cg, ct⟩, XX, (PySem.W.mg_of X G e_InvalidName), (PySem.W.mg_of X G e_InvalidItem), (PySem.W.mg_of X G e_EmptyChannel), (PySem.W.mg_of X G e_InvalidText), (PySem.W.mg_of X G e_RelinkTreeError), (PySem.W.mg_of X G e_UnknownHost), (PySem.W.mg_none_of X G zz_LookupError), (PySem.W.mg_none_of X G zz_KeyError), (PySem.W.mg_none_of X G zz_IndexError)⟩
  have G_law_due_put := (⟨⟨_, _, m_law_due_put, k_law_due_put, b_law_due_put, ok_dueP F_law_due_put Y G_law_is_name G_law_is_entry⟩⟩ : Fg l.prog w K mg base _ _ "_law_due_put" _ _)
  have G_law_put_right := (⟨⟨_, _, m_law_put_right, k_law_put_right, b_law_put_right, ok_putR FTP Y TCl RF (TB (c1, P1) List.mem_cons_self) tt_1 (tu_1 nP) FMP FMPK G_law_draw G_law_ends G_law_odd G_law_entry G_law_spoilt G_law_due_put G_law_put_in⟩⟩ : Fg l.prog w K mg base _ _ "_law_put_right" _ _)
  have G_law_take_right := (⟨⟨_, _, m_law_take_right, k_law_take_right, b_law_take_right, ok_takeR FTT Y TCl RF (TB (c2, P2) (List.mem_cons_of_mem _ List.mem_cons_self)) tt_2 (tu_2 nP) FMT FMTB FMTS FMI FMIB G_law_draw G_law_ends G_law_odd G_law_is_name G_law_taken⟩⟩ : Fg l.prog w K mg base _ _ "_law_take_right" _ _)
  exact ok_law (T := TT P1 P2) F_law Y TCl gT G_law_pot G_law_draw G_law_names G_law_ends G_law_entry G_law_put_in M_put G_law_stands G_law_put_right G_law_take_right ⟨_, _, MKT, bTm_init, OKI⟩
end My

open PySem PySem.W PyProof.Rows in
set_option maxRecDepth 100000 in
set_option maxHeartbeats 0 in
theorem PySem.Challenge.cw_relinktree_k25_channels_refused_in_order_holds : PySem.Challenge.rw_relinktree_k25_channels_refused_in_order.Holds := by
  w_on; o_law; k_head; (case hw => w_witness2)
  k_fill
  refine Gy.walk_gT (l := PySem.Challenge.rw_relinktree_k25_channels_refused_in_order) (n := 63) (k := 13) (x := "_law_script") rfl (by decide) rfl ⟨rfl, by decide, by decide⟩ (fun w h Y => PySem.W.km_in_of Y) ?F
  case F =>
    intro w mg fa h YY KX G hmg
    refine' My.all_mk KX G hmg ?a_is_integer_from ?l_is_integer_from ?co_is_integer_from ?k_is_integer_from ?a_is_index ?l_is_index ?co_is_index ?k_is_index ?a_is_text_of ?l_is_text_of ?co_is_text_of ?k_is_text_of ?a_is_host_name ?l_is_host_name ?co_is_host_name ?k_is_host_name ?a_is_word ?l_is_word ?co_is_word ?k_is_word ?a_is_relink_path ?l_is_relink_path ?co_is_relink_path ?k_is_relink_path ?a_is_cut_of ?l_is_cut_of ?co_is_cut_of ?k_is_cut_of ?a_is_relink ?l_is_relink ?co_is_relink ?k_is_relink ?a_are_message_parts ?l_are_message_parts ?co_are_message_parts ?k_are_message_parts ?a_is_control_kind ?l_is_control_kind ?co_is_control_kind ?k_is_control_kind ?a_is_item ?l_is_item ?co_is_item ?k_is_item ?a_check_item ?l_check_item ?co_check_item ?k_check_item ?a_law_pot ?l_law_pot ?co_law_pot ?k_law_pot ?a_law_draw ?l_law_draw ?co_law_draw ?k_law_draw ?a_law_name ?l_law_name ?co_law_name ?k_law_name ?a_law_word ?l_law_word ?co_law_word ?k_law_word ?a_law_path ?l_law_path ?co_law_path ?k_law_path ?a_law_entry ?l_law_entry ?co_law_entry ?k_law_entry ?a_law_is_name ?l_law_is_name ?co_law_is_name ?k_law_is_name ?a_law_is_word ?l_law_is_word ?co_law_is_word ?k_law_is_word ?a_law_is_whole ?l_law_is_whole ?co_law_is_whole ?k_law_is_whole ?a_law_is_relink ?l_law_is_relink ?co_law_is_relink ?k_law_is_relink ?a_law_is_entry ?l_law_is_entry ?co_law_is_entry ?k_law_is_entry ?a_law_odd ?l_law_odd ?co_law_odd ?k_law_odd ?a_law_other_path ?l_law_other_path ?co_law_other_path ?k_law_other_path ?a_law_spoilt ?l_law_spoilt ?co_law_spoilt ?k_law_spoilt ?a_law_held ?l_law_held ?co_law_held ?k_law_held ?a_law_stands ?l_law_stands ?co_law_stands ?k_law_stands ?a_law_put_in ?l_law_put_in ?co_law_put_in ?k_law_put_in ?a_law_taken ?l_law_taken ?co_law_taken ?k_law_taken ?a_law_names ?l_law_names ?co_law_names ?k_law_names ?a_law_ends ?l_law_ends ?co_law_ends ?k_law_ends ?a_law_result ?l_law_result ?co_law_result ?k_law_result ?a_law_due_put ?l_law_due_put ?co_law_due_put ?k_law_due_put ?a_law_put_right ?l_law_put_right ?co_law_put_right ?k_law_put_right ?a_law_take_right ?l_law_take_right ?co_law_take_right ?k_law_take_right ?a_law ?l_law ?co_law ?k_law ?v_LETTERS ?v_DIGITS ?v_LONGEST_NAME ?v_LONGEST_WORD ?v_SHORTEST_PATH ?v_MESSAGE ?v_BYE ?v_BITS ?z_len ?z_range ?z_abs ?z_max ?z_min ?z_divmod ?z_isinstance ?z_str ?z_int ?z_bool ?z_tuple ?z_list ?z_set ?z_dict ?z_all ?z_any ?z_repr ?z_sorted ?z_enumerate ?z_zip ?e_InvalidItem ?S_InvalidItem ?e_InvalidName ?S_InvalidName ?e_EmptyChannel ?S_EmptyChannel ?v_CK ?l_CK ?q_CK ?e_Channels ?T_pg ?T_hd ?T_po ?T_sa ?T_mk ?T_kc ?T_nheld ?aTm_init ?iTm_init ?lTm_init ?cTm_init ?kTm_init ?aTm_len ?iTm_len ?lTm_len ?cTm_len ?kTm_len ?aTm_put ?iTm_put ?lTm_put ?cTm_put ?kTm_put ?aTm_take ?iTm_take ?lTm_take ?cTm_take ?kTm_take ?aTm_in_flight ?iTm_in_flight ?lTm_in_flight ?cTm_in_flight ?kTm_in_flight ?aTm_busy ?iTm_busy ?lTm_busy ?cTm_busy ?kTm_busy ?cg ?ct ?cl_N ?tP_N ?cl_I ?tP_I ?cl_E ?tP_E ?e_InvalidText ?cl_T ?tP_T ?e_RelinkTreeError ?cl_R ?tP_R ?e_UnknownHost ?cl_U ?tP_U ?zz_sum ?bP_R ?s_NR ?s_IR ?s_ER ?bP_E ?s_EE ?ne_NI ?s_NI ?ne_NT ?s_NT ?sb_NLookupError ?ne_IN ?s_IN ?ne_IT ?s_IT ?sb_ILookupError ?ne_EU ?s_EU ?sb_EKeyError ?sb_EIndexError ?sb_ELookupError ?f_Nvalue ?f_Ivalue ?f_Esource ?f_Egoal ?zz_LookupError ?zz_KeyError ?zz_IndexError ?qc1 ?lo1 ?tb1 ?hd1 ?nk1 ?te1 ?qc2 ?lo2 ?tb2 ?hd2 ?nk2 ?te2 ?nP
    (case a_is_integer_from => k_is)
    (case l_is_integer_from => k_is)
    (case co_is_integer_from => k_is)
    (case k_is_integer_from => k_is)
    (case a_is_index => k_is)
    (case l_is_index => k_is)
    (case co_is_index => k_is)
    (case k_is_index => k_is)
    (case a_is_text_of => k_is)
    (case l_is_text_of => k_is)
    (case co_is_text_of => k_is)
    (case k_is_text_of => k_is)
    (case a_is_host_name => k_is)
    (case l_is_host_name => k_is)
    (case co_is_host_name => k_is)
    (case k_is_host_name => k_is)
    (case a_is_word => k_is)
    (case l_is_word => k_is)
    (case co_is_word => k_is)
    (case k_is_word => k_is)
    (case a_is_relink_path => k_is)
    (case l_is_relink_path => k_is)
    (case co_is_relink_path => k_is)
    (case k_is_relink_path => k_is)
    (case a_is_cut_of => k_is)
    (case l_is_cut_of => k_is)
    (case co_is_cut_of => k_is)
    (case k_is_cut_of => k_is)
    (case a_is_relink => k_is)
    (case l_is_relink => k_is)
    (case co_is_relink => k_is)
    (case k_is_relink => k_is)
    (case a_are_message_parts => k_is)
    (case l_are_message_parts => k_is)
    (case co_are_message_parts => k_is)
    (case k_are_message_parts => k_is)
    (case a_is_control_kind => k_is)
    (case l_is_control_kind => k_is)
    (case co_is_control_kind => k_is)
    (case k_is_control_kind => k_is)
    (case a_is_item => k_is)
    (case l_is_item => k_is)
    (case co_is_item => k_is)
    (case k_is_item => k_is)
    (case a_check_item => k_is)
    (case l_check_item => k_is)
    (case co_check_item => k_is)
    (case k_check_item => k_is)
    (case a_law_pot => k_is)
    (case l_law_pot => k_is)
    (case co_law_pot => k_is)
    (case k_law_pot => k_is)
    (case a_law_draw => k_is)
    (case l_law_draw => k_is)
    (case co_law_draw => k_is)
    (case k_law_draw => k_is)
    (case a_law_name => k_is)
    (case l_law_name => k_is)
    (case co_law_name => k_is)
    (case k_law_name => k_is)
    (case a_law_word => k_is)
    (case l_law_word => k_is)
    (case co_law_word => k_is)
    (case k_law_word => k_is)
    (case a_law_path => k_is)
    (case l_law_path => k_is)
    (case co_law_path => k_is)
    (case k_law_path => k_is)
    (case a_law_entry => k_is)
    (case l_law_entry => k_is)
    (case co_law_entry => k_is)
    (case k_law_entry => k_is)
    (case a_law_is_name => k_is)
    (case l_law_is_name => k_is)
    (case co_law_is_name => k_is)
    (case k_law_is_name => k_is)
    (case a_law_is_word => k_is)
    (case l_law_is_word => k_is)
    (case co_law_is_word => k_is)
    (case k_law_is_word => k_is)
    (case a_law_is_whole => k_is)
    (case l_law_is_whole => k_is)
    (case co_law_is_whole => k_is)
    (case k_law_is_whole => k_is)
    (case a_law_is_relink => k_is)
    (case l_law_is_relink => k_is)
    (case co_law_is_relink => k_is)
    (case k_law_is_relink => k_is)
    (case a_law_is_entry => k_is)
    (case l_law_is_entry => k_is)
    (case co_law_is_entry => k_is)
    (case k_law_is_entry => k_is)
    (case a_law_odd => k_is)
    (case l_law_odd => k_is)
    (case co_law_odd => k_is)
    (case k_law_odd => k_is)
    (case a_law_other_path => k_is)
    (case l_law_other_path => k_is)
    (case co_law_other_path => k_is)
    (case k_law_other_path => k_is)
    (case a_law_spoilt => k_is)
    (case l_law_spoilt => k_is)
    (case co_law_spoilt => k_is)
    (case k_law_spoilt => k_is)
    (case a_law_held => k_is)
    (case l_law_held => k_is)
    (case co_law_held => k_is)
    (case k_law_held => k_is)
    (case a_law_stands => k_is)
    (case l_law_stands => k_is)
    (case co_law_stands => k_is)
    (case k_law_stands => k_is)
    (case a_law_put_in => k_is)
    (case l_law_put_in => k_is)
    (case co_law_put_in => k_is)
    (case k_law_put_in => k_is)
    (case a_law_taken => k_is)
    (case l_law_taken => k_is)
    (case co_law_taken => k_is)
    (case k_law_taken => k_is)
    (case a_law_names => k_is)
    (case l_law_names => k_is)
    (case co_law_names => k_is)
    (case k_law_names => k_is)
    (case a_law_ends => k_is)
    (case l_law_ends => k_is)
    (case co_law_ends => k_is)
    (case k_law_ends => k_is)
    (case a_law_result => k_is)
    (case l_law_result => k_is)
    (case co_law_result => k_is)
    (case k_law_result => k_is)
    (case a_law_due_put => k_is)
    (case l_law_due_put => k_is)
    (case co_law_due_put => k_is)
    (case k_law_due_put => k_is)
    (case a_law_put_right => k_is)
    (case l_law_put_right => k_is)
    (case co_law_put_right => k_is)
    (case k_law_put_right => k_is)
    (case a_law_take_right => k_is)
    (case l_law_take_right => k_is)
    (case co_law_take_right => k_is)
    (case k_law_take_right => k_is)
    (case a_law => k_is)
    (case l_law => k_is)
    (case co_law => k_is)
    (case k_law => k_is)
    (case v_LETTERS => k_is)
    (case v_DIGITS => k_is)
    (case v_LONGEST_NAME => k_is)
    (case v_LONGEST_WORD => k_is)
    (case v_SHORTEST_PATH => k_is)
    (case v_MESSAGE => k_is)
    (case v_BYE => k_is)
    (case v_BITS => k_is)
    (case z_len => k_is)
    (case z_range => k_is)
    (case z_abs => k_is)
    (case z_max => k_is)
    (case z_min => k_is)
    (case z_divmod => k_is)
    (case z_isinstance => k_is)
    (case z_str => k_is)
    (case z_int => k_is)
    (case z_bool => k_is)
    (case z_tuple => k_is)
    (case z_list => k_is)
    (case z_set => k_is)
    (case z_dict => k_is)
    (case z_all => k_is)
    (case z_any => k_is)
    (case z_repr => k_is)
    (case z_sorted => k_is)
    (case z_enumerate => k_is)
    (case z_zip => k_is)
    (case e_InvalidItem => k_is)
    (case S_InvalidItem =>
      refine' My.raw_InvalidItem ?ii ?ov ?sa ?ga ?gg ?ca ?ex ?ob ?hd ?kp ?ty ?ini ?tf ?li ?ci ?ki ?n0
      (case ii => kx_is)
      (case ov => kx_is)
      (case sa => k_is)
      (case ga => k_is)
      (case gg => k_is)
      (case ca => k_is)
      (case ex => k_is)
      (case ob => k_is)
      (case hd => k_is)
      (case kp => k_is)
      (case ty => k_is)
      (case ini => k_is)
      (case tf => k_is)
      (case li => k_is)
      (case ci => k_is)
      (case ki => k_is)
      (case n0 => k_is))
    (case e_InvalidName => k_is)
    (case S_InvalidName =>
      refine' My.raw_InvalidName ?ii ?ov ?sa ?ga ?gg ?ca ?ex ?ob ?hd ?kp ?ty ?ini ?tf ?li ?ci ?ki ?n0
      (case ii => kx_is)
      (case ov => kx_is)
      (case sa => k_is)
      (case ga => k_is)
      (case gg => k_is)
      (case ca => k_is)
      (case ex => k_is)
      (case ob => k_is)
      (case hd => k_is)
      (case kp => k_is)
      (case ty => k_is)
      (case ini => k_is)
      (case tf => k_is)
      (case li => k_is)
      (case ci => k_is)
      (case ki => k_is)
      (case n0 => k_is))
    (case e_EmptyChannel => k_is)
    (case S_EmptyChannel =>
      refine' My.raw_EmptyChannel ?ii ?ov ?sa ?ga ?gg ?ca ?ex ?ob ?hd ?kp ?ty ?ini ?tf ?li ?ci ?ki ?n0 ?n1
      (case ii => kx_is)
      (case ov => kx_is)
      (case sa => k_is)
      (case ga => k_is)
      (case gg => k_is)
      (case ca => k_is)
      (case ex => k_is)
      (case ob => k_is)
      (case hd => k_is)
      (case kp => k_is)
      (case ty => k_is)
      (case ini => k_is)
      (case tf => k_is)
      (case li => k_is)
      (case ci => k_is)
      (case ki => k_is)
      (case n0 => k_is)
      (case n1 => k_is))
    (case v_CK => k_is)
    (case l_CK => k_is)
    (case q_CK => exact ⟨_, _, rfl, rfl, (by decide), .cons ⟨_, rfl⟩ (.cons ⟨_, rfl⟩ (.cons ⟨_, rfl⟩ (.cons ⟨_, rfl⟩ (.cons ⟨_, rfl⟩ .nil))))⟩)
    (case e_Channels => k_is)
    (case T_pg => k_is)
    (case T_hd => k_is)
    (case T_po => k_is)
    (case T_sa => k_is)
    (case T_mk => k_is)
    (case T_kc => k_is)
    (case T_nheld => k_is)
    (case aTm_init => k_is)
    (case iTm_init => k_is)
    (case lTm_init => k_is)
    (case cTm_init => k_is)
    (case kTm_init => k_is)
    (case aTm_len => k_is)
    (case iTm_len => k_is)
    (case lTm_len => k_is)
    (case cTm_len => k_is)
    (case kTm_len => k_is)
    (case aTm_put => k_is)
    (case iTm_put => k_is)
    (case lTm_put => k_is)
    (case cTm_put => k_is)
    (case kTm_put => k_is)
    (case aTm_take => k_is)
    (case iTm_take => k_is)
    (case lTm_take => k_is)
    (case cTm_take => k_is)
    (case kTm_take => k_is)
    (case aTm_in_flight => k_is)
    (case iTm_in_flight => k_is)
    (case lTm_in_flight => k_is)
    (case cTm_in_flight => k_is)
    (case kTm_in_flight => k_is)
    (case aTm_busy => k_is)
    (case iTm_busy => k_is)
    (case lTm_busy => k_is)
    (case cTm_busy => k_is)
    (case kTm_busy => k_is)
    (case cg => k_is)
    (case ct => k_is)
    (case cl_N => k_is)
    (case tP_N => k_is)
    (case cl_I => k_is)
    (case tP_I => k_is)
    (case cl_E => k_is)
    (case tP_E => k_is)
    (case e_InvalidText => k_is)
    (case cl_T => k_is)
    (case tP_T => k_is)
    (case e_RelinkTreeError => k_is)
    (case cl_R => k_is)
    (case tP_R => k_is)
    (case e_UnknownHost => k_is)
    (case cl_U => k_is)
    (case tP_U => k_is)
    (case zz_sum => k_is)
    (case bP_R => k_is)
    (case s_NR => k_is)
    (case s_IR => k_is)
    (case s_ER => k_is)
    (case bP_E => k_is)
    (case s_EE => k_is)
    (case ne_NI => decide)
    (case s_NI => k_is)
    (case ne_NT => decide)
    (case s_NT => k_is)
    (case sb_NLookupError => k_is)
    (case ne_IN => decide)
    (case s_IN => k_is)
    (case ne_IT => decide)
    (case s_IT => k_is)
    (case sb_ILookupError => k_is)
    (case ne_EU => decide)
    (case s_EU => k_is)
    (case sb_EKeyError => k_is)
    (case sb_EIndexError => k_is)
    (case sb_ELookupError => k_is)
    (case f_Nvalue => k_is)
    (case f_Ivalue => k_is)
    (case f_Esource => k_is)
    (case f_Egoal => k_is)
    (case zz_LookupError => k_is)
    (case zz_KeyError => k_is)
    (case zz_IndexError => k_is)
    (case qc1 => exact rfl)
    (case lo1 => k_is)
    (case tb1 => exact rfl)
    (case hd1 => kernel_rfl)
    (case nk1 => kernel_rfl)
    (case te1 => exact PySem.W.km_tabs_of YY _ (by k_mem))
    (case qc2 => exact rfl)
    (case lo2 => k_is)
    (case tb2 => exact rfl)
    (case hd2 => kernel_rfl)
    (case nk2 => kernel_rfl)
    (case te2 => exact PySem.W.km_tabs_of YY _ (by k_mem))
    (case nP => decide)

