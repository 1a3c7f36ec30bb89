import PyProof.Rows.All
import Wide.All
import OpenK.AllK
import Wide.FinOn
import HandS.ForMost
import HandS.IsInst
import HandS.Walk
import PySem.Challenge.RW_relinktree_k11_host_names_and_words
set_option Elab.async false
set_option linter.all false
set_option maxRecDepth 100000
set_option maxHeartbeats 4000000
/-! Defs whose promise needs to know that no repr is under way: the layer's def, call and end once more with that premise. -/
namespace Gy
open PySem PySem.Spec PyProof.Rows L2

/-- repr of data at an address -/
theorem repr_dat {X : Cx} (hg : X.A.guards = some []) (hu : X.A.units + 70 < cLine) :
    CallR X (.builtin "repr") (fun xs H Q => ∃ a d, xs = [.ref a] ∧ Dp X.K H (.ref a) d ∧ d.showable = true ∧ d.hasDict = false ∧ d.depth ≤ 60 ∧
      d.shown.length ≤ sizeLine ∧ Q (.str d.shown) H) := by
  intro pins s σ H xs us Q I r h
  obtain ⟨a, d, rfl, hd, h1, h2, h3, h4, q⟩ := h
  obtain ⟨u, rfl, ru⟩ := vals1 r
  obtain ⟨as, rd⟩ := Dp.reads I d _ u hd ru
  cases ru
  refine repr_of_reads' rd h1 (fun z => ?_) hg (by omega) (fun _ _ e => e) (fun h' u tk hk => ?_) h4
  · rw [h2] at z
    cases z
  · exact ⟨.str _, H, I.kept hk, ⟨u, rfl⟩, q⟩

/-- a def's promise, where no repr is under way -/
structure FnG (P : Program) (w : World) (K : PySem.W.Frag) (mg : Str → Option Value) (base : Heap)
    (CX : CXT) (k : Nat) (f : Addr) (fd : FuncData) (ps : List Str) (sp : Sp) : Prop where
  ln : ∀ {vs H Q E}, sp vs H Q E → vs.length = ps.length
  go : ∀ {A outer s H args us vs Q E}, A.guards = some [] → Room k A → Env0 P w K mg base A outer s H →
    BindsTo s fd args (ps.zip us) → Vals vs us → sp vs H Q E → codeAny (model P w) A (.call (.ref f) args) (CR CX outer P w H s Q E) s

section
variable {P : Program} {w : World} {K : PySem.W.Frag} {mg : Str → Option Value} {base : Heap} {CX : CXT} {k : Nat} {f : Addr} {fd : FuncData} {ps N : List Str} {sp : Sp}
theorem FnG.up {j : Nat} (F : FnG P w K mg base CX j f fd ps sp) (h : j ≤ k) : FnG P w K mg base CX k f fd ps sp :=
  ⟨F.ln, fun g hr => F.go g (hr.mono h)⟩
theorem FnG.of (F : FnOk P w K mg base CX k f fd ps sp) : FnG P w K mg base CX k f fd ps sp :=
  ⟨fun h => F.len _ _ _ _ h, fun _ hr e b v h => F.run _ _ _ _ _ _ _ _ _ hr e b v h⟩

theorem fun_g {x qual : Str} {st : Stmt} (F : Fun K x qual st f fd) (S : FnScope N ps (defScope st)) (ln : ∀ {vs H Q E}, sp vs H Q E → vs.length = ps.length)
    (bd : ∀ (cdv : Value) (A : Around) (outer : List Env) (s : Shared) (H : Hp) (vs : List V) (Q : VK) (E : XK), A.guards = some [] →
      Room k (A.deeper (envOfC qual (defScope st) s.heap.objs.size f cdv)) → sp vs H Q E →
      ∃ t, PSs (cxOf CX P w K mg base N qual (defScope st) f cdv A outer s H E) (defBody st) t ∧
        t { nx := fun _ H' => Q .non H', rt := Q } (start N vs) H) :
    FnG P w K mg base CX (k + 1) f fd ps sp := by
  obtain ⟨oc, od, kV, doc, pm, an, cdv, ct, osl, rfl, lk, hcd⟩ := F.ex
  refine ⟨ln, ?_⟩
  intro A outer s H args us vs Q E g hr e0 hb rl hsp
  have stay : ∀ b o, base.get? b = some o → s.heap.get? b = some o := fun b o e => (e0.bs b o e).1
  have kin := e0.mod.kin.keeps stay
  have nol := e0.mod.nolimit.keeps stay
  refine codeAny_call_function hr.depth (kin _ _ lk) rfl S.co S.gen rfl (PySem.W.codeRec_of kin hcd) (hb _ _ _ _ ?_)
  refine wpAny_newFunctionEnv_cells S.kind ?_ ?_
  · rintro ⟨n, v⟩ hy
    refine (S.par n (List.of_mem_zip hy).1).imp id fun q => ⟨q, ?_⟩
    exact PySem.W.cellsFrom_some _ _ _ (.inl q)
  · rintro env rfl s1 x
    refine ⟨nol.keeps x.toInCall.keep, codeAny_func ?_⟩
    obtain ⟨t, ht, hq⟩ := bd cdv A outer s H vs Q E g (hr.deeper _) hsp
    have I := inv_start (CX := CX) (E := E) (outer := outer) S hr.hd e0 (ln hsp) rl x
    refine wpAny_mono (ht.run [] s1 (start N vs) H _ I hq) ?_ (fun _ _ z => z)
    rintro (_ | _ | _ | u) s' z
    all_goals first
      | (obtain ⟨σ', H', J, q⟩ := z
         exact ⟨V.non, H', J.os, J.bare, J.base, J.hok, rfl, q⟩)
      | (obtain ⟨_, _, _, q⟩ := z
         exact q.elim)
      | (obtain ⟨v, σ', H', J, rv, q⟩ := z
         exact ⟨v, H', J.os, J.bare, J.base, J.hok, rv, q⟩)
end
end Gy

namespace Gy
open PySem PySem.Spec PyProof.Rows L2

/-- the readings of the two calls below -/
def tG (sp : Sp) (E : XK) (t : TA) : TE := fun σ H Q => t σ H fun vs H1 => sp vs H1 Q E
def tKw0 (sp : Sp) (gV : List V → List V → List V) (E : XK) (tk : TA) : TE := fun σ H Q => tk σ H fun zs H1 => sp (gV [] zs) H1 Q E
section
variable {X : Cx} {CX : CXT} {k : Nat} {f : Addr} {fd : FuncData} {ps ks : List Str} {sp : Sp} {E : XK} {x : Str} {p pos : Pos} {e : Expr} {es : List Expr} {kws : List Keyword} {t tk : TA}
variable {g : List Value → List Value → List Value} {gV : List V → List V → List V}
/-- f(e, ..) of a def that wants to know of repr -/
theorem pe_callG (F : FnG X.prog X.w X.K X.mg X.base CX k f fd ps sp) (gd : X.A.guards = some []) (hr : Room k X.A) (hg : Gl X x)
    (hm : X.mg x = some (.ref f)) (hk : PySem.W.keepIn X.K (.ref f) = true) (hb : Binds X.K fd ps []) (hx : Passes CX X E) (ha : PA X (e :: es) t)
    (hdb : (x == ("__debug__" : Str)) = false := by decide) (he : starEach (e :: es) X.env = (false, eval e X.env) :: starEach es X.env := by rfl)
    (hpl : (backTo pos (starEach es X.env)).any (·.1) = false := by rfl) :
    PE X (.Call (.Name x p) (e :: es) [] pos) (tG sp E t) := by
  constructor
  intro pins s σ H Q I h
  refine wpAny_Call_Name_kw (ld_glob I hg hm ?_ hdb)
  refine PySem.W.callWith_K (h₀ := X.base) I.ok.mod.kin hk (thn (ha.run pos pins s σ H _ I h) ?_) he hpl
  rintro us s1 ⟨vs, H1, I1, r, q⟩
  refine ⟨I1.kIn, wpAny_call (codeAny_mono (F.go (args := ⟨us, []⟩) gd hr I1.env0 ?_ r q) ?_)⟩
  · have b := hb s1 us I1.kIn (by rw [List.append_nil, ← r.length]; exact F.ln q)
    rwa [List.append_nil] at b
  · rintro (er | (_ | _ | _ | u)) s' z
    · exact hx pins σ H1 s1 er s' I1 z
    · exact z.elim
    · exact z.elim
    · exact z.elim
    · exact I1.after z
/-- f(k = v, ..), nothing by position -/
theorem pe_kw0 (F : FnOk X.prog X.w X.K X.mg X.base CX k f fd ps sp) (hr : Room k X.A) (hg : Gl X x) (hm : X.mg x = some (.ref f))
    (hk : PySem.W.keepIn X.K (.ref f) = true) (hb : KBinds X.K fd ps ks g gV) (hx : Passes CX X E) (hkw : PK X kws tk)
    (hall : (backToKw pos (keywordEach kws X.env)).all (·.1.isSome) = true := by rfl) (hks : (backToKw pos (keywordEach kws X.env)).filterMap (·.1) = ks := by rfl)
    (hdb : (x == ("__debug__" : Str)) = false := by decide)
    (hpl : ((backTo pos (starEach [] X.env)).any (·.1) || (backToKw pos (keywordEach kws X.env)).any (·.1.isNone)) = false := by rfl) :
    PE X (.Call (.Name x p) [] kws pos) (tKw0 sp gV E tk) := by
  constructor
  intro pins s σ H Q I h
  refine wpAny_Call_Name_kw (ld_glob I hg hm ?_ hdb)
  refine PySem.W.callWith_KW0 (h₀ := X.base) I.ok.mod.kin hk hall (thn (hkw.run pos pins s σ H _ I h) ?_) hpl
  rintro ws s2 ⟨zs, H2, I2, rz, q2⟩
  rw [hks]
  exact ⟨I2.kIn, run_fnk (us := []) F hr hb hx I2 .nil rz q2⟩
end

/-- the law's call, its def a FnG -/
theorem end_g {P : Program} {w : World} {K : PySem.W.Frag} {mg mb : Str → Option Value} {CX : CXT} {k : Nat} {fa a : Addr} {fd : FuncData} {x : Str} {sp : Sp}
    {s : Shared} {vs : List Value} {ns : List Int} (kin : K.In s.heap) (hns : s.heap.Ns mainGlobals mg) (hb : s.heap.Ns builtinsNs mb)
    (hbb : ∀ x : Str, x ≠ "__name__" → mb x = bootBuiltins x) (nol : s.heap.NoLimit) (hg : s.gens = #[])
    (ha : s.heap.get? a = some { cls := .type "list", data := .seq vs.toArray }) (hi : IntsAre vs ns) (hl : ns.length ≤ sizeLine) (hr : Room k callerA)
    (F : ∀ base : Heap, K.In base → base.Ns mainGlobals mg → FnG P w K mg base CX k fa fd [x] sp)
    (bnd : ∀ (s : Shared) (u : Value), BindsTo s fd ⟨[u], []⟩ [(x, u)])
    (hsp : ∀ H : Hp, Only H → SqL K H a (ns.map V.int) → sp [.ref a] H (fun v _ => v = .bl true) fun _ _ _ => False)
    (hCX : ∀ H e s', CX [] H s (fun _ _ _ => False) e s' → False) :
    codeAny (model P w) callerA (.call (.ref fa) ⟨[.ref a], []⟩)
      (fun r s' => r = .ok (.ret (.bool true)) ∧ OldK s.heap s'.heap ∧ s'.os = s.os ∧ AllBare s'.gens) s := by
  have main : ∀ H : Hp, Only H → SqL K H a (ns.map V.int) → HOk P w H s.heap → (∀ b, H b ≠ none → b = a) → (H a ≠ none → K.lookup a = none) →
      codeAny (model P w) callerA (.call (.ref fa) ⟨[.ref a], []⟩)
        (fun r s' => r = .ok (.ret (.bool true)) ∧ OldK s.heap s'.heap ∧ s'.os = s.os ∧ AllBare s'.gens) s := by
    intro H only seq hok alone notK
    have noD : ∀ {b o es ep}, s.heap.get? b = some o → o.data = .dict es ep → H b = none := by
      intro b o es ep e d
      cases q : H b with
      | none => rfl
      | some u =>
        obtain rfl := alone b (by rw [q]; exact fun z => nomatch z)
        rw [ha] at e
        cases e
        exact nomatch d
    have nsB : ∀ {b m}, s.heap.Ns b m → (hidT s.heap H).Ns b m := by
      rintro b m ⟨o, es, ep, e, d, r⟩
      exact ⟨o, es, ep, hidT_get e (noD e d), d, r⟩
    have kB : K.In (hidT s.heap H) := by
      intro b o e
      refine hidT_get (kin b o e) ?_
      cases q : H b with
      | none => rfl
      | some u =>
        obtain rfl := alone b (by rw [q]; exact fun z => nomatch z)
        rw [notK (by rw [q]; exact fun z => nomatch z)] at e
        cases e
    obtain ⟨mc, l1, l2⟩ := nol
    have e0 : Env0 P w K mg (hidT s.heap H) callerA [] s H := by
      refine ⟨rfl, ⟨kB, nsB hns, ⟨mb, nsB hb, hbb⟩, ⟨mc, nsB l1, l2⟩⟩, fun b o e => of_hidT e, Nat.le_of_eq (hidT_size _ _), trivial, ?_, hok, .of_eq hg⟩
      intro b z
      exact nomatch (show b ∈ ([] : List Addr) from z)
    have run := (F _ kB (nsB hns)).go (A := callerA) (args := ⟨[.ref a], []⟩) (us := [.ref a]) (vs := [V.ref a]) rfl hr e0 (bnd s (.ref a)) (.cons rfl .nil) (hsp H only seq)
    refine codeAny_mono run ?_
    rintro (er | (_ | _ | _ | u)) s' z
    · exact (hCX H er s' z).elim
    · exact z.elim
    · exact z.elim
    · exact z.elim
    · obtain ⟨v, H', os, bare, un, hok', rv, q⟩ := z
      cases (show v = .bl true from q)
      cases (show u = Value.bool true from rv)
      refine ⟨rfl, OldK.of_keep fun b o e => ?_, os, bare⟩
      rcases only b with n | ⟨ob, xs, y⟩
      · exact un.keep b o e n (fun z => nomatch (show b ∈ ([] : List Addr) from z)) (fun z => nomatch z)
      · obtain ⟨e1, _⟩ := hok b _ y
        obtain ⟨e2, _⟩ := hok' b _ (un.frzs b ob _ y)
        rw [e] at e1
        cases e1
        exact e2
  have rv := vals_ints hi
  cases hk : K.lookup a with
  | some o =>
    have e := kin a o hk
    rw [ha] at e
    cases e
    refine main (fun _ => none) (fun _ => .inl rfl) (.inr ⟨_, vs.toArray, _, hk, rfl, rfl, rfl, ?_, rv⟩) (fun b u z => nomatch z) (fun b z => absurd rfl z) (fun z => absurd rfl z)
    rw [List.size_toArray, hi.length]
    exact hl
  | none =>
    let ob : Obj := { cls := .type "list", data := .seq vs.toArray }
    refine main (fun b => if b = a then some (.frz ob (.lst (ns.map V.int))) else none) (fun b => ?_) (.inl (.inr ⟨ob, if_pos rfl⟩)) (fun b u z => ?_) (fun b z => ?_) (fun _ => hk)
    · by_cases q : b = a
      · exact .inr ⟨_, _, if_pos q⟩
      · exact .inl (if_neg q)
    · by_cases q : b = a
      · have y := (if_pos q).symm.trans z
        cases y
        subst q
        exact ⟨ha, by rw [List.length_map]; exact hl, vs, _, rv, ha⟩
      · have y := (if_neg q).symm.trans z
        cases y
    · by_cases q : b = a
      · exact q
      · exact absurd (if_neg q) z

/-- what k_head leaves, from a law that is a FnG -/
theorem walk_g {l : PySem.W.OpenLaw} {n k : Nat} {q : Program} {loose : List Str} {XP : (Str → Option Value) → Heap → Prop} {YP : World → Heap → Prop} {d : DefRec}
    {K : Params → PySem.W.Frag} {sp : PySem.W.Frag → Sp} {x : Str} (hn : l.most = some n) (hn2 : n ≤ sizeLine) (hdf : d.params.defaults = []) (hr : Room k callerA)
    (hY : ∀ (w : World) (h : Heap), YP w h → (K w.params).In h)
    (F : ∀ (w : World) (mg : Str → Option Value) (fa : Addr) (h : Heap), (K w.params).In h → h.Ns mainGlobals mg → mg d.name = some (.ref fa) →
      ∃ fd : FuncData, (∀ (s : Shared) (u : Value), BindsTo s fd ⟨[u], []⟩ [(x, u)]) ∧
        ∀ base : Heap, (K w.params).In base → base.Ns mainGlobals mg → FnG l.prog w (K w.params) mg base CX0 k fa fd [x] (sp (K w.params)))
    (hsp : ∀ (K : PySem.W.Frag) (H : Hp) (a : Addr) (ns : List Int), ns.length ≤ n → SqL K H a (ns.map V.int) → sp K [.ref a] H (fun v _ => v = .bl true) fun _ _ _ => False) :
    PySem.W.WalkO q loose XP YP l.row.toRowW d [] (fun f vs => PySem.call f vs) := by
  refine Att.attach_call hn hdf ?_
  intro w s₀ s₁ mg mb fa o pm cd doc a vs ns G Y ho hd hcd hmg hobj hints hlen hg
  have kin := hY w _ Y
  obtain ⟨fd, hb, hF⟩ := F w mg fa _ kin G.T.g hmg
  exact end_g kin G.T.g G.T.b G.T.builtins G.T.nolimit hg hobj hints (Nat.le_trans hlen hn2) hr hF hb (fun H _ hS => hsp _ H a ns hlen hS) (fun _ _ _ z => z)
end Gy

namespace My
open PySem PySem.Spec PyProof.Rows L2 Gy
def top (i : Nat) : Stmt := PySem.Challenge.pw_relinktree_k11_host_names_and_words.main.body.getD i (.Pass ⟨0, 0, 0, 0⟩)
abbrev sHost : Stmt := top 5
abbrev sWord : Stmt := top 6
abbrev sText : Stmt := top 7
/-! ### texts of some signs -/
def LET : Str := "abcdefghijklmnopqrstuvwxyz"
def DIG : Str := "0123456789"
def allIn (cs x : Str) : Bool := x.cps.toList.all fun c => decide (c ∈ cs.cps.toList)
def textOf (v : V) (cs : Str) (n : Int) : Bool := match v with
  | .str x => decide ((1 : Int) ≤ (x.length : Int)) && decide ((x.length : Int) ≤ n) && allIn cs x
  | _ => false
/-- a value whose kind is known -/
inductive Kd (K : PySem.W.Frag) (H : Hp) : V → Prop
  | str (x : Str) (h : x.length ≤ sizeLine) : Kd K H (.str x)
  | oth {v : V} {t : String} (ty : TyX K H v (.type t)) (n : kitB t "str" = some false) (no : ∀ x, v ≠ .str x) : Kd K H v
theorem textOf_oth {v : V} (no : ∀ x, v ≠ .str x) (cs : Str) (n : Int) : textOf v cs n = false := by
  cases v with
  | str x => exact absurd rfl (no x)
  | _ => rfl
theorem same_upd {H : Hp} {p : Addr} {o : HO} (h : H p = none) : Same H (upd H p o) := fun b x e => by
  rw [upd_ne (ne_of_none e h)]
  exact e
/-- a new object that is written once more: what stood before stands -/
theorem same_upd2 {H0 H : Hp} {p : Addr} {o : HO} (s : Same H0 H) (h : H0 p = none) : Same H0 (upd H p o) := fun b x e => by
  rw [upd_ne (ne_of_none e h)]
  exact s b x e

structure TxtN (mg : Str → Option Value) : Prop where
  isi : mg "isinstance" = none
  str : mg "str" = none
  len : mg "len" = none
  all : mg "all" = none

section
variable {P : Program} {w : World} {K : PySem.W.Frag} {mg : Str → Option Value} {base : Heap}
def spText (K : PySem.W.Frag) : Sp := fun vs H Q _ => ∃ (v : V) (cs : Str) (n : Int), vs = [v, .str cs, .int n] ∧ Kd K H v ∧
  ∀ H', Same H H' → Q (.bl (textOf v cs n)) H'
theorem scT : FnScope ["value", "characters", "longest", "character"] ["value", "characters", "longest"] (defScope sText) :=
  ⟨rfl, rfl, rfl, by decide +kernel, rfl, by decide +kernel, by decide +kernel⟩
theorem take_succ_all {l : List Nat} {i c : Nat} (h : l[i]? = some c) (p : Nat → Bool) : (l.take (i + 1)).map p = (l.take i).map p ++ [p c] := by
  rw [List.take_add_one, h, List.map_append]
  rfl
theorem ok_text {f : Addr} {fd : FuncData} (F : Fun K "is_text_of" "is_text_of" sText f fd) (T : TxtN mg) :
    FnOk P w K mg base CX0 1 f fd ["value", "characters", "longest"] (spText K) := by
  refine F.ok scT (fun vs H Q E h => ?_) (fun cdv A outer s H vs Q E hr h => ?_)
  · obtain ⟨v, cs, n, rfl, _⟩ := h
    rfl
  · obtain ⟨v, cs, n, rfl, kd, q⟩ := h
    refine ⟨_, pss_cons (ps_if (PW.pt (pw_or
        (pt_not (pt_val (pe_callB call_isi (by rfl) T.isi (by decide +kernel) (pa_cons (pv 0) (pa_cons (pe_bltn (v := .ty "str") (by rfl) T.str (by decide +kernel) rfl) pa_nil)))))
        (pw_or1 (pt_not (pt_chain op_le op_le pe_int (pe_callB call_len_str (by rfl) T.len PySem.boot_len (pa_cons (pv 0) pa_nil)) (pv 2))))))
        (pss_one (ps_ret pe_bl)) pss_nil)
      (pss_one (ps_ret (pe_callB (cr_all rfl) (by rfl) T.all (by decide +kernel) (pa_cons
        (pe_lc (own := [("character", 3)]) (g := gName 3) (tt := tYes) rfl scT.nd (pi_str (pv 0))
          (blkOk_by (N := ["value", "characters", "longest", "character"]) (sc := defScope sText) (by decide +kernel))
          (fun _ _ _ _ _ => pg_name (i := 3) scT.nd rfl (Or.inl rfl)) (fun _ _ _ _ _ => pts_nil)
          (fun _ _ _ _ _ => pe_cmpR op_in_sign (pv 3) (pv 1) rfl)) pa_nil)))), ?_⟩
    cases kd with
    | oth ty no nos =>
      refine ⟨v, rfl, v, _, _, _, false, rfl, .ty "str", ty, kit_ty no, _, rfl, ?_⟩
      refine iteT (iteT ?_)
      rw [textOf_oth nos] at q
      exact q _ (Same.refl _)
    | str x hx =>
      refine ⟨_, rfl, _, _, _, _, true, rfl, .ty "str", .base (.str x), kit_ty (by decide +kernel), _, rfl, ?_⟩
      refine iteF ?_
      have e1 : textOf (.str x) cs n = (decide ((1 : Int) ≤ (x.length : Int)) && decide ((x.length : Int) ≤ n) && allIn cs x) := rfl
      refine ⟨_, rfl, _, rfl, hx, 1, _, rfl, rfl, _, rfl, ?_⟩
      refine ite2 (fun c1 => ?_) (fun c1 => ?_)
      · refine ⟨_, rfl, _, _, rfl, rfl, _, rfl, ?_⟩
        cases c2 : decide ((x.length : Int) ≤ n) with
        | false =>
          refine iteT ?_
          rw [c2, Bool.and_false, Bool.false_and] at e1
          rw [e1] at q
          exact q _ (Same.refl _)
        | true =>
          refine iteF ?_
          rw [c1, c2, Bool.true_and, Bool.true_and] at e1
          refine ⟨_, rfl, x, rfl, fun D hD => ?_⟩
          refine lc_it (walk_str (z := x)) (fun i H' => Same H H' ∧ H' D = some (.lst (((x.cps.toList.take i).map fun c => decide (c ∈ cs.cps.toList)).map V.bl)))
            ⟨same_upd hD, upd_same⟩ (fun _ _ _ _ => trivial) ?_ ?_
          · rintro i y H1 H2 hi ⟨sm, hL⟩ ⟨rfl, c, hc, rfl⟩
            refine ⟨rfl, ?_⟩
            dsimp only [tYes]
            refine iteT ?_
            refine ⟨_, rfl, _, rfl, c, cs, rfl, rfl, _, hL, ?_, same_upd2 sm hD, ?_⟩
            · rw [List.length_map, List.length_map, List.length_take]
              refine Nat.lt_of_le_of_lt (Nat.min_le_left _ _) (Nat.lt_of_lt_of_le hi ?_)
              exact hx
            · have hc' : x.cps.toList[i]? = some c := by rw [Array.getElem?_toList]; exact hc
              rw [upd_same, take_succ_all hc', List.map_append]
              rfl
          · rintro H1 ⟨sm, hL⟩
            refine ⟨D, _, rfl, SqL.of hL, ?_⟩
            have e2 : ((x.cps.toList.take x.cps.size).map fun c => decide (c ∈ cs.cps.toList)).all id = allIn cs x := by
              rw [List.take_of_length_le (by rw [Array.length_toList]; exact Nat.le_refl _), List.all_map]
              rfl
            rw [e1] at q
            show Q (.bl (((x.cps.toList.take x.cps.size).map fun c => decide (c ∈ cs.cps.toList)).all id)) H1
            rw [e2]
            exact q _ sm
      · refine ⟨_, rfl, ?_⟩
        refine iteT ?_
        have c1' : decide ((1 : Int) ≤ (x.length : Int)) = false := by
          cases z : decide ((1 : Int) ≤ (x.length : Int)) with
          | false => rfl
          | true => exact absurd z c1
        rw [c1', Bool.false_and, Bool.false_and] at e1
        rw [e1] at q
        exact q _ (Same.refl _)
end
end My

namespace My
open PySem PySem.Spec PyProof.Rows L2 Gy
abbrev sRng : Stmt := top 9
abbrev sDraw : Stmt := top 10
section
variable {P : Program} {w : World} {K : PySem.W.Frag} {mg : Str → Option Value} {base : Heap}
/-! ### is_host_name, is_word -/
structure TxtC (mg : Str → Option Value) (fT : Addr) : Prop where
  gT : mg "is_text_of" = some (.ref fT)
  lt : ∃ t, mg "LETTERS" = some (.str LET t)
  dg : ∃ t, mg "DIGITS" = some (.str DIG t)
  ln : ∃ t, mg "LONGEST_NAME" = some (.int 8 t)
  lw : ∃ t, mg "LONGEST_WORD" = some (.int 12 t)
def spHost (K : PySem.W.Frag) : Sp := fun vs H Q _ => ∃ v : V, vs = [v] ∧ Kd K H v ∧ ∀ H', Same H H' → Q (.bl (textOf v LET 8)) H'
def spWord (K : PySem.W.Frag) : Sp := fun vs H Q _ => ∃ v : V, vs = [v] ∧ Kd K H v ∧ ∀ H', Same H H' → Q (.bl (textOf v (LET ++ DIG) 12)) H'
theorem scH : FnScope ["value"] ["value"] (defScope sHost) := ⟨rfl, rfl, rfl, by decide +kernel, rfl, by decide +kernel, by decide +kernel⟩
theorem scW : FnScope ["value"] ["value"] (defScope sWord) := ⟨rfl, rfl, rfl, by decide +kernel, rfl, by decide +kernel, by decide +kernel⟩
theorem ok_host {f fT : Addr} {fd fdT : FuncData} (F : Fun K "is_host_name" "is_host_name" sHost f fd) (C : TxtC mg fT) (T : TxtN mg)
    (FT : Fun K "is_text_of" "is_text_of" sText fT fdT) (bT : Binds K fdT ["value", "characters", "longest"] []) : FnOk P w K mg base CX0 2 f fd ["value"] (spHost K) := by
  have GT : FnOk P w K mg base CX0 1 fT fdT ["value", "characters", "longest"] (spText K) := ok_text FT T
  obtain ⟨t1, e1⟩ := C.lt
  obtain ⟨t2, e2⟩ := C.ln
  refine F.ok scH (fun vs H Q E h => ?_) (fun cdv A outer s H vs Q E hr h => ?_)
  · obtain ⟨v, rfl, _⟩ := h
    rfl
  · obtain ⟨v, rfl, kd, q⟩ := h
    refine ⟨_, pss_one (ps_ret (pe_call GT hr (by rfl) C.gT FT.kp bT .nil pass0 (pa_cons (pv 0) (pa_cons (pe_glob (v := .str LET) (by rfl) e1 ⟨_, rfl⟩) (pa_cons (pe_glob (v := .int 8) (by rfl) e2 ⟨_, rfl⟩) pa_nil))))), ?_⟩
    exact ⟨v, rfl, v, LET, 8, rfl, kd, q⟩
theorem ok_word {f fT : Addr} {fd fdT : FuncData} (F : Fun K "is_word" "is_word" sWord f fd) (C : TxtC mg fT) (T : TxtN mg)
    (FT : Fun K "is_text_of" "is_text_of" sText fT fdT) (bT : Binds K fdT ["value", "characters", "longest"] []) : FnOk P w K mg base CX0 2 f fd ["value"] (spWord K) := by
  have GT : FnOk P w K mg base CX0 1 fT fdT ["value", "characters", "longest"] (spText K) := ok_text FT T
  obtain ⟨t1, e1⟩ := C.lt
  obtain ⟨t2, e2⟩ := C.lw
  obtain ⟨t3, e3⟩ := C.dg
  refine F.ok scW (fun vs H Q E h => ?_) (fun cdv A outer s H vs Q E hr h => ?_)
  · obtain ⟨v, rfl, _⟩ := h
    rfl
  · obtain ⟨v, rfl, kd, q⟩ := h
    refine ⟨_, pss_one (ps_ret (pe_call GT hr (by rfl) C.gT FT.kp bT .nil pass0 (pa_cons (pv 0) (pa_cons (pe_op op_add_str (pe_glob (v := .str LET) (by rfl) e1 ⟨_, rfl⟩) (pe_glob (v := .str DIG) (by rfl) e3 ⟨_, rfl⟩)) (pa_cons (pe_glob (v := .int 12) (by rfl) e2 ⟨_, rfl⟩) pa_nil))))), ?_⟩
    exact ⟨v, rfl, LET, DIG, rfl, rfl, by decide +kernel, v, LET ++ DIG, 12, rfl, kd, q⟩

/-! ### the law's numbers -/
/-- the list of two numbers that is drawn from -/
def Rng (H : Hp) (r : Addr) : Prop := ∃ x y : Int, H r = some (.lst [.int x, .int y]) ∧ 0 ≤ x ∧ 0 ≤ y ∧ y < 1099511627776
/-- all but r stands -/
def But (r : Addr) (H H' : Hp) : Prop := ∀ b o, b ≠ r → H b = some o → H' b = some o
theorem But.refl (r : Addr) (H : Hp) : But r H H := fun _ _ _ h => h
theorem But.trans {r : Addr} {H H1 H2 : Hp} (a : But r H H1) (b : But r H1 H2) : But r H H2 := fun c o n h => b c o n (a c o n h)
theorem But.of {r : Addr} {H H' : Hp} (s : Same H H') : But r H H' := fun c o _ h => s c o h
structure TxtR (mg : Str → Option Value) : Prop where
  len : mg "len" = none
  abs : mg "abs" = none
  max : mg "max" = none
  dm : mg "divmod" = none
def spRng (K : PySem.W.Frag) : Sp := fun vs H Q _ => ∃ (a : Addr) (ns : List Int) (k : Nat), vs = [.ref a, .int (k : Int)] ∧ SqL K H a (ns.map V.int) ∧ k ≤ 100 ∧
  ∀ H' p, Same H H' → H p = none → Rng H' p → Q (.ref p) H'
theorem scR : FnScope ["_law_script", "_law_k", "_law_cell"] ["_law_script", "_law_k"] (defScope sRng) := ⟨rfl, rfl, rfl, by decide +kernel, rfl, by decide +kernel, by decide +kernel⟩
theorem abs_nn (i : Int) : 0 ≤ (if i < 0 then -i else i) := by
  split <;> omega
theorem max_nn (j : Int) : 0 ≤ (if j > 0 then j else 0) := by
  split <;> omega
theorem y_lo (c : Int) (k : Nat) : 0 ≤ c % 2147483587 + 211 * (k : Int) + 5 := by omega
theorem y_hi (c : Int) (k : Nat) (h : k ≤ 100) : c % 2147483587 + 211 * (k : Int) + 5 < 1099511627776 := by omega
theorem ok_rng {f : Addr} {fd : FuncData} (F : Fun K "_law_rng" "_law_rng" sRng f fd) (T : TxtR mg) : FnOk P w K mg base CX0 1 f fd ["_law_script", "_law_k"] (spRng K) := by
  refine F.ok scR (fun vs H Q E h => ?_) (fun cdv A outer s H vs Q E hr h => ?_)
  · obtain ⟨a, ns, k, rfl, _⟩ := h
    rfl
  · obtain ⟨a, ns, k, rfl, hS, hk, q⟩ := h
    refine ⟨_, pss_cons (ps_set (i := 2) scR.nd rfl (.inl rfl) (pe_ifExp (pt_cmpR op_lt (pv 1) (pe_callB call_len_seq (by rfl) T.len PySem.boot_len (pa_cons (pv 0) pa_nil)) (nomark _))
        (pe_ix ix_list (pv 0) (pv 1) (fun _ _ => rfl)) (pe_op op_add (pe_op op_mul pe_int (pv 1)) pe_int)))
      (pss_one (ps_ret (pe_lst (pa_cons (pe_callB (call_max2 rfl) (by rfl) T.max (by decide +kernel) (pa_cons pe_int (pa_cons (pe_op op_sub (pe_callB call_abs (by rfl) T.abs (by decide +kernel) (pa_cons (pv 2) pa_nil)) (pe_op op_pow pe_int pe_int)) pa_nil)))
        (pa_cons (pe_op op_add (pe_op op_add (pe_op op_mod (pe_callB call_abs (by rfl) T.abs (by decide +kernel) (pa_cons (pv 2) pa_nil)) pe_int) (pe_op op_mul pe_int (pv 1))) pe_int) pa_nil))))), ?_⟩
    refine ⟨_, rfl, _, rfl, a, _, rfl, .inl hS, _, _, rfl, rfl, _, rfl, ite2 (fun c1 => ?A) (fun c1 => ?B)⟩
    case' A =>
      have hk2 : k < ns.length := by
        have := of_decide_eq_true c1
        rw [List.length_map] at this
        omega
      refine ⟨_, rfl, _, rfl, a, _, _, .int ns[k], rfl, rfl, hS, atI_nat (j := k) (by rw [List.getElem?_map, List.getElem?_eq_getElem hk2]; rfl), ?_⟩
    case' B =>
      refine ⟨_, rfl, 7, _, rfl, rfl, .inl ⟨by decide, by decide⟩, _, _, rfl, rfl, ?_⟩
    all_goals
      refine ⟨_, rfl, _, rfl, 10, 18, rfl, rfl, ⟨by decide, by decide, by decide⟩, _, _, rfl, rfl, 0, _, rfl, ?_⟩
      refine ⟨_, rfl, _, rfl, _, _, rfl, rfl, (by decide : (0 : Int) < 2147483587), _, rfl, 211, _, rfl, rfl, .inl ⟨by decide, by decide⟩, _, _, rfl, rfl, _, _, rfl, rfl, ?_⟩
      refine ⟨(by show 2 ≤ sizeLine; decide), fun p hp => ?_⟩
      exact q _ p (same_upd hp) hp ⟨_, _, upd_same, max_nn _, y_lo _ k, y_hi _ k hk⟩

def spDraw : Sp := fun vs H Q _ => ∃ (r : Addr) (m : Int), vs = [.ref r, .int m] ∧ Rng H r ∧ 0 < m ∧ m < 1073741824 ∧
  ∀ H' d, But r H H' → Rng H' r → 0 ≤ d → d < m → Q (.int d) H'
theorem scD : FnScope ["_law_rng_here", "_law_many", "_law_digit"] ["_law_rng_here", "_law_many"] (defScope sDraw) := ⟨rfl, rfl, rfl, by decide +kernel, rfl, by decide +kernel, by decide +kernel⟩
theorem ok_draw {f : Addr} {fd : FuncData} (F : Fun K "_law_draw" "_law_draw" sDraw f fd) (T : TxtR mg) : FnOk P w K mg base CX0 1 f fd ["_law_rng_here", "_law_many"] spDraw := by
  refine F.ok scD (fun vs H Q E h => ?_) (fun cdv A outer s H vs Q E hr h => ?_)
  · obtain ⟨r, m, rfl, _⟩ := h
    rfl
  · obtain ⟨r, m, rfl, ⟨x, y, hR, x0, y0, y1⟩, m0, m1, q⟩ := h
    refine ⟨_, pss_cons (ps_if (pt_cmpR op_gt (pe_ix ix_list (pv 0) pe_int (fun _ _ => rfl)) pe_int (nomark _))
        (pss_cons (ps_asg (pe_callB call_divmod (by rfl) T.dm (by decide +kernel) (pa_cons (pe_ix ix_list (pv 0) pe_int (fun _ _ => rfl)) (pa_cons (pv 1) pa_nil)))
            (pg_tup (by rfl) (pgs_cons (pg_sub (pv 0) pe_int set_list) (pgs_cons (pg_name (i := 2) scD.nd rfl (.inl rfl)) pgs_nil))))
          (pss_one (ps_ret (pv 2)))) pss_nil)
      (pss_cons (ps_asg (pe_op op_mod (pe_op op_add (pe_op op_mul (pe_ix ix_list (pv 0) pe_int (fun _ _ => rfl)) pe_int) pe_int) pe_int) (pg_sub (pv 0) pe_int set_list))
      (pss_one (ps_ret (pe_op op_mod (pe_op op_fdiv (pe_op op_mod (pe_op op_mul (pe_ix ix_list (pv 0) pe_int (fun _ _ => rfl)) (pe_ix ix_list (pv 0) pe_int (fun _ _ => rfl))) pe_int) pe_int) (pv 1))))), ?_⟩
    refine ⟨_, rfl, r, _, 0, .int x, rfl, rfl, SqL.of hR, atI_nat (j := 0) rfl, _, _, rfl, rfl, _, rfl, ite2 (fun c1 => ?_) (fun c1 => ?_)⟩
    · refine ⟨_, rfl, r, _, 0, .int x, rfl, rfl, SqL.of hR, atI_nat (j := 0) rfl, _, rfl, x, m, rfl, ⟨m0, m1⟩, fun p hp => ?_⟩
      have npr : r ≠ p := ne_of_none hR hp
      refine ⟨p, _, rfl, SqT.of upd_same, rfl, _, _, rfl, ?_⟩
      refine ⟨_, rfl, r, _, 0, 0, rfl, rfl, (by rw [upd_ne npr]; exact hR), rfl, ?_⟩
      refine ⟨_, _, rfl, rfl, ?_⟩
      refine ⟨_, rfl, q _ _ ?_ ⟨x / m, y, upd_same, Int.ediv_nonneg x0 (Int.le_of_lt m0), y0, y1⟩ (Int.emod_nonneg _ (by omega)) (Int.emod_lt_of_pos _ m0)⟩
      intro b o nb e
      rw [upd_ne nb, upd_ne (ne_of_none e hp)]
      exact e
    · refine ⟨_, rfl, r, _, 1, .int y, rfl, rfl, SqL.of hR, atI_nat (j := 1) rfl, y, 40692, rfl, rfl, .inl ⟨by omega, by omega⟩, _, _, rfl, rfl, _, _, rfl, rfl, (by decide : (0 : Int) < 2147483399), ?_⟩
      refine ⟨_, rfl, r, _, 1, 1, rfl, rfl, hR, rfl, ?_⟩
      have z0 := Int.emod_nonneg (y * 40692 + 12211) (by decide : (2147483399 : Int) ≠ 0)
      have z1 := Int.emod_lt_of_pos (y * 40692 + 12211) (by decide : (0 : Int) < 2147483399)
      refine ⟨_, rfl, r, _, 1, _, rfl, rfl, SqL.of upd_same, atI_nat (j := 1) rfl, _, rfl, r, _, 1, _, rfl, rfl, SqL.of upd_same, atI_nat (j := 1) rfl, _, _, rfl, rfl, .inl ⟨by omega, by omega⟩, ?_⟩
      refine ⟨_, _, rfl, rfl, (by decide : (0 : Int) < 2147483323), _, 17, rfl, rfl, ⟨by decide, by decide⟩, _, rfl, _, m, rfl, rfl, m0, ?_⟩
      refine q _ _ ?_ ⟨x, _, upd_same, x0, z0, by omega⟩ (Int.emod_nonneg _ (by omega)) (Int.emod_lt_of_pos _ m0)
      intro b o nb e
      rw [upd_ne nb]
      exact e
end
end My

namespace My
open PySem PySem.Spec PyProof.Rows L2 Gy
abbrev sStr : Stmt := top 11
abbrev sOdd : Stmt := top 12
section
variable {P : Program} {w : World} {K : PySem.W.Frag} {mg : Str → Option Value} {base : Heap}
structure TxtS (mg : Str → Option Value) (fD : Addr) : Prop where
  len : mg "len" = none
  range : mg "range" = none
  gD : mg "_law_draw" = some (.ref fD)
/-! ### a drawn text -/
def spStr : Sp := fun vs H Q _ => ∃ r : Addr, vs = [.ref r] ∧ Rng H r ∧ ∀ H' x, But r H H' → Rng H' r → x.length ≤ 14 → Q (.str x) H'
theorem scS : FnScope ["_law_rng_here", "_law_letters", "_law_digits", "_law_others", "_law_signs", "_law_size", "_law_turn"] ["_law_rng_here"] (defScope sStr) :=
  ⟨rfl, rfl, rfl, by decide +kernel, rfl, by decide +kernel, by decide +kernel⟩
/-- an item of a list of texts, by a number below its length -/
theorem at_in {α : Type} {xs : List α} {d : Int} (h0 : 0 ≤ d) (h1 : d < (xs.length : Int)) : ∃ v, atI xs d = some v ∧ v ∈ xs := by
  obtain ⟨j, rfl⟩ := Int.eq_ofNat_of_zero_le h0
  have hj : j < xs.length := by omega
  exact ⟨xs[j], atI_nat (List.getElem?_eq_getElem hj), List.getElem_mem hj⟩
theorem join_len : ∀ ys : List Str, (∀ y ∈ ys, y.length = 1) → (Str.join "" ys).length = ys.length
  | [], _ => rfl
  | [y], h => h y List.mem_cons_self
  | y :: z :: r, h => by
    have ih := join_len (z :: r) fun u hu => h u (List.mem_cons_of_mem _ hu)
    have hy := h y List.mem_cons_self
    show (y ++ "" ++ Str.join "" (z :: r)).length = _
    rw [strLen_append, strLen_append, ih, hy]
    show 1 + 0 + (r.length + 1) = r.length + 1 + 1
    omega
theorem Rng.ne {H : Hp} {r l : Addr} (h : Rng H r) (hl : H l = none) : l ≠ r := fun z => by
  obtain ⟨x, y, e, _⟩ := h
  rw [← z, hl] at e
  cases e
theorem Rng.upd {H : Hp} {r l : Addr} {o : HO} (h : Rng H r) (hl : H l = none) : Rng (upd H l o) r := by
  obtain ⟨x, y, e, h2⟩ := id h
  exact ⟨x, y, by rw [upd_ne (h.ne hl).symm]; exact e, h2⟩
theorem small200 {n : Nat} (h : n ≤ 200) : n < sizeLine := Nat.lt_of_le_of_lt h (by decide)
def Sg (v : V) : Prop := ∃ x : Str, v = .str x ∧ 0 < x.length ∧ x.length ≤ 200
theorem sum_ones : ∀ ys : List Str, (∀ y ∈ ys, y.length = 1) → (ys.map (·.length)).sum ≤ ys.length
  | [], _ => Nat.le_refl _
  | y :: r, h => by
    have h1 := h y List.mem_cons_self
    have h2 := sum_ones r fun z hz => h z (List.mem_cons_of_mem _ hz)
    rw [List.map_cons, List.sum_cons, List.length_cons]
    omega
theorem ok_str {f fD : Addr} {fd fdD : FuncData} (F : Fun K "_law_string" "_law_string" sStr f fd) (T : TxtS mg fD) (R : TxtR mg)
    (FD : Fun K "_law_draw" "_law_draw" sDraw fD fdD) (bD : Binds K fdD ["_law_rng_here", "_law_many"] []) : FnOk P w K mg base CX0 2 f fd ["_law_rng_here"] spStr := by
  have GD : FnOk P w K mg base CX0 1 fD fdD ["_law_rng_here", "_law_many"] spDraw := ok_draw FD R
  refine F.ok scS (fun vs H Q E h => ?_) (fun cdv A outer s H vs Q E hr h => ?_)
  · obtain ⟨r, rfl, _⟩ := h
    rfl
  · obtain ⟨r, rfl, hR, q⟩ := h
    refine ⟨_, pss_cons (ps_set (i := 1) scS.nd rfl (.inl rfl) pe_str)
      (pss_cons (ps_set (i := 2) scS.nd rfl (.inl rfl) pe_str)
      (pss_cons (ps_set (i := 3) scS.nd rfl (.inl rfl) (pe_op op_add_str (pe_op op_add_str pe_str (pe_upper (pv 1))) pe_str))
      (pss_cons (ps_set (i := 4) scS.nd rfl (.inr rfl) (pe_ix ix_list (pe_lst (pa_cons (pv 1) (pa_cons (pv 1) (pa_cons (pe_op op_add_str (pv 1) (pv 2)) (pa_cons (pe_op op_add_str (pe_op op_add_str (pv 1) (pv 2)) (pv 3)) pa_nil)))))
          (pe_call GD hr (by rfl) T.gD FD.kp bD .nil pass0 (pa_cons (pv 0) (pa_cons pe_int pa_nil))) (fun _ _ => rfl)))
      (pss_cons (ps_set (i := 5) scS.nd rfl (.inl rfl) (pe_ix ix_list (pe_lst (pa_cons (pe_call GD hr (by rfl) T.gD FD.kp bD .nil pass0 (pa_cons (pv 0) (pa_cons pe_int pa_nil))) (pa_cons pe_int (pa_cons pe_int (pa_cons pe_int (pa_cons pe_int (pa_cons pe_int pa_nil)))))))
          (pe_call GD hr (by rfl) T.gD FD.kp bD .nil pass0 (pa_cons (pv 0) (pa_cons pe_int pa_nil))) (fun _ _ => rfl)))
      (pss_one (ps_ret (pe_join pe_str (pe_lc (own := [("_law_turn", 6)]) (g := gName 6) (tt := tYes) rfl scS.nd (pi_range1 (by rfl) T.range (pa_cons (pv 5) pa_nil))
          (blkOk_by (N := ["_law_rng_here", "_law_letters", "_law_digits", "_law_others", "_law_signs", "_law_size", "_law_turn"]) (sc := defScope sStr) (by decide +kernel))
          (fun _ _ _ _ _ => pg_name (i := 6) scS.nd rfl (Or.inl rfl)) (fun _ _ _ _ _ => pts_nil)
          (fun _ _ _ _ _ => pe_ix ix_str (pv 4) (pe_call GD hr (by rfl) T.gD FD.kp bD .nil pass0 (pa_cons (pv 0) (pa_cons (pe_callB call_len_str (by rfl) T.len PySem.boot_len (pa_cons (pv 4) pa_nil)) pa_nil))) (fun _ _ => rfl))))))))))  , ?_⟩
    refine ⟨_, rfl, ⟨_, rfl⟩, _, rfl, rfl, by decide +kernel, _, _, rfl, rfl, by decide +kernel, _, _, rfl, rfl, by decide +kernel, ?_⟩
    -- signs
    refine ⟨_, rfl, _, rfl, _, rfl, _, rfl, _, _, rfl, rfl, by decide +kernel, _, rfl, _, rfl, _, _, rfl, rfl, by decide +kernel, _, rfl, _, _, rfl, rfl, by decide +kernel, ?_⟩
    refine ⟨(by show 4 ≤ sizeLine; decide), fun l hl => ?_⟩
    refine ⟨_, rfl, r, 4, rfl, hR.upd hl, by decide, by decide, fun H1 d b1 R1 d0 d1 => ?_⟩
    have nl : l ≠ r := hR.ne hl
    have hL1 := b1 l _ nl upd_same
    obtain ⟨v, hv, mv⟩ := at_in (xs := [_, _, _, _]) d0 d1
    refine ⟨l, _, d, v, rfl, rfl, SqL.of hL1, hv, ?_⟩
    have sg : Sg v := by
      simp only [List.mem_cons, List.not_mem_nil, or_false] at mv
      rcases mv with rfl | rfl | rfl | rfl
      all_goals exact ⟨_, rfl, by decide +kernel, by decide +kernel⟩
    clear mv hv hL1
    obtain ⟨g, rfl, g0, g1⟩ := sg
    have b01 : But r H H1 := But.trans (But.of (same_upd hl)) b1
    -- size
    refine ⟨_, rfl, r, 15, rfl, R1, by decide, by decide, fun H2 d2 b2 R2 d20 d21 => ?_⟩
    refine ⟨(by show 6 ≤ sizeLine; decide), fun l2 hl2 => ?_⟩
    refine ⟨_, rfl, r, 6, rfl, R2.upd hl2, by decide, by decide, fun H3 d3 b3 R3 d30 d31 => ?_⟩
    have nl2 : l2 ≠ r := R2.ne hl2
    have hL2 := b3 l2 _ nl2 upd_same
    obtain ⟨v2, hv2, mv2⟩ := at_in (xs := [_, _, _, _, _, _]) d30 d31
    refine ⟨l2, _, d3, v2, rfl, rfl, SqL.of hL2, hv2, ?_⟩
    have sz : ∃ n : Int, v2 = .int n ∧ 0 ≤ n ∧ n ≤ 14 := by
      simp only [List.mem_cons, List.not_mem_nil, or_false] at mv2
      rcases mv2 with rfl | rfl | rfl | rfl | rfl | rfl
      · exact ⟨_, rfl, d20, by omega⟩
      all_goals exact ⟨_, rfl, by decide, by decide⟩
    clear mv2 hv2 hL2
    obtain ⟨n, rfl, n0, n1⟩ := sz
    have b03 : But r H H3 := (b01.trans b2).trans ((But.of (same_upd hl2)).trans b3)
    -- the join
    refine ⟨⟨_, rfl⟩, _, rfl, n, rfl, by omega, by omega, fun D hD => ?_⟩
    have nD : D ≠ r := R3.ne hD
    refine lc_it (walk_range (lo := 0) (n := n.toNat)) (fun i H' => But r H3 H' ∧ Rng H' r ∧ ∃ ys : List Str, H' D = some (.lst (ys.map V.str)) ∧ ys.length = i ∧ ∀ y ∈ ys, y.length = 1)
      ⟨But.of (same_upd hD), R3.upd hD, [], upd_same, rfl, fun y z => nomatch z⟩ (fun _ _ _ _ => trivial) ?_ ?_
    · rintro i y H4 H5 hi ⟨b4, R4, ys, hL, el, hy⟩ ⟨rfl, rfl⟩
      refine ⟨rfl, ?_⟩
      dsimp only [tYes]
      refine iteT ?_
      refine ⟨_, rfl, _, rfl, _, rfl, g, rfl, Nat.le_of_lt (small200 g1), r, _, rfl, R4, by omega, by omega, fun H6 d6 b6 R6 d60 d61 => ?_⟩
      obtain ⟨c, hc, _⟩ := at_in (xs := g.cps.toList) d60 (by rw [Array.length_toList]; exact d61)
      refine ⟨g, d6, c, rfl, rfl, Nat.le_of_lt (small200 g1), hc, _, b6 D _ nD hL, ?_, ?_, ?_, ys ++ [⟨#[c]⟩], ?_, ?_, ?_⟩
      · rw [List.length_map, el]
        exact small200 (by omega)
      · intro b o nb e
        by_cases z : b = D
        · subst z
          rw [hD] at e
          cases e
        · rw [upd_ne z]
          exact b6 b o nb (b4 b o nb e)
      · obtain ⟨x1, y1, h1, h2⟩ := R6
        exact ⟨x1, y1, by rw [upd_ne nD.symm]; exact h1, h2⟩
      · rw [upd_same, List.map_append]
        rfl
      · rw [List.length_append, el]
        rfl
      · intro y hy'
        rcases List.mem_append.mp hy' with z | z
        · exact hy y z
        · rw [List.mem_singleton.mp z]
          rfl
    · rintro H4 ⟨b4, R4, ys, hL, el, hy⟩
      refine ⟨"", D, ys, rfl, rfl, .inl (SqL.of hL), ?_, ?_⟩
      · have e1 : (ys.map (·.length)).sum ≤ ys.length := sum_ones ys hy
        show (ys.map (·.length)).sum + ys.length * 0 ≤ 16777216
        omega
      · rw [TL.join_eq]
        refine q _ _ (b03.trans b4) R4 ?_
        have := join_len ys hy
        omega
end
end My

namespace My
open PySem PySem.Spec PyProof.Rows L2 Gy
section
variable {P : Program} {w : World} {K : PySem.W.Frag} {mg : Str → Option Value} {base : Heap}
def spOdd (K : PySem.W.Frag) : Sp := fun vs H Q _ => ∃ r : Addr, vs = [.ref r] ∧ Rng H r ∧ ∀ H' v, But r H H' → Rng H' r → Kd K H' v → Q v H'
theorem scO : FnScope ["_law_rng_here", "_law_some"] ["_law_rng_here"] (defScope sOdd) := ⟨rfl, rfl, rfl, by decide +kernel, rfl, by decide +kernel, by decide +kernel⟩
theorem But.keep {r : Addr} {H0 H H' : Hp} (a : But r H0 H) (s : Same H H') : But r H0 H' := fun c o n h => s c o (a c o n h)
theorem Rng.same {H H' : Hp} {r : Addr} (h : Rng H r) (s : Same H H') : Rng H' r := by
  obtain ⟨x, y, e, h2⟩ := h
  exact ⟨x, y, s _ _ e, h2⟩
/-- what was made and kept until a draw stands behind the draw -/
theorem Rng.go {H H0 H1 H2 : Hp} {r b : Addr} {o : HO} (h : Rng H r) (b1 : But r H1 H2) (s : Same H H0) (hb : H0 b = none) (s2 : Same (L2.upd H0 b o) H1) : H2 b = some o :=
  b1 b o ((h.same s).ne hb) (s2 _ _ upd_same)
def oddA (l t d : Addr) : List V := [.non, .bl true, .bl false, .int 0, .int 1, .int (-7), .str "", .str "A", .str "a1", .str "a b", .str "abcdefghi", .str "a\n", .str " a", .ref l, .ref t, .ref d]
def oddB (l t : Addr) : List V := [.ref l, .ref t, .str "z-"]
theorem kd_odd {K : PySem.W.Frag} {H : Hp} {l t d l2 t2 : Addr} (h1 : H l = some (.lst [])) (h2 : H t = some (.tup [])) (h3 : H d = some (.dK [])) (h4 : H l2 = some (.lst [.str "a"])) (h5 : H t2 = some (.tup [.str "a"]))
    {v : V} (h : v ∈ oddA l t d ++ oddB l2 t2) : Kd K H v := by
  have st : ∀ x : Str, x.length ≤ 200 → Kd K H (.str x) := fun x hx => .str x (Nat.le_of_lt (small200 hx))
  have bl : ∀ b, Kd K H (.bl b) := fun b => .oth (.base (.bl b)) (by decide +kernel) (fun x z => nomatch z)
  have it : ∀ b, Kd K H (.int b) := fun b => .oth (.base (.int b)) (by decide +kernel) (fun x z => nomatch z)
  unfold oddA oddB at h
  simp only [List.cons_append, List.nil_append, List.mem_cons, List.not_mem_nil, or_false] at h
  rcases h with rfl | rfl | rfl | rfl | rfl | rfl | rfl | rfl | rfl | rfl | rfl | rfl | rfl | rfl | rfl | rfl | rfl | rfl | rfl
  · exact .oth (.base .non) (by decide +kernel) (fun x z => nomatch z)
  · exact bl _
  · exact bl _
  · exact it _
  · exact it _
  · exact it _
  · exact st _ (by decide +kernel)
  · exact st _ (by decide +kernel)
  · exact st _ (by decide +kernel)
  · exact st _ (by decide +kernel)
  · exact st _ (by decide +kernel)
  · exact st _ (by decide +kernel)
  · exact st _ (by decide +kernel)
  · exact .oth (.base (.lst h1)) (by decide +kernel) (fun x z => nomatch z)
  · exact .oth (.base (.tup h2)) (by decide +kernel) (fun x z => nomatch z)
  · exact .oth (.base (.dK h3)) (by decide +kernel) (fun x z => nomatch z)
  · exact .oth (.base (.lst h4)) (by decide +kernel) (fun x z => nomatch z)
  · exact .oth (.base (.tup h5)) (by decide +kernel) (fun x z => nomatch z)
  · exact st _ (by decide +kernel)
theorem ok_odd {f fD : Addr} {fd fdD : FuncData} (F : Fun K "_law_odd" "_law_odd" sOdd f fd) (T : TxtS mg fD) (R : TxtR mg)
    (FD : Fun K "_law_draw" "_law_draw" sDraw fD fdD) (bD : Binds K fdD ["_law_rng_here", "_law_many"] []) : FnOk P w K mg base CX0 2 f fd ["_law_rng_here"] (spOdd K) := by
  have GD : FnOk P w K mg base CX0 1 fD fdD ["_law_rng_here", "_law_many"] spDraw := ok_draw FD R
  refine F.ok scO (fun vs H Q E h => ?_) (fun cdv A outer s H vs Q E hr h => ?_)
  · obtain ⟨r, rfl, _⟩ := h
    rfl
  · obtain ⟨r, rfl, hR, q⟩ := h
    refine ⟨_, pss_cons (ps_set (i := 1) scO.nd rfl (.inl rfl) (pe_lst (pa_cons pe_non (pa_cons pe_bl (pa_cons pe_bl (pa_cons pe_int (pa_cons pe_int (pa_cons (pe_un un_neg pe_int)
        (pa_cons pe_str (pa_cons pe_str (pa_cons pe_str (pa_cons pe_str (pa_cons pe_str (pa_cons pe_str (pa_cons pe_str
        (pa_cons (pe_lst pa_nil) (pa_cons (pe_tup pa_nil) (pa_cons pe_dnewK pa_nil))))))))))))))))))
      (pss_one (ps_ret (pe_ix ix_list (pe_op op_cat (pv 1) (pe_lst (pa_cons (pe_lst (pa_cons pe_str pa_nil)) (pa_cons (pe_tup (pa_cons pe_str pa_nil)) (pa_cons pe_str pa_nil)))))
        (pe_call GD hr (by rfl) T.gD FD.kp bD .nil pass0 (pa_cons (pv 0) (pa_cons pe_int pa_nil))) (fun _ _ => rfl)))), ?_⟩
    refine ⟨7, rfl, Nat.zero_le _, fun l1 n1 => ⟨Nat.zero_le _, fun t1 n2 d1 n3 => ⟨(by show 16 ≤ sizeLine; decide), fun L n4 => ?_⟩⟩⟩
    refine ⟨_, rfl, (by show 1 ≤ sizeLine; decide), fun l2 n5 => ⟨(by show 1 ≤ sizeLine; decide), fun t2 n6 => ⟨(by show 3 ≤ sizeLine; decide), fun M n7 => ?_⟩⟩⟩
    have s1 := same_upd (o := .lst []) n1
    have s2 := same_upd (o := .tup []) n2
    have s3 := same_upd (o := .dK []) n3
    have s4 := same_upd (o := .lst (oddA l1 t1 d1)) n4
    have s5 := same_upd (o := .lst [.str "a"]) n5
    have s6 := same_upd (o := .tup [.str "a"]) n6
    have s7 := same_upd (o := .lst (oddB l2 t2)) n7
    refine ⟨L, M, oddA l1 t1 d1, oddB l2 t2, rfl, rfl, s7 _ _ (s6 _ _ (s5 _ _ upd_same)), upd_same, (by show 16 + 3 ≤ sizeLine; decide), fun N n8 => ?_⟩
    have s8 := same_upd (o := .lst (oddA l1 t1 d1 ++ oddB l2 t2)) n8
    have s08 := s1.trans (s2.trans (s3.trans (s4.trans (s5.trans (s6.trans (s7.trans s8))))))
    refine ⟨_, rfl, r, 19, rfl, hR.same s08, by decide, by decide, fun H' d b1 R1 d0 d1' => ?_⟩
    have g1 := hR.go b1 (Same.refl H) n1 (s2.trans (s3.trans (s4.trans (s5.trans (s6.trans (s7.trans s8))))))
    have g2 := hR.go b1 s1 n2 (s3.trans (s4.trans (s5.trans (s6.trans (s7.trans s8)))))
    have g3 := hR.go b1 (s1.trans s2) n3 (s4.trans (s5.trans (s6.trans (s7.trans s8))))
    have g5 := hR.go b1 (s1.trans (s2.trans (s3.trans s4))) n5 (s6.trans (s7.trans s8))
    have g6 := hR.go b1 (s1.trans (s2.trans (s3.trans (s4.trans s5)))) n6 (s7.trans s8)
    have g8 := hR.go b1 (s1.trans (s2.trans (s3.trans (s4.trans (s5.trans (s6.trans s7)))))) n8 (Same.refl _)
    obtain ⟨v, hv, mv⟩ := at_in (xs := oddA l1 t1 d1 ++ oddB l2 t2) d0 d1'
    refine ⟨N, _, d, v, rfl, rfl, SqL.of g8, hv, ?_⟩
    exact q _ _ ((But.of s08).trans b1) R1 (kd_odd g1 g2 g3 g5 g6 mv)
end
end My

namespace My
open PySem PySem.Spec PyProof.Rows L2 Gy
abbrev sIs : Stmt := top 13
/-! ### the law's own reading of a text -/
def chOk (hd : Bool) (c : Nat) : Bool := (decide (97 ≤ c) && decide (c ≤ 122)) || (hd && (decide (48 ≤ c) && decide (c ≤ 57)))
def isOf (v : V) (n : Int) (hd : Bool) : Bool := match v with
  | .str x => decide ((1 : Int) ≤ (x.length : Int)) && decide ((x.length : Int) ≤ n) && x.cps.toList.all (chOk hd)
  | _ => false
theorem isOf_oth {v : V} (no : ∀ x, v ≠ .str x) (n : Int) (hd : Bool) : isOf v n hd = false := by
  cases v with
  | str x => exact absurd rfl (no x)
  | _ => rfl
theorem let_mem (c : Nat) : decide (c ∈ LET.cps.toList) = chOk false c := by
  have e : LET.cps.toList = [97, 98, 99, 100, 101, 102, 103, 104, 105, 106, 107, 108, 109, 110, 111, 112, 113, 114, 115, 116, 117, 118, 119, 120, 121, 122] := by decide +kernel
  unfold chOk
  rw [e, Bool.false_and, Bool.or_false, ← Bool.decide_and]
  congr 1
  simp only [List.mem_cons, List.not_mem_nil, or_false, eq_iff_iff]
  omega
theorem wrd_mem (c : Nat) : decide (c ∈ (LET ++ DIG).cps.toList) = chOk true c := by
  have e : (LET ++ DIG).cps.toList = [97, 98, 99, 100, 101, 102, 103, 104, 105, 106, 107, 108, 109, 110, 111, 112, 113, 114, 115, 116, 117, 118, 119, 120, 121, 122, 48, 49, 50, 51, 52, 53, 54, 55, 56, 57] := by decide +kernel
  unfold chOk
  rw [e, Bool.true_and, ← Bool.decide_and, ← Bool.decide_and, ← Bool.decide_or]
  congr 1
  simp only [List.mem_cons, List.not_mem_nil, or_false, eq_iff_iff]
  omega
theorem host_is (v : V) : textOf v LET 8 = isOf v 8 false := by
  cases v with
  | str x =>
    show (_ && _ && x.cps.toList.all _) = (_ && _ && x.cps.toList.all _)
    rw [show (fun c => decide (c ∈ LET.cps.toList)) = chOk false from funext let_mem]
  | _ => rfl
theorem word_is (v : V) : textOf v (LET ++ DIG) 12 = isOf v 12 true := by
  cases v with
  | str x =>
    show (_ && _ && x.cps.toList.all _) = (_ && _ && x.cps.toList.all _)
    rw [show (fun c => decide (c ∈ (LET ++ DIG).cps.toList)) = chOk true from funext wrd_mem]
  | _ => rfl
theorem lt1 (a b : Nat) : decide (([a] : List Nat) < [b]) = decide (a < b) := by
  congr 1
  simp [List.cons_lt_cons_iff]
theorem ge_sign (k : Nat) (x : Str) (hx : x.cps.toList = [k]) (c : Nat) : (!decide ((⟨#[c]⟩ : Str).cps.toList < x.cps.toList)) = decide (k ≤ c) := by
  rw [hx, show (⟨#[c]⟩ : Str).cps.toList = [c] from rfl, lt1, ← decide_not]
  congr 1
  simp only [Nat.not_lt]
theorem le_sign (k : Nat) (x : Str) (hx : x.cps.toList = [k]) (c : Nat) : (!decide (x.cps.toList < (⟨#[c]⟩ : Str).cps.toList)) = decide (c ≤ k) := by
  rw [hx, show (⟨#[c]⟩ : Str).cps.toList = [c] from rfl, lt1, ← decide_not]
  congr 1
  simp only [Nat.not_lt]
theorem take_all {l : List Nat} {p : Nat → Bool} {i c : Nat} (h : l[i]? = some c) : (l.take (i + 1)).all p = ((l.take i).all p && p c) := by
  rw [List.take_add_one, h, List.all_append]
  simp

section
variable {P : Program} {w : World} {K : PySem.W.Frag} {mg : Str → Option Value} {base : Heap}
def spIs (K : PySem.W.Frag) : Sp := fun vs H Q _ => ∃ (v : V) (n : Int) (hd : Bool), vs = [v, .int n, .bl hd] ∧ Kd K H v ∧ Q (.bl (isOf v n hd)) H
theorem scI : FnScope ["_law_thing", "_law_most", "_law_has_digits", "_law_sign"] ["_law_thing", "_law_most", "_law_has_digits"] (defScope sIs) :=
  ⟨rfl, rfl, rfl, by decide +kernel, rfl, by decide +kernel, by decide +kernel⟩
theorem ok_is {f : Addr} {fd : FuncData} (F : Fun K "_law_is_of" "_law_is_of" sIs f fd) (T : TxtN mg) :
    FnOk P w K mg base CX0 1 f fd ["_law_thing", "_law_most", "_law_has_digits"] (spIs K) := by
  refine F.ok scI (fun vs H Q E h => ?_) (fun cdv A outer s H vs Q E hr h => ?_)
  · obtain ⟨v, n, hd, rfl, _⟩ := h
    rfl
  · obtain ⟨v, n, hd, rfl, kd, q⟩ := h
    refine ⟨_, pss_cons (ps_if (PW.pt (pw_or
        (pt_not (pt_val (pe_callB call_isi (by rfl) T.isi (by decide +kernel) (pa_cons (pv 0) (pa_cons (pe_bltn (v := .ty "str") (by rfl) T.str (by decide +kernel) rfl) pa_nil)))))
        (pw_or (pt_cmpR op_lt (pe_callB call_len_str (by rfl) T.len PySem.boot_len (pa_cons (pv 0) pa_nil)) pe_int (nomark _))
        (pw_or1 (pt_cmpR op_gt (pe_callB call_len_str (by rfl) T.len PySem.boot_len (pa_cons (pv 0) pa_nil)) (pv 1) (nomark _))))))
        (pss_one (ps_ret pe_bl)) pss_nil)
      (pss_cons (ps_for PassesOwn.never rfl (pi_str (pv 0)) (pg_name (i := 3) scI.nd rfl (.inl rfl))
        (pss_one (ps_if (PW.pt (pw_and (pt_not (pt_chain op_le_str op_le_str pe_str (pv 3) pe_str))
            (pw_and1 (pt_not (PW.pt (pw_and (pt_val (pv 2)) (pw_and1 (pt_chain op_le_str op_le_str pe_str (pv 3) pe_str))))))))
          (pss_one (ps_ret pe_bl)) pss_nil)))
      (pss_one (ps_ret pe_bl))), ?_⟩
    cases kd with
    | oth ty no nos =>
      refine ⟨v, rfl, v, _, _, _, false, rfl, .ty "str", ty, kit_ty no, _, rfl, ?_⟩
      refine iteT (iteT ?_)
      rw [isOf_oth nos] at q
      exact q
    | str x hx =>
      refine ⟨_, rfl, _, _, _, _, true, rfl, .ty "str", .base (.str x), kit_ty (by decide +kernel), _, rfl, ?_⟩
      refine iteF ?_
      have e1 : isOf (.str x) n hd = (decide ((1 : Int) ≤ (x.length : Int)) && decide ((x.length : Int) ≤ n) && x.cps.toList.all (chOk hd)) := rfl
      refine ⟨_, rfl, _, rfl, hx, _, 1, rfl, rfl, _, rfl, ?_⟩
      by_cases c1 : (1 : Int) ≤ (x.length : Int)
      · rw [show decide ((x.length : Int) < 1) = false from decide_eq_false (by omega)]
        refine iteF ?_
        refine ⟨_, rfl, _, rfl, hx, _, rfl, _, n, rfl, rfl, _, rfl, ?_⟩
        by_cases c2 : (x.length : Int) ≤ n
        · rw [show decide (n < (x.length : Int)) = false from decide_eq_false (by omega)]
          refine iteF ?_
          rw [decide_eq_true c1, decide_eq_true c2, Bool.true_and, Bool.true_and] at e1
          refine ⟨_, rfl, x, rfl, ?_⟩
          refine for_it (walk_str (z := x)) (fun i σ H' => H' = H ∧ (∃ y, σ = [some (.str x), some (.int n), some (.bl hd), y]) ∧ (x.cps.toList.take i).all (chOk hd) = true)
            ⟨rfl, ⟨_, rfl⟩, rfl⟩ (fun _ _ _ _ _ => trivial) ?_ ?_
          · rintro i y σ H1 H2 hi ⟨rfl, ⟨y0, rfl⟩, ha⟩ ⟨rfl, c, hc, rfl⟩
            have hc' : x.cps.toList[i]? = some c := by rw [Array.getElem?_toList]; exact hc
            have bad : chOk hd c = false → isOf (.str x) n hd = false := fun z => by
              rw [e1]
              refine List.all_eq_false.mpr ⟨c, List.mem_of_getElem? hc', ?_⟩
              rw [z]
              exact Bool.false_ne_true
            have good : chOk hd c = true → (x.cps.toList.take (i + 1)).all (chOk hd) = true := fun z => by
              rw [take_all hc', ha, z]
              rfl
            refine ⟨_, rfl, _, _, rfl, rfl, _, rfl, ite2 (fun z => ?X) (fun z => ?Y)⟩
            case' X =>
              have z1 := of_decide_eq_true ((ge_sign 97 "a" (by decide +kernel) c).symm.trans z)
              refine ⟨_, _, rfl, rfl, _, rfl, ite2 (fun y => ?Z) (fun y => ?W)⟩
              case' Z =>
                have nz : (decide (97 ≤ c) && decide (c ≤ 122)) = false := by
                  rw [le_sign 122 "z" (by decide +kernel) c] at y
                  cases y2 : decide (c ≤ 122) with
                  | true => rw [y2] at y; cases y
                  | false => exact Bool.and_false _
              case W =>
                refine iteF ⟨rfl, ⟨_, rfl⟩, good ?_⟩
                rw [le_sign 122 "z" (by decide +kernel) c] at y
                unfold chOk
                cases y2 : decide (c ≤ 122) with
                | true => rw [decide_eq_true z1]; rfl
                | false => exact absurd (by rw [y2]; rfl) y
            case' Y =>
              have nz : (decide (97 ≤ c) && decide (c ≤ 122)) = false := by
                rw [ge_sign 97 "a" (by decide +kernel) c] at z
                rw [Bool.eq_false_iff.mpr z]
                rfl
              refine ⟨_, rfl, iteT ?_⟩
            all_goals
              refine ⟨_, rfl, hd, rfl, ite2 (fun u => ?_) (fun u => ?_)⟩
              · subst u
                refine ⟨_, rfl, _, _, rfl, rfl, _, rfl, ite2 (fun v1 => ?_) (fun v1 => ?_)⟩
                · have w1 := (ge_sign 48 "0" (by decide +kernel) c).symm.trans v1
                  refine ⟨_, _, rfl, rfl, _, rfl, ite2 (fun v2 => ?_) (fun v2 => ?_)⟩
                  · rw [bad (by
                      rw [le_sign 57 "9" (by decide +kernel) c] at v2
                      unfold chOk
                      rw [nz]
                      cases y2 : decide (c ≤ 57) with
                      | true => rw [y2] at v2; cases v2
                      | false => rw [Bool.and_false]; rfl)] at q
                    exact q
                  · refine ⟨rfl, ⟨_, rfl⟩, good ?_⟩
                    rw [le_sign 57 "9" (by decide +kernel) c] at v2
                    unfold chOk
                    rw [nz, w1]
                    cases y2 : decide (c ≤ 57) with
                    | true => rfl
                    | false => exact absurd (by rw [y2]; rfl) v2
                · rw [ge_sign 48 "0" (by decide +kernel) c] at v1
                  refine ⟨_, rfl, iteT ?_⟩
                  rw [bad (by
                    unfold chOk
                    rw [nz, Bool.eq_false_iff.mpr v1]
                    rfl)] at q
                  exact q
              · refine iteT ?_
                rw [bad (by
                  unfold chOk
                  rw [nz, Bool.eq_false_iff.mpr u]
                  rfl)] at q
                exact q
          · rintro σ H1 ⟨rfl, ⟨y0, rfl⟩, ha⟩
            rw [List.take_of_length_le (by rw [Array.length_toList]; exact Nat.le_refl _)] at ha
            rw [e1, ha] at q
            exact q
        · rw [show decide (n < (x.length : Int)) = true from decide_eq_true (by omega)]
          refine iteT ?_
          rw [decide_eq_false c2, Bool.and_false, Bool.false_and] at e1
          rw [e1] at q
          exact q
      · rw [show decide ((x.length : Int) < 1) = true from decide_eq_true (by omega)]
        refine iteT (iteT ?_)
        rw [decide_eq_false c1, Bool.false_and, Bool.false_and] at e1
        rw [e1] at q
        exact q
end
end My

namespace My
open PySem PySem.Spec PyProof.Rows L2 Gy
abbrev sRight : Stmt := top 14
abbrev sLaw : Stmt := top 15
theorem ty_same {K : PySem.W.Frag} {H H' : Hp} {v : V} {t : Value} (s : Same H H') (h : TyX K H v t) : TyX K H' v t := by
  cases h with
  | base b =>
    cases b with
    | non => exact .base .non
    | bl x => exact .base (.bl x)
    | int x => exact .base (.int x)
    | str x => exact .base (.str x)
    | flt x => exact .base (.flt x)
    | lst e => exact .base (.lst (s _ _ e))
    | frz e => exact .base (.frz (s _ _ e))
    | tup e => exact .base (.tup (s _ _ e))
    | dK e => exact .base (.dK (s _ _ e))
    | dT e => exact .base (.dT (s _ _ e))
    | ins e a b c d g => exact .base (.ins (s _ _ e) a b c d g)
  | byt b => exact .byt b
  | set e => exact .set (s _ _ e)
  | kList e c => exact .kList e c
  | kTuple e c => exact .kTuple e c
  | kDict e c => exact .kDict e c
  | fTuple e => exact .fTuple (s _ _ e)
  | fDict e => exact .fDict (s _ _ e)
theorem Kd.same {K : PySem.W.Frag} {H H' : Hp} {v : V} (s : Same H H') (h : Kd K H v) : Kd K H' v := by
  cases h with
  | str x hx => exact .str x hx
  | oth ty n no => exact .oth (ty_same s ty) n no
section
variable {P : Program} {w : World} {K : PySem.W.Frag} {mg : Str → Option Value} {base : Heap}
theorem fun_g0 {k : Nat} {f : Addr} {fd : FuncData} {ps N : List Str} {sp : Sp} {x qual : Str} {st : Stmt} (F : Fun K x qual st f fd) (S : FnScope N ps (defScope st)) (ln : ∀ {vs H Q E}, sp vs H Q E → vs.length = ps.length)
    (bd : ∀ (cdv : Value) (A : Around) (outer : List Env) (s : Shared) (H : Hp) (vs : List V) (Q : VK) (E : XK), A.guards = some [] →
      Room k (A.deeper (envOfC qual (defScope st) s.heap.objs.size f cdv)) → sp vs H Q E →
      ∃ t, PSs (cxOf CX0 P w K mg base N qual (defScope st) f cdv A outer s H E).nox (defBody st) t ∧
        t { nx := fun _ H' => Q .non H', rt := Q } (start N vs) H) : FnG P w K mg base CX0 (k + 1) f fd ps sp := by
  refine fun_g F S ln fun cdv A outer s H vs Q E g hr h => ?_
  obtain ⟨t, ht, hq⟩ := bd cdv A outer s H vs Q E g hr h
  exact ⟨t, ht.nox, hq⟩
/-- a def of one parameter, called by its name -/
theorem kb1 {x qual p : Str} {st : Stmt} {f : Addr} {fd : FuncData} (F : Fun K x qual st f fd)
    (h : ∀ (kV doc pm : Value) (an : Option Addr) (cdv ct : Value) (u : Value), bindArgs (PySem.W.fnOf x qual (defArgs st) (defBody st) (defScope st) .none kV doc pm an cdv ct) ⟨[], [(p, u)]⟩ = pure [(p, u)])
    (h' : ∀ (kV doc pm : Value) (an : Option Addr) (cdv ct : Value) (u : Value), bindArgs (PySem.W.fnOf x qual (defArgs st) (defBody st) (defScope st) .none kV doc pm an cdv ct) ⟨[u], []⟩ = pure [(p, u)]) :
    KBinds K fd [p] [p] (fun us ws => us ++ ws) (fun vs zs => vs ++ zs) := by
  obtain ⟨oc, od, kV, doc, pm, an, cdv, ct, osl, rfl, lk, hcd⟩ := F.ex
  refine ⟨fun s us ws _ hl => ?_, fun r z => r.append z⟩
  match us, ws, hl with
  | [], [u], _ => exact .of_eq (h kV doc pm an cdv ct u)
  | [u], [], _ => exact .of_eq (h' kV doc pm an cdv ct u)

structure TxtL (mg : Str → Option Value) (fH fW fI : Addr) : Prop where
  gH : mg "is_host_name" = some (.ref fH)
  gW : mg "is_word" = some (.ref fW)
  gI : mg "_law_is_of" = some (.ref fI)
  range : mg "range" = none
  repr : mg "repr" = none
def two (a b : Bool) : PyData := .list [.bool a, .bool b]
theorem two_len (a b : Bool) : (two a b).shown.length ≤ sizeLine := by
  cases a <;> cases b <;> decide +kernel
theorem two_ok {K : PySem.W.Frag} {H : Hp} {l : Addr} {a b : Bool} (h : H l = some (.lst [.bl a, .bl b])) : Dp K H (.ref l) (two a b) :=
  .lst (SqL.of h) (.cons (.bl a) (.cons (.bl b) .nil))
def spRight (K : PySem.W.Frag) : Sp := fun vs H Q _ => ∃ v : V, vs = [v] ∧ Kd K H v ∧ ∀ H', Same H H' → Q (.bl true) H'
theorem scG : FnScope ["_law_thing", "_law_due", "_law_turn"] ["_law_thing"] (defScope sRight) := ⟨rfl, rfl, rfl, by decide +kernel, rfl, by decide +kernel, by decide +kernel⟩
theorem ok_right {f fH fW fI : Addr} {fd fdH fdW fdI : FuncData} (F : Fun K "_law_right" "_law_right" sRight f fd) (T : TxtL mg fH fW fI) (kH : PySem.W.keepIn K (.ref fH) = true) (kW : PySem.W.keepIn K (.ref fW) = true) (kI : PySem.W.keepIn K (.ref fI) = true)
    (GH : FnOk P w K mg base CX0 2 fH fdH ["value"] (spHost K)) (bH : Binds K fdH ["value"] []) (cH : KBinds K fdH ["value"] ["value"] (fun us ws => us ++ ws) (fun vs zs => vs ++ zs))
    (GW : FnOk P w K mg base CX0 2 fW fdW ["value"] (spWord K)) (bW : Binds K fdW ["value"] []) (cW : KBinds K fdW ["value"] ["value"] (fun us ws => us ++ ws) (fun vs zs => vs ++ zs))
    (GI : FnOk P w K mg base CX0 1 fI fdI ["_law_thing", "_law_most", "_law_has_digits"] (spIs K)) (bI : Binds K fdI ["_law_thing", "_law_most", "_law_has_digits"] []) :
    FnG P w K mg base CX0 3 f fd ["_law_thing"] (spRight K) := by
  refine fun_g0 F scG (fun {vs H Q E} h => ?_) (fun cdv A outer s H vs Q E gd hr h => ?_)
  · obtain ⟨v, rfl, _⟩ := h
    rfl
  · obtain ⟨v, rfl, kd, q⟩ := h
    have hr1 : Room 1 _ := hr.mono (by decide)
    have hu : (A.deeper (envOfC "_law_right" (defScope sRight) s.heap.objs.size f cdv)).units + 70 < cLine := by
      have := hr.un
      omega
    refine ⟨_, pss_cons (ps_set (i := 1) scG.nd rfl (.inl rfl) (pe_lst (pa_cons (pe_call GI hr1 (by rfl) T.gI kI bI .nil pass0 (pa_cons (pv 0) (pa_cons pe_int (pa_cons pe_bl pa_nil))))
          (pa_cons (pe_call GI hr1 (by rfl) T.gI kI bI .nil pass0 (pa_cons (pv 0) (pa_cons pe_int (pa_cons pe_bl pa_nil)))) pa_nil))))
      (pss_cons (ps_for PassesOwn.never rfl (pi_range1 (by rfl) T.range (pa_cons pe_int pa_nil)) (pg_name (i := 2) scG.nd rfl (.inl rfl))
        (pss_one (ps_if (pt_cmpR op_ne (pe_callB (repr_dat gd hu) (by rfl) T.repr (by decide +kernel) (pa_cons (pe_lst (pa_cons (pe_call GH hr (by rfl) T.gH kH bH .nil pass0 (pa_cons (pv 0) pa_nil)) (pa_cons (pe_call GW hr (by rfl) T.gW kW bW .nil pass0 (pa_cons (pv 0) pa_nil)) pa_nil))) pa_nil))
            (pe_callB (repr_dat gd hu) (by rfl) T.repr (by decide +kernel) (pa_cons (pv 1) pa_nil)) (nomark _)) (pss_one (ps_ret pe_bl)) pss_nil)))
      (pss_one (ps_ret (pe_cmpR op_eq (pe_callB (repr_dat gd hu) (by rfl) T.repr (by decide +kernel) (pa_cons (pe_lst (pa_cons (pe_kw0 GH hr (by rfl) T.gH kH cH pass0 (pk_cons (pv 0) pk_nil)) (pa_cons (pe_kw0 GW hr (by rfl) T.gW kW cW pass0 (pk_cons (pv 0) pk_nil)) pa_nil))) pa_nil))
            (pe_callB (repr_dat gd hu) (by rfl) T.repr (by decide +kernel) (pa_cons (pv 1) pa_nil)) (nomark _))))), ?_⟩
    refine ⟨_, rfl, v, 8, false, rfl, kd, _, rfl, v, 12, true, rfl, kd, (by show 2 ≤ sizeLine; decide), fun L hL => ?_⟩
    have s0 := same_upd (o := .lst [.bl (isOf v 8 false), .bl (isOf v 12 true)]) hL
    -- the two turns
    refine ⟨2, rfl, by decide, by decide, ?_⟩
    refine for_it (walk_range (lo := 0) (n := 2)) (fun i σ H' => Same (upd H L (.lst [.bl (isOf v 8 false), .bl (isOf v 12 true)])) H' ∧ ∃ y, σ = [some v, some (.ref L), y])
      ⟨Same.refl _, _, rfl⟩ (fun _ _ _ _ _ => trivial) ?_ ?_
    · rintro i y σ H1 H2 hi ⟨sm, y0, rfl⟩ ⟨rfl, rfl⟩
      have hL1 := sm L _ upd_same
      refine ⟨_, rfl, v, rfl, kd.same (s0.trans sm), fun H3 s3 => ?_⟩
      refine ⟨_, rfl, v, rfl, kd.same ((s0.trans sm).trans s3), fun H4 s4 => ?_⟩
      refine ⟨(by show 2 ≤ sizeLine; decide), fun M hM => ?_⟩
      rw [host_is, word_is]
      have s5 := same_upd (o := .lst [.bl (isOf v 8 false), .bl (isOf v 12 true)]) hM
      refine ⟨M, _, rfl, two_ok upd_same, rfl, rfl, (by show 1 ≤ 60; decide), two_len _ _, ?_⟩
      refine ⟨_, rfl, L, _, rfl, two_ok (s5 _ _ (s4 _ _ (s3 _ _ hL1))), rfl, rfl, (by show 1 ≤ 60; decide), two_len _ _, rfl, _, rfl, ?_⟩
      refine iteNS rfl ?_
      exact ⟨((sm.trans s3).trans s4).trans s5, _, rfl⟩
    · rintro σ H1 ⟨sm, y0, rfl⟩
      have hL1 := sm L _ upd_same
      refine ⟨_, rfl, v, rfl, kd.same (s0.trans sm), fun H3 s3 => ?_⟩
      refine ⟨_, rfl, v, rfl, kd.same ((s0.trans sm).trans s3), fun H4 s4 => ?_⟩
      refine ⟨(by show 2 ≤ sizeLine; decide), fun M hM => ?_⟩
      rw [host_is, word_is]
      have s5 := same_upd (o := .lst [.bl (isOf v 8 false), .bl (isOf v 12 true)]) hM
      refine ⟨M, _, rfl, two_ok upd_same, rfl, rfl, (by show 1 ≤ 60; decide), two_len _ _, ?_⟩
      refine ⟨_, rfl, L, _, rfl, two_ok (s5 _ _ (s4 _ _ (s3 _ _ hL1))), rfl, rfl, (by show 1 ≤ 60; decide), two_len _ _, rfl, ?_⟩
      rw [decide_eq_true rfl]
      exact q _ ((s0.trans sm).trans ((s3.trans s4).trans s5))
end
end My

namespace My
open PySem PySem.Spec PyProof.Rows L2 Gy
section
variable {P : Program} {w : World} {K : PySem.W.Frag} {mg : Str → Option Value} {base : Heap}
structure TxtE (mg : Str → Option Value) (fR fD fS fO fG : Addr) : Prop where
  gR : mg "_law_rng" = some (.ref fR)
  gD : mg "_law_draw" = some (.ref fD)
  gS : mg "_law_string" = some (.ref fS)
  gO : mg "_law_odd" = some (.ref fO)
  gG : mg "_law_right" = some (.ref fG)
  range : mg "range" = none
  max : mg "max" = none
  min : mg "min" = none
  len : mg "len" = none
  all : mg "all" = none
def spLaw (K : PySem.W.Frag) : Sp := fun vs H Q _ => ∃ (a : Addr) (ns : List Int), vs = [.ref a] ∧ SqL K H a (ns.map V.int) ∧ ns.length ≤ 63 ∧ ∀ H', Q (.bl true) H'
theorem scL : FnScope ["_law_script", "_law_k", "_law_rng_here", "_law_near", "_law_thing"] ["_law_script"] (defScope sLaw) := ⟨rfl, rfl, rfl, by decide +kernel, rfl, by decide +kernel, by decide +kernel⟩
theorem all_true {n : Nat} : ((List.replicate n true).all id) = true := by
  induction n with
  | zero => rfl
  | succ n ih => rw [List.replicate_succ, List.all_cons, ih]; rfl
theorem ok_law {f fR fD fS fO fG : Addr} {fd fdR fdD fdS fdO fdG : FuncData} (F : Fun K "law" "law" sLaw f fd) (T : TxtE mg fR fD fS fO fG)
    (kR : PySem.W.keepIn K (.ref fR) = true) (kD : PySem.W.keepIn K (.ref fD) = true) (kS : PySem.W.keepIn K (.ref fS) = true) (kO : PySem.W.keepIn K (.ref fO) = true) (kG : PySem.W.keepIn K (.ref fG) = true)
    (GR : FnOk P w K mg base CX0 1 fR fdR ["_law_script", "_law_k"] (spRng K)) (bR : Binds K fdR ["_law_script", "_law_k"] [])
    (GD : FnOk P w K mg base CX0 1 fD fdD ["_law_rng_here", "_law_many"] spDraw) (bD : Binds K fdD ["_law_rng_here", "_law_many"] [])
    (GS : FnOk P w K mg base CX0 2 fS fdS ["_law_rng_here"] spStr) (bS : Binds K fdS ["_law_rng_here"] [])
    (GO : FnOk P w K mg base CX0 2 fO fdO ["_law_rng_here"] (spOdd K)) (bO : Binds K fdO ["_law_rng_here"] [])
    (GG : FnG P w K mg base CX0 3 fG fdG ["_law_thing"] (spRight K)) (bG : Binds K fdG ["_law_thing"] []) :
    FnG P w K mg base CX0 4 f fd ["_law_script"] (spLaw K) := by
  refine fun_g0 F scL (fun {vs H Q E} h => ?_) (fun cdv A outer s H vs Q E gd hr h => ?_)
  · obtain ⟨a, ns, rfl, _⟩ := h
    rfl
  · obtain ⟨a, ns, rfl, hS, hn, q⟩ := h
    have hr1 : Room 1 _ := hr.mono (by decide)
    have hr2 : Room 2 _ := hr.mono (by decide)
    refine ⟨_, pss_cons (ps_for PassesOwn.never rfl (pi_range1 (by rfl) T.range (pa_cons (pe_callB (call_max2 rfl) (by rfl) T.max (by decide +kernel) (pa_cons pe_int (pa_cons (pe_callB (call_min2 rfl) (by rfl) T.min (by decide +kernel)
          (pa_cons pe_int (pa_cons (pe_callB call_len_seq (by rfl) T.len PySem.boot_len (pa_cons (pv 0) pa_nil)) pa_nil))) pa_nil))) pa_nil)) (pg_name (i := 1) scL.nd rfl (.inl rfl))
        (pss_cons (ps_set (i := 2) scL.nd rfl (.inl rfl) (pe_call GR hr1 (by rfl) T.gR kR bR .nil pass0 (pa_cons (pv 0) (pa_cons (pv 1) pa_nil))))
        (pss_cons (ps_set (i := 3) scL.nd rfl (.inl rfl) (pe_ix ix_str pe_str (pe_call GD hr1 (by rfl) T.gD kD bD .nil pass0 (pa_cons (pv 2) (pa_cons pe_int pa_nil))) (fun _ _ => rfl)))
        (pss_one (ps_if (pt_not (pt_val (pe_callB (cr_all rfl) (by rfl) T.all (by decide +kernel) (pa_cons
            (pe_lc (own := [("_law_thing", 4)]) (g := gName 4) (tt := tYes) rfl scL.nd (pi_list (pe_lst (pa_cons (pe_call GS hr2 (by rfl) T.gS kS bS .nil pass0 (pa_cons (pv 2) pa_nil)) (pa_cons (pv 3)
                (pa_cons (pe_call GO hr2 (by rfl) T.gO kO bO .nil pass0 (pa_cons (pv 2) pa_nil)) (pa_cons (pe_op op_add_str (pv 3) pe_str) pa_nil))))))
              (blkOk_by (N := ["_law_script", "_law_k", "_law_rng_here", "_law_near", "_law_thing"]) (sc := defScope sLaw) (by decide +kernel))
              (fun _ _ _ _ _ => pg_name (i := 4) scL.nd rfl (Or.inl rfl)) (fun _ _ _ _ _ => pts_nil)
              (fun _ _ _ _ _ => pe_callG GG gd hr (by rfl) T.gG kG bG (E := E0) pass0 (pa_cons (pv 4) pa_nil))) pa_nil))))
          (pss_one (ps_ret pe_bl)) pss_nil)))))
      (pss_one (ps_ret pe_bl)), ?_⟩
    refine ⟨_, rfl, a, _, rfl, .inl hS, 12, _, rfl, 1, _, rfl, _, rfl, ?_, ?_, ?_⟩
    · rw [List.length_map]
      split <;> split <;> omega
    · rw [List.length_map]
      split <;> split <;> omega
    · generalize hm : (Int.toNat _) = m
      have m12 : m ≤ 12 := by
        rw [List.length_map] at hm
        rw [← hm]
        split <;> split <;> omega
      refine for_it (walk_range (lo := 0) (n := m)) (fun i σ H' => Same H H' ∧ ∃ y1 y2 y3 y4, σ = [some (.ref a), y1, y2, y3, y4]) ⟨Same.refl _, _, _, _, _, rfl⟩ (fun _ _ _ _ _ => trivial) ?_ ?_
      · rintro i y σ H1 H2 hi ⟨sm, y1, y2, y3, y4, rfl⟩ ⟨rfl, rfl⟩
        refine ⟨_, rfl, _, rfl, a, ns, i, (by show [V.ref a, V.int (0 + (i : Int))] = _; rw [Int.zero_add]), sm.seq hS, by omega, fun H3 r s3 nr R3 => ?_⟩
        refine ⟨_, rfl, r, 14, rfl, R3, by decide, by decide, fun H4 d b4 R4 d0 d1 => ?_⟩
        obtain ⟨c, hc, _⟩ := at_in (xs := ("`az{/09:@AZ[ -_" : Str).cps.toList) d0 (Int.lt_trans d1 (by decide +kernel))
        refine ⟨_, d, c, rfl, rfl, by decide +kernel, hc, ?_⟩
        refine ⟨_, rfl, r, rfl, R4, fun H5 x b5 R5 hx => ?_⟩
        refine ⟨_, rfl, _, rfl, r, rfl, R5, fun H6 v b6 R6 kv => ?_⟩
        refine ⟨_, rfl, _, _, rfl, rfl, (by show 1 + 1 ≤ sizeLine; decide), (by show 4 ≤ sizeLine; decide), fun M nM => ?_⟩
        refine ⟨M, rfl, ⟨_, SqL.of upd_same⟩, fun D nD => ?_⟩
        have nDM : M ≠ D := fun z => by
          rw [← z, upd_same] at nD
          cases nD
        have sM := same_upd (o := .lst [V.str x, .str ⟨#[c]⟩, v, .str ((⟨#[c]⟩ : Str) ++ "a")]) nM
        have sD := same_upd (o := .lst []) nD
        have keepAll : Same H2 H6 := fun b o e => by
          have nb : b ≠ r := fun z => by
            rw [z] at e
            rw [nr] at e
            cases e
          exact b6 b o nb (b5 b o nb (b4 b o nb (s3 b o e)))
        refine lc_list (K := K) (a := M) (xs := [V.str x, .str ⟨#[c]⟩, v, .str ((⟨#[c]⟩ : Str) ++ "a")])
          (fun i H' => Same (upd H6 M (.lst [V.str x, .str ⟨#[c]⟩, v, .str ((⟨#[c]⟩ : Str) ++ "a")])) H' ∧ H' D = some (.lst ((List.replicate i true).map V.bl)))
          ⟨sD, upd_same⟩ (fun i H' _ h => SqL.of (h.1 _ _ upd_same)) ?_ ?_
        · rintro j u H7 hj ⟨s7, h7⟩
          have kd : Kd K H7 u := by
            have mem := List.mem_of_getElem? hj
            simp only [List.mem_cons, List.not_mem_nil, or_false] at mem
            rcases mem with rfl | rfl | rfl | rfl
            · exact .str _ (Nat.le_of_lt (small200 (by omega)))
            · exact .str _ (by show 1 ≤ sizeLine; decide)
            · exact (kv.same sM).same s7
            · exact .str _ (by show 2 ≤ sizeLine; decide)
          have hj4 : j < 4 := (List.getElem?_eq_some_iff.mp hj).1
          refine ⟨rfl, ?_⟩
          dsimp only [tYes]
          refine iteT ?_
          refine ⟨_, rfl, u, rfl, kd, fun H8 s8 => ⟨_, s8 _ _ h7, ?_, ?_, ?_⟩⟩
          · rw [List.length_map, List.length_replicate]
            exact small200 (by omega)
          · exact same_upd2 (s7.trans s8) nD
          · rw [upd_same, List.replicate_succ', List.map_append]
            rfl
        · rintro H7 ⟨s7, h7⟩
          refine ⟨D, _, rfl, SqL.of h7, _, rfl, ?_⟩
          rw [all_true]
          refine iteF ?_
          exact ⟨(sm.trans keepAll).trans (sM.trans s7), _, _, _, _, rfl⟩
      · rintro σ H1 ⟨sm, y1, y2, y3, y4, rfl⟩
        exact q _
end
end My

namespace My
open PySem PySem.Spec PyProof.Rows L2 Gy
theorem all_mk {l : PySem.W.OpenLaw} {w : World} {K : PySem.W.Frag} {h : Heap} {mg : Str → Option Value} {fa f1 f2 f3 f4 f5 f6 f7 f8 f9 f10 : Addr} (X : K.In h) (G : h.Ns mainGlobals mg) (hfa : mg "law" = some (.ref fa))
    {od1 an1 od2 an2 od3 an3 od4 an4 od5 an5 od6 an6 od7 an7 od8 an8 od9 an9 od10 an10 : Option Addr} {sl1 sl2 sl3 sl4 sl5 sl6 sl7 sl8 sl9 sl10 : Array (Option Value)} {oc1 kV1 dc1 pm1 cd1 ct1 oc2 kV2 dc2 pm2 cd2 ct2 oc3 kV3 dc3 pm3 cd3 ct3 oc4 kV4 dc4 pm4 cd4 ct4 oc5 kV5 dc5 pm5 cd5 ct5 oc6 kV6 dc6 pm6 cd6 ct6 oc7 kV7 dc7 pm7 cd7 ct7 oc8 kV8 dc8 pm8 cd8 ct8 oc9 kV9 dc9 pm9 cd9 ct9 oc10 kV10 dc10 pm10 cd10 ct10 : Value}
    {t1 t2 t3 t4 : Tok}
    (a1 : PySem.W.nsIn K mainGlobals "is_host_name" = some (some (.ref f1))) (l1 : K.lookup f1 = some ⟨oc1, od1, .func (PySem.W.fnOf "is_host_name" "is_host_name" (defArgs sHost) (defBody sHost) (defScope sHost) .none kV1 dc1 pm1 an1 cd1 ct1), sl1⟩) (c1 : PySem.W.codeIn K cd1 "is_host_name" = true) (k1 : PySem.W.keepIn K (.ref f1) = true)
    (a2 : PySem.W.nsIn K mainGlobals "is_word" = some (some (.ref f2))) (l2 : K.lookup f2 = some ⟨oc2, od2, .func (PySem.W.fnOf "is_word" "is_word" (defArgs sWord) (defBody sWord) (defScope sWord) .none kV2 dc2 pm2 an2 cd2 ct2), sl2⟩) (c2 : PySem.W.codeIn K cd2 "is_word" = true) (k2 : PySem.W.keepIn K (.ref f2) = true)
    (a3 : PySem.W.nsIn K mainGlobals "is_text_of" = some (some (.ref f3))) (l3 : K.lookup f3 = some ⟨oc3, od3, .func (PySem.W.fnOf "is_text_of" "is_text_of" (defArgs sText) (defBody sText) (defScope sText) .none kV3 dc3 pm3 an3 cd3 ct3), sl3⟩) (c3 : PySem.W.codeIn K cd3 "is_text_of" = true) (k3 : PySem.W.keepIn K (.ref f3) = true)
    (a4 : PySem.W.nsIn K mainGlobals "_law_rng" = some (some (.ref f4))) (l4 : K.lookup f4 = some ⟨oc4, od4, .func (PySem.W.fnOf "_law_rng" "_law_rng" (defArgs sRng) (defBody sRng) (defScope sRng) .none kV4 dc4 pm4 an4 cd4 ct4), sl4⟩) (c4 : PySem.W.codeIn K cd4 "_law_rng" = true) (k4 : PySem.W.keepIn K (.ref f4) = true)
    (a5 : PySem.W.nsIn K mainGlobals "_law_draw" = some (some (.ref f5))) (l5 : K.lookup f5 = some ⟨oc5, od5, .func (PySem.W.fnOf "_law_draw" "_law_draw" (defArgs sDraw) (defBody sDraw) (defScope sDraw) .none kV5 dc5 pm5 an5 cd5 ct5), sl5⟩) (c5 : PySem.W.codeIn K cd5 "_law_draw" = true) (k5 : PySem.W.keepIn K (.ref f5) = true)
    (a6 : PySem.W.nsIn K mainGlobals "_law_string" = some (some (.ref f6))) (l6 : K.lookup f6 = some ⟨oc6, od6, .func (PySem.W.fnOf "_law_string" "_law_string" (defArgs sStr) (defBody sStr) (defScope sStr) .none kV6 dc6 pm6 an6 cd6 ct6), sl6⟩) (c6 : PySem.W.codeIn K cd6 "_law_string" = true) (k6 : PySem.W.keepIn K (.ref f6) = true)
    (a7 : PySem.W.nsIn K mainGlobals "_law_odd" = some (some (.ref f7))) (l7 : K.lookup f7 = some ⟨oc7, od7, .func (PySem.W.fnOf "_law_odd" "_law_odd" (defArgs sOdd) (defBody sOdd) (defScope sOdd) .none kV7 dc7 pm7 an7 cd7 ct7), sl7⟩) (c7 : PySem.W.codeIn K cd7 "_law_odd" = true) (k7 : PySem.W.keepIn K (.ref f7) = true)
    (a8 : PySem.W.nsIn K mainGlobals "_law_is_of" = some (some (.ref f8))) (l8 : K.lookup f8 = some ⟨oc8, od8, .func (PySem.W.fnOf "_law_is_of" "_law_is_of" (defArgs sIs) (defBody sIs) (defScope sIs) .none kV8 dc8 pm8 an8 cd8 ct8), sl8⟩) (c8 : PySem.W.codeIn K cd8 "_law_is_of" = true) (k8 : PySem.W.keepIn K (.ref f8) = true)
    (a9 : PySem.W.nsIn K mainGlobals "_law_right" = some (some (.ref f9))) (l9 : K.lookup f9 = some ⟨oc9, od9, .func (PySem.W.fnOf "_law_right" "_law_right" (defArgs sRight) (defBody sRight) (defScope sRight) .none kV9 dc9 pm9 an9 cd9 ct9), sl9⟩) (c9 : PySem.W.codeIn K cd9 "_law_right" = true) (k9 : PySem.W.keepIn K (.ref f9) = true)
    (a10 : PySem.W.nsIn K mainGlobals "law" = some (some (.ref f10))) (l10 : K.lookup f10 = some ⟨oc10, od10, .func (PySem.W.fnOf "law" "law" (defArgs sLaw) (defBody sLaw) (defScope sLaw) .none kV10 dc10 pm10 an10 cd10 ct10), sl10⟩) (c10 : PySem.W.codeIn K cd10 "law" = true) (k10 : PySem.W.keepIn K (.ref f10) = true)
    (v1 : PySem.W.nsIn K mainGlobals "LETTERS" = some (some (.str LET t1)))
    (v2 : PySem.W.nsIn K mainGlobals "DIGITS" = some (some (.str DIG t2)))
    (v3 : PySem.W.nsIn K mainGlobals "LONGEST_NAME" = some (some (.int 8 t3)))
    (v4 : PySem.W.nsIn K mainGlobals "LONGEST_WORD" = some (some (.int 12 t4)))
    (z1 : PySem.W.nsIn K mainGlobals "isinstance" = some none)
    (z2 : PySem.W.nsIn K mainGlobals "str" = some none)
    (z3 : PySem.W.nsIn K mainGlobals "len" = some none)
    (z4 : PySem.W.nsIn K mainGlobals "all" = some none)
    (z5 : PySem.W.nsIn K mainGlobals "abs" = some none)
    (z6 : PySem.W.nsIn K mainGlobals "max" = some none)
    (z7 : PySem.W.nsIn K mainGlobals "divmod" = some none)
    (z8 : PySem.W.nsIn K mainGlobals "range" = some none)
    (z9 : PySem.W.nsIn K mainGlobals "repr" = some none)
    (z10 : PySem.W.nsIn K mainGlobals "min" = some none) :
    ∃ fd : FuncData, (∀ (s : Shared) (v : Value), BindsTo s fd ⟨[v], []⟩ [("_law_script", v)]) ∧ ∀ base : Heap, K.In base → base.Ns mainGlobals mg → FnG l.prog w K mg base CX0 4 fa fd ["_law_script"] (spLaw K) := by
  have e := hfa.symm.trans (PySem.W.mg_of X G a10)
  cases e
  have F1 := fun_mk (st := sHost) l1 c1 k1
  have b1 := F1.binds (ps := ["value"]) fun _ _ _ _ _ _ us hl => match us, hl with | [_], _ => rfl
  have m1 := PySem.W.mg_of X G a1
  have F2 := fun_mk (st := sWord) l2 c2 k2
  have b2 := F2.binds (ps := ["value"]) fun _ _ _ _ _ _ us hl => match us, hl with | [_], _ => rfl
  have m2 := PySem.W.mg_of X G a2
  have F3 := fun_mk (st := sText) l3 c3 k3
  have b3 := F3.binds (ps := ["value", "characters", "longest"]) fun _ _ _ _ _ _ us hl => match us, hl with | [_, _, _], _ => rfl
  have m3 := PySem.W.mg_of X G a3
  have F4 := fun_mk (st := sRng) l4 c4 k4
  have b4 := F4.binds (ps := ["_law_script", "_law_k"]) fun _ _ _ _ _ _ us hl => match us, hl with | [_, _], _ => rfl
  have m4 := PySem.W.mg_of X G a4
  have F5 := fun_mk (st := sDraw) l5 c5 k5
  have b5 := F5.binds (ps := ["_law_rng_here", "_law_many"]) fun _ _ _ _ _ _ us hl => match us, hl with | [_, _], _ => rfl
  have m5 := PySem.W.mg_of X G a5
  have F6 := fun_mk (st := sStr) l6 c6 k6
  have b6 := F6.binds (ps := ["_law_rng_here"]) fun _ _ _ _ _ _ us hl => match us, hl with | [_], _ => rfl
  have m6 := PySem.W.mg_of X G a6
  have F7 := fun_mk (st := sOdd) l7 c7 k7
  have b7 := F7.binds (ps := ["_law_rng_here"]) fun _ _ _ _ _ _ us hl => match us, hl with | [_], _ => rfl
  have m7 := PySem.W.mg_of X G a7
  have F8 := fun_mk (st := sIs) l8 c8 k8
  have b8 := F8.binds (ps := ["_law_thing", "_law_most", "_law_has_digits"]) fun _ _ _ _ _ _ us hl => match us, hl with | [_, _, _], _ => rfl
  have m8 := PySem.W.mg_of X G a8
  have F9 := fun_mk (st := sRight) l9 c9 k9
  have b9 := F9.binds (ps := ["_law_thing"]) fun _ _ _ _ _ _ us hl => match us, hl with | [_], _ => rfl
  have m9 := PySem.W.mg_of X G a9
  have F10 := fun_mk (st := sLaw) l10 c10 k10
  have b10 := F10.binds (ps := ["_law_script"]) fun _ _ _ _ _ _ us hl => match us, hl with | [_], _ => rfl
  have m10 := PySem.W.mg_of X G a10
  have w1 := PySem.W.mg_of X G v1
  have w2 := PySem.W.mg_of X G v2
  have w3 := PySem.W.mg_of X G v3
  have w4 := PySem.W.mg_of X G v4
  have y1 := PySem.W.mg_none_of X G z1
  have y2 := PySem.W.mg_none_of X G z2
  have y3 := PySem.W.mg_none_of X G z3
  have y4 := PySem.W.mg_none_of X G z4
  have y5 := PySem.W.mg_none_of X G z5
  have y6 := PySem.W.mg_none_of X G z6
  have y7 := PySem.W.mg_none_of X G z7
  have y8 := PySem.W.mg_none_of X G z8
  have y9 := PySem.W.mg_none_of X G z9
  have y10 := PySem.W.mg_none_of X G z10
  refine ⟨PySem.W.fnOf "law" "law" (defArgs sLaw) (defBody sLaw) (defScope sLaw) .none kV10 dc10 pm10 an10 cd10 ct10, fun s v => .of_eq rfl, fun base _ _ => ?_⟩
  have TN : TxtN mg := ⟨y1, y2, y3, y4⟩
  have TC : TxtC mg f3 := ⟨m3, ⟨_, w1⟩, ⟨_, w2⟩, ⟨_, w3⟩, ⟨_, w4⟩⟩
  have TR : TxtR mg := ⟨y3, y5, y6, y7⟩
  have TS : TxtS mg f5 := ⟨y3, y8, m5⟩
  have TL : TxtL mg f1 f2 f8 := ⟨m1, m2, m8, y8, y9⟩
  have TE : TxtE mg f4 f5 f6 f7 f9 := ⟨m4, m5, m6, m7, m9, y8, y6, y10, y3, y4⟩
  exact ok_law F10 TE k4 k5 k6 k7 k9 (ok_rng F4 TR) b4 (ok_draw F5 TR) b5 (ok_str F6 TS TR F5 b5) b6 (ok_odd F7 TS TR F5 b5) b7
    (ok_right F9 TL k1 k2 k8 (ok_host F1 TC TN F3 b3) b1 (kb1 F1 (fun _ _ _ _ _ _ _ => rfl) (fun _ _ _ _ _ _ _ => rfl)) (ok_word F2 TC TN F3 b3) b2 (kb1 F2 (fun _ _ _ _ _ _ _ => rfl) (fun _ _ _ _ _ _ _ => rfl)) (ok_is F8 TN) b8) b9
end My

open PySem PySem.W PyProof.Rows in
set_option maxRecDepth 100000 in
set_option maxHeartbeats 0 in
theorem PySem.Challenge.cw_relinktree_k11_host_names_and_words_holds : PySem.Challenge.rw_relinktree_k11_host_names_and_words.Holds := by
  w_on; o_law; k_head; (case hw => w_witness2)
  k_fill
  refine Gy.walk_g (l := PySem.Challenge.rw_relinktree_k11_host_names_and_words) (n := 63) (k := 4) (x := "_law_script") (sp := My.spLaw) rfl (by decide) rfl ⟨rfl, by decide, by decide⟩ (fun w h Y => PySem.W.kIn_of Y) ?F (fun K H a ns hl hS => ⟨a, ns, rfl, hS, hl, fun _ => rfl⟩)
  case F =>
    intro w mg fa h KX G hmg
    refine' My.all_mk KX G hmg ?a1 ?l1 ?c1 ?k1 ?a2 ?l2 ?c2 ?k2 ?a3 ?l3 ?c3 ?k3 ?a4 ?l4 ?c4 ?k4 ?a5 ?l5 ?c5 ?k5 ?a6 ?l6 ?c6 ?k6 ?a7 ?l7 ?c7 ?k7 ?a8 ?l8 ?c8 ?k8 ?a9 ?l9 ?c9 ?k9 ?a10 ?l10 ?c10 ?k10 ?v1 ?v2 ?v3 ?v4 ?z1 ?z2 ?z3 ?z4 ?z5 ?z6 ?z7 ?z8 ?z9 ?z10
    (case a1 => k_is)
    (case l1 => k_is)
    (case c1 => k_is)
    (case k1 => k_is)
    (case a2 => k_is)
    (case l2 => k_is)
    (case c2 => k_is)
    (case k2 => k_is)
    (case a3 => k_is)
    (case l3 => k_is)
    (case c3 => k_is)
    (case k3 => k_is)
    (case a4 => k_is)
    (case l4 => k_is)
    (case c4 => k_is)
    (case k4 => k_is)
    (case a5 => k_is)
    (case l5 => k_is)
    (case c5 => k_is)
    (case k5 => k_is)
    (case a6 => k_is)
    (case l6 => k_is)
    (case c6 => k_is)
    (case k6 => k_is)
    (case a7 => k_is)
    (case l7 => k_is)
    (case c7 => k_is)
    (case k7 => k_is)
    (case a8 => k_is)
    (case l8 => k_is)
    (case c8 => k_is)
    (case k8 => k_is)
    (case a9 => k_is)
    (case l9 => k_is)
    (case c9 => k_is)
    (case k9 => k_is)
    (case a10 => k_is)
    (case l10 => k_is)
    (case c10 => k_is)
    (case k10 => k_is)
    (case v1 => k_is)
    (case v2 => k_is)
    (case v3 => k_is)
    (case v4 => k_is)
    (case z1 => k_is)
    (case z2 => k_is)
    (case z3 => k_is)
    (case z4 => k_is)
    (case z5 => k_is)
    (case z6 => k_is)
    (case z7 => k_is)
    (case z8 => k_is)
    (case z9 => k_is)
    (case z10 => k_is)

