import PyProof.Rows.All
import Wide.All
import OpenK.AllK
import Wide.FinOn
import HandS.Exc
import HandS.ExcInit
import HandS.Nested
import KE.KExcSuper
import HandS.Words
import HandS.ExcValue
import HandS.ExcField
import HandS.ExcIs
import HandS.IsInst
import KE.KExcIs
import HandS.ForMost
import HandS.AnyAll
import HandS.Wide
import HandS.Dict
import HandS.More
import HandS.Codes
import HandS.Walk
import HandS.TupSets
import HandS.HeadHook1
import PyProof.ReprRoads
import HandS.HeadEnd
import KE.KStateDown
import Lean
import HandS.Defaults
import HandS.Head0
import HandS.Head1
import HandS.Head2
import HandS.HeadHook2
import HandS.HeadHook3
import HandS.HeadHook4
import HandS.HeadWalk
import PySem.Challenge.RW_manybuilds_k06_errors_made_and_bases
set_option Elab.async false
set_option linter.all false
set_option maxRecDepth 100000
set_option maxHeartbeats 4000000
/-! An own error's __init__ that says super().__init__(text) and then keeps its one field. -/
namespace Xs
open PySem PySem.Spec PyProof.Rows L2 NdefX
/-- what the written part says of the class at C, its cell for __class__ at cc and its __init__, F at fI -/
structure SupC (P : Program) (K : PySem.W.Frag) (C cc fI : Addr) (G : NF) : Prop where
  T : OexC K C
  fn : ∃ (oc : Value) (od : Option Addr) (doc pm ctv : Value) (osl : Array (Option Value)), K.lookup fI = some ⟨oc, od, .func (G.fd doc pm ctv), osl⟩
  cd : PySem.W.codeIn K (.ref G.c) G.qual = true
  co : ∃ (ccl : Value) (cdd : Option Addr) (vs : Array Value) (ccs : Array (Option Value)) (file : Str) (tf : Tok), K.lookup G.c = some ⟨ccl, cdd, .fields vs, ccs⟩ ∧ vs[2]? = some (.str file tf) ∧ ((P.main.file : Str) == file) = true
  ce : ∃ (cl : Value) (cld : Option Addr) (csl : Array (Option Value)), K.lookup cc = some ⟨cl, cld, .cell (some (.ref C)), csl⟩
  clo : G.cl = [(("__class__" : Str), cc)]
  su : PySem.W.ks_superIn K C C "__init__" = some (some (.builtin "ValueError.__init__"))
  ve : PySem.W.subIn K (.ref C) (.type "ValueError") = some true
  se : PySem.W.mroIn K C (.ref C) = some true
  an : PySem.W.nsIn K cStatics "thirdparty.any" = some none
/-- what its scope says -/
structure SupS (P : Program) (sc : Scope) (ar : Arg) : Prop where
  su : sc.names.lookup ("super" : Str) = some .globalImplicit
  cl : sc.names.lookup ("__class__" : Str) = some .free
  ar : sc.names.lookup ar.arg = some .local
  top : (P.main.scope.names.lookup ("super" : Str)).isSome = false

/-- super().__init__(e): what is tracked stays as it is -/
theorem sup_call {X : Cx} {pins : List (Addr × Obj)} {σ : L2.St} {H : Hp} {s : Shared} {x C cc fI L : Addr} {G : NF} {ar : Arg} {body : List Stmt} {e : Expr} {ta : TA} {p0 p1 p2 p3 : Pos} {pl : Sem Bool}
    (S : SupC X.prog X.K C cc fI G) (Z : SupS X.prog G.scope ar) (hs : X.mg "super" = none) (henv : X.env = envF G fI L) (har : (G.params.posonlyargs ++ G.params.args).head? = some ar)
    (I : Inv X pins σ H s) (ex : H x = some (exo x C none)) (h0 : σ[0]? = some (some (.ref x))) (hN : X.N[0]? = some ar.arg)
    (ha : PA X [e] ta) (hta : ta σ H fun vs H1 => H1 = H ∧ vs.length ≤ 1000) {Q : Value → Shared → Prop} (hQ : ∀ s', Inv X pins σ H s' → Q .none s')
    (he : eval (.Call (.Attribute (.Call (.Name "super" p0) [] [] p1) "__init__" p2) [e] [] p3) X.env = (do
      let ov ← attributeBase (.Call (.Name "super" p0) [] [] p1) "__init__" X.env (eval (.Call (.Name "super" p0) [] [] p1) X.env)
      standAt p2.atName
      let (f, first) ← holding [ov] (getMethod ov "__init__" pl)
      callWith p3 f first (backTo p3 (starEach [e] X.env)) []))
    (hse : starEach [e] X.env = (false, eval e X.env) :: starEach [] X.env) :
    _root_.PySem.wpAt (model X.prog X.w) X.A (.func body X.env) (eval (.Call (.Attribute (.Call (.Name "super" p0) [] [] p1) "__init__" p2) [e] [] p3) X.env) Q X.xe s := by
  obtain ⟨oc, od, doc, pm, ctv, osl, hf⟩ := S.fn
  obtain ⟨ccl, cdd, vs, ccs, file, tf, hc, hvs, hfile⟩ := S.co
  obtain ⟨cl, cld, csl, hcell⟩ := S.ce
  obtain ⟨nm, q, N, bs, bm, sn, sub, ab, col, dd, k0, k1, k2, k3, k5, hC, hbm⟩ := S.T.cls
  have hcl : PySem.W.clsIn X.K C = some { name := nm, bases := bs, mro := .ref C :: bm, ns := N, qualname := q, hasDict := true, slotNames := sn, subclasses := sub, abstract := ab, collection := col, hasDel := false } := by unfold PySem.W.clsIn; rw [hC] <;> rfl
  have KX := I.kIn
  have hks : X.env.kindOf "super" = some .globalImplicit := by rw [henv]; exact Z.su
  have hkc : X.env.kindOf "__class__" = some .free := by rw [henv]; exact Z.cl
  have hka : X.env.kindOf ar.arg = some .local := by rw [henv]; exact Z.ar
  obtain ⟨mb, hb, hbb⟩ := I.mod.blt
  obtain ⟨m, hn, hl⟩ := id I.loc
  obtain ⟨u, ru, lk⟩ := hl 0 ar.arg (.ref x) hN h0 (.inl hka)
  obtain rfl : u = Value.ref x := ru
  have hm : m ar.arg = some (.ref x) := by
    rcases lk with ⟨_, z⟩ | ⟨z, _⟩
    · exact z
    · rw [hka] at z
      rcases z with z | z <;> cases z
  refine ks_wpAt_MethodCall (pl := pl) ?_ he
  refine ks_wpAt_super_base (f := fI) (cc := G.c) (fd := G.fd doc pm ctv) (ar := ar) hks hkc (by decide) (by rw [henv]) (KX _ _ hf) rfl har (by rw [henv]) (KX _ _ hc) rfl hvs hfile Z.top ?_
  refine PySem.W.ks_loadName_global I.ok.kind hks (Calls.loadGlobal_builtin (mg := X.mg) (mb := mb) (v := .type "super") (by rw [I.ok.glob]; exact I.mod.glob.keeps I.bk) hs (by rw [I.ok.blt]; exact hb.keeps I.bk) ((hbb _ (by decide)).trans (by decide +kernel)) ⟨rfl, ?_⟩)
  refine wpAny_loadName_free I.ok.kind hkc (c := cc) (v := .ref C) (by rw [henv]; show G.cl.lookup _ = _; rw [S.clo]; rfl) ⟨_, KX _ _ hcell, rfl⟩ ?_
  refine wpAny_loadName_local I.ok.kind hka hn hm ?_
  have hD1 := KX _ _ hC
  obtain ⟨t1, ho⟩ := exo_at I.hok ex
  obtain ⟨hp, g, d, t, os⟩ := s
  refine ks_wpAny_isType_cls hD1 rfl ⟨rfl, ?_⟩
  refine ks_wpAny_call_super hD1 rfl ho rfl (fun c z => by cases z) (PySem.W.looks_mroIn KX S.se) (fun h' e1 k1' => ?_)
  have I1 := I.kept (t' := t) k1'
  have KX1 := I1.kIn
  have J : PySem.W.InstAt h' x { cls := .ref C, dict := none, data := .fields #[.ref t1, .none, .none, .none, .bool false, .none] } C none := ⟨k1' _ _ ho, rfl, rfl, trivial⟩
  have hsu := S.su
  unfold PySem.W.ks_superIn at hsu
  rw [hcl, Option.bind_some] at hsu
  refine PySem.W.kxs_getMethod PySem.W.kxs_ValueError e1 (PySem.W.looks_opaque KX1 S.an) (l₀ := .ref C :: bm) (fun A Q E s k q => wpAny_bind ((PySem.W.looks_clsIn KX1 hcl) A _ E s k (wpAny_pure q))) rfl KX1 hsu
    (J.type.andThen (PySem.W.looks_subIn KX1 S.ve)) (PySem.W.ks_ne KX1 J hcl) (by decide) ?_
  have I2 := I1.kept (t' := t + 1) (h' := h'.push (PySem.W.kxs_mw "ValueError.__init__" x)) (fun b u z => Heap.get?_push_of_some _ z)
  have hu : (h'.push (PySem.W.kxs_mw "ValueError.__init__" x)).get? h'.objs.size = some (PySem.W.kxs_mw "ValueError.__init__" x) := Heap.get?_push_size _ rfl
  have hfr : H h'.objs.size = none := I1.hok.fresh (Nat.le_refl _)
  have I3 : Inv X (pins ++ [(h'.objs.size, PySem.W.kxs_mw "ValueError.__init__" x)]) σ H ⟨h'.push (PySem.W.kxs_mw "ValueError.__init__" x), g, d, t + 1, os⟩ := I2.pins_of fun p hp => by
    rcases List.mem_append.mp hp with hp | hp
    · exact I2.pin p (List.mem_append_right _ hp)
    · obtain rfl := List.mem_singleton.mp hp
      exact ⟨hu, hfr, Nat.ne_of_gt I1.lt, I1.nofs (Nat.le_refl _), fun v z => by cases z⟩
  rw [hse]
  refine PySem.W.kxs_callWith (i := "ValueError.__init__") (x := x) (by rfl) (Calls.evalArgs_plain ?_)
  have hrun := ha.run p3 _ _ σ H _ I3 hta
  rw [hse] at hrun
  refine thn hrun fun us s1 h1 => ?_
  obtain ⟨ws, H1, I4, r4, eH, hlen⟩ := h1
  subst eH
  have hu1 : s1.heap.get? h'.objs.size = some (PySem.W.kxs_mw "ValueError.__init__" x) := (I4.pin (h'.objs.size, PySem.W.kxs_mw "ValueError.__init__" x) (by simp)).1
  refine ⟨hu1, ?_⟩
  have I5 : Inv X pins σ H1 s1 := I4.unpinned
  obtain ⟨t2, ho2⟩ := exo_at I5.hok ex
  have hC2 := I5.kIn _ _ hC
  have hz : us.length ≤ sizeLine := by
    rw [← Paired.length r4, sizeLine_eq]
    omega
  obtain ⟨hp2, g2, d2, t3, os2⟩ := s1
  show wpAny _ _ (call (.ref h'.objs.size) us) _ _ _
  refine wpAny_call (codeAny_of_tree ?_)
  show wpAny _ X.A.in1 (callAny (.ref h'.objs.size) ⟨us, []⟩) _ _ _
  simp only [callAny]
  refine wpAny_bind (wpAny_load hu1 ?_)
  simp only [PySem.W.kxs_mw, show (Value.type "method-wrapper" == Value.type "method" || Value.type "method-wrapper" == Value.type "builtin_function_or_method" || Value.type "method-wrapper" == Value.type "method-wrapper") = true by decide, if_true]
  refine PySem.W.KFB.if_so (by decide) ?_
  refine wpAny_bind (PySem.W.check_bound_init F.excBase_ValueError.toExcCallFacts hC2 ho2 rfl ?_)
  refine wpAny_bind (wpAny_pure (wpAny_pure ?_))
  refine ⟨plainId_quiet F.excBase_ValueError.init.plain _, codeAny_builtin F.excBase_ValueError.initEntry ?_⟩
  refine PySem.W.exc_init_tree (cls := .ref C) (t0 := t2) (dv := none) (c2 := .none) (c3 := .none) (b4 := .bool false) ho2 hz fun h2 k2' e2 _ => ?_
  have J2 := I5.write (t' := t3) (x := x) (e := x) (o := exo x C none) (by rw [ex]; exact True.intro) (.inl rfl) k2' ⟨_, e2⟩ (exo_ok e2)
  have eu : upd H1 x (exo x C none) = H1 := by
    funext b
    by_cases hb : b = x
    · rw [hb, upd_same, ex]
    · rw [upd_ne hb]
  rw [eu] at J2
  exact hQ _ J2
end Xs
/-! Own errors as values: made, their fields read, asked for their classes. -/
namespace Xs
open PySem PySem.Spec PyProof.Rows L2

/-- at a stands an own error of the class at C: one without fields, or one with its dict -/
def ErrAt (H : Hp) (a C : Addr) : Prop := H a = some (ExO (.ref C) a) ∨ ∃ d fs, H a = some (exo a C (some d)) ∧ H d = some (exd d fs)
theorem ErrAt.same {H H' : Hp} {a C : Addr} (e : Same H H') (h : ErrAt H a C) : ErrAt H' a C := by
  rcases h with h | ⟨d, fs, h1, h2⟩
  · exact .inl (e _ _ h)
  · exact .inr ⟨d, fs, e _ _ h1, e _ _ h2⟩
theorem ErrAt.here {H : Hp} {a C : Addr} (h : ErrAt H a C) : ∃ φ, H a = some (.ext φ) := by
  rcases h with h | ⟨d, fs, h1, h2⟩
  · exact ⟨_, h⟩
  · exact ⟨_, h1⟩

section
variable {X : Cx} {o e : Expr} {es : List Expr} {to te : TE} {ta : TA} {f : Str} {p p' p1 p2 pos : Pos}
/-- C(e, ..) as a value, C's own __init__ keeping sp -/
theorem pe_oex {CX : CXT} {x : Str} {C fI : Addr} {k : Nat} {fd : FuncData} {ps : List Str} {sp : Sp} {ds : List Value} {dvs : List V} (T : OexC X.K C) (iC : PySem.W.findIn X.K (.ref C) "__init__" = some (some (.ref fI))) (tI : PySem.W.typeIn X.K (.ref fI) = some (.type "function"))
    (F1 : FnOk X.prog X.w X.K X.mg X.base CX k fI fd ps sp) (hr : Room (k + 1) X.A) (hb : Binds X.K fd ps ds) (hd : Vals dvs ds) (hx : Passes CX X E0) (hg : Gl X x) (hm : X.mg x = some (.ref C)) (ha : PA X (e :: es) ta)
    (hdb : (x == ("__debug__" : Str)) = false := by decide) (he : starEach (e :: es) X.env = (false, eval e X.env) :: starEach es X.env := by rfl) (hpl : (backTo pos (starEach es X.env)).any (·.1) = false := by rfl) :
    PE X (.Call (.Name x p) (e :: es) [] pos) (fun σ H Q => ta σ H fun vs H1 => vs.length ≤ 1000 ∧ ∀ a, H1 a = none → sp (.ref a :: (vs ++ dvs)) (upd H1 a (exo a C none)) (fun v H2 => v = .non ∧ Q (.ref a) H2) E0) := by
  refine ⟨fun pins s σ H Q I h => ?_⟩
  obtain ⟨nm, q, N, bs, bm, sn, sub, ab, col, dd, k0, k1, k2, k3, k5, hC, hbm⟩ := T.cls
  refine wpAny_Call_Name_kw (ld_glob I hg hm ?_ hdb)
  refine PySem.W.callWith_K (h₀ := X.base) I.ok.mod.kin T.kC (thn (ha.run pos pins s σ H _ I h) fun us s1 hh => ?_) he hpl
  obtain ⟨vs, H1, I1, r1, hz, q1⟩ := hh
  refine ⟨I1.kIn, ?_⟩
  show wpAny _ _ (call (.ref C) us) _ _ _
  obtain ⟨hp, g, dr, tk, os⟩ := s1
  have hsz : hp.objs.size ≤ hp.objs.size + 1 := Nat.le_succ _
  have hn : H1 (hp.objs.size + 1) = none := I1.hok.fresh hsz
  have hq := q1 (hp.objs.size + 1) hn
  have kk : ∀ b o, hp.get? b = some o → ((hp.push (PySem.W.kdv_tup us)).push (PySem.HandSPX.excO C hp.objs.size)).get? b = some o := fun b o e => Heap.get?_push_of_some _ (Heap.get?_push_of_some _ e)
  have hget : ((hp.push (PySem.W.kdv_tup us)).push (PySem.HandSPX.excO C hp.objs.size)).get? (hp.objs.size + 1) = some (PySem.HandSPX.excO C hp.objs.size) := by heap_get
  have I2 : Inv X pins σ (upd H1 (hp.objs.size + 1) (exo (hp.objs.size + 1) C none)) ⟨(hp.push (PySem.W.kdv_tup us)).push (PySem.HandSPX.excO C hp.objs.size), g, dr, tk, os⟩ :=
    I1.laid (t' := tk) (a := hp.objs.size + 1) (o := exo (hp.objs.size + 1) C none) (h' := (hp.push (PySem.W.kdv_tup us)).push (PySem.HandSPX.excO C hp.objs.size)) kk hsz (exo_ok hget)
  have r2 : Vals (V.ref (hp.objs.size + 1) :: (vs ++ dvs)) (Value.ref (hp.objs.size + 1) :: (us ++ ds)) := .cons rfl (r1.append hd)
  have hl : (Value.ref (hp.objs.size + 1) :: us ++ ds).length = ps.length := by
    have e := r2.length
    rw [F1.len _ _ _ _ hq] at e
    exact e.symm
  have hus : us.length ≤ sizeLine := by
    rw [← Paired.length r1, sizeLine_eq]
    omega
  refine wpAny_call (PySem.HandSPX.call_own F.excBase_ValueError (fun Y => PySem.HandSPX.refsVE_contains Y bm hbm) (I1.kIn _ _ hC) (PySem.W.looks_findIn I1.kIn iC) (fun self => PySem.W.bind_fn I1.kIn self tI) hus
    (codeAny_mono (F1.run _ X.stack _ _ ⟨Value.ref (hp.objs.size + 1) :: us, []⟩ (Value.ref (hp.objs.size + 1) :: (us ++ ds)) _ _ E0 (hr.make C us []) (I2.env0.make C us []) (hb _ (Value.ref (hp.objs.size + 1) :: us) I2.kIn hl) r2 hq) fun r s' hq' => ?_))
  cases r with
  | error er => exact hx pins σ _ _ er s' I2 hq'
  | ok fl =>
    cases fl with
    | ret u =>
      obtain ⟨v, H', I3, rv, ev, q3⟩ := I2.after hq'
      subst ev
      exact ⟨rv, ⟨V.ref (hp.objs.size + 1), H', I3, rfl, q3⟩⟩
    | next => exact False.elim hq'
    | brk => exact False.elim hq'
    | cont => exact False.elim hq'

/-- e.f of an own error that has its dict -/
theorem pe_oget {n : Str} (he : PE X e te) (hb : attributeBase e n X.env (eval e X.env) = eval e X.env := by rfl) :
    PE X (.Attribute e n pos) (fun σ H Q => te σ H fun x H1 => ∃ (a C d : Addr) (fs : List (Str × V)) (v : V), x = .ref a ∧ H1 a = some (exo a C (some d)) ∧ H1 d = some (exd d fs) ∧ fs.lookup n = some v ∧ XfC X.K C ∧ PySem.W.findIn X.K (.ref C) n = some none ∧ Q v H1) := by
  refine ⟨fun pins s σ H Q I h => ?_⟩
  refine attr_of hb (thn (he.run pins s σ H _ I h) fun u s1 hh => ?_)
  obtain ⟨x, H1, I1, rx, a, C, d, fs, v, rfl, ea, ed, l, T, hno, q⟩ := hh
  obtain rfl : u = Value.ref a := rx
  obtain ⟨t1, ho⟩ := exo_at I1.hok ea
  obtain ⟨mA, hns, hr⟩ := exd_at I1.hok ed
  obtain ⟨od, hod, hl⟩ := lookIn_ns hns
  obtain ⟨u, hu, ru⟩ := RelO.some_of (v := v) (o := mA n) (by rw [← l]; exact hr n)
  have J : PySem.W.InstAt s1.heap a { cls := .ref C, dict := some d, data := .fields #[.ref t1, .none, .none, .none, .bool false, .none] } C (some od) := ⟨ho, rfl, rfl, hod⟩
  exact HandSPX.exc_get I1.kIn J T.ga T.gg T.exC (PySem.W.findObj_own T.hdC hno rfl (by rw [hl, hu])) (handed_of ru) ⟨v, H1, I1.tok _, ru, q⟩
end

/-- what is asked of an own error class for isinstance -/
structure IsC (K : PySem.W.Frag) (C : Addr) : Prop where
  xf : XfC K C
  cl : PySem.W.findIn K (.ref C) "__class__" = some (some (.builtin "object.__class__"))
  ob : PySem.W.mroIn K C (.type "object") = some true
  gs : PySem.W.specialIn K (.builtin "object.__class__") "__get__" = some (some (.builtin "getset_descriptor.__get__"))
  tk : PySem.W.takesIn K (.builtin "object.__class__") = some true
def isB (K : PySem.W.Frag) (C : Addr) : Bool := xfB K C && (decide (PySem.W.findIn K (.ref C) "__class__" = some (some (.builtin "object.__class__"))) && (decide (PySem.W.mroIn K C (.type "object") = some true) && (decide (PySem.W.specialIn K (.builtin "object.__class__") "__get__" = some (some (.builtin "getset_descriptor.__get__"))) && decide (PySem.W.takesIn K (.builtin "object.__class__") = some true))))
theorem isB_ok {K : PySem.W.Frag} {C : Addr} (h : isB K C = true) : IsC K C := by
  unfold isB at h
  simp only [Bool.and_eq_true, decide_eq_true_eq] at h
  obtain ⟨h1, h2, h3, h4, h5⟩ := h
  exact ⟨xfB_ok h1, h2, h3, h4, h5⟩
/-- isinstance(error, c) -/
def rIsE (K : PySem.W.Frag) : List V → Hp → VK → Prop := fun xs H Q => ∃ (a C : Addr) (c : V) (u : Value) (b : Bool), xs = [.ref a, c] ∧ ClsV c u ∧ ErrAt H a C ∧ IsC K C ∧ PySem.W.kitOne K (.ref C) u = some b ∧ Q (.bl b) H
theorem call_isE {X : Cx} : CallR X (.builtin "isinstance") (rIsE X.K) := by
  intro pins s σ H xs us Q I r h
  obtain ⟨a, C, c, u, b, rfl, k, ea, T, e, q⟩ := h
  obtain ⟨u1, u2, rfl, r1, r2⟩ := vals2 r
  have e2 := k.eq r2
  subst e2
  obtain rfl : u1 = Value.ref a := r1
  have hcl : (PySem.W.clsIn X.K C).isSome = true := by
    obtain ⟨cd, hc, _⟩ := PySem.W.any_some T.xf.hdC
    rw [hc]; rfl
  rcases ea with ea | ⟨d, fs, ea, ed⟩
  · obtain ⟨⟨oe, vs, ho, hz, hd, _⟩, _⟩ := (show ObjOk X.prog X.w H s.heap a (ExO (.ref C) a) from I.hok a _ ea)
    have J : PySem.W.InstAt s.heap a oe C none := ⟨ho, hz.1, by unfold PySem.W.notCls; rw [hd] <;> rfl, by rw [hz.2]; trivial⟩
    exact PySem.W.kia_one (PySem.W.kitx_exc (ox := oe) (od := none) hcl T.xf.ga T.xf.gg T.xf.exC T.cl T.gs T.tk T.ob) I.kIn J e (fun z => nomatch z) fun tk => ⟨.bl b, H, I.tok tk, rfl, q⟩
  · obtain ⟨t1, ho⟩ := exo_at I.hok ea
    obtain ⟨mA, hns, hr⟩ := exd_at I.hok ed
    obtain ⟨od, hod, hl⟩ := lookIn_ns hns
    have J : PySem.W.InstAt s.heap a { cls := .ref C, dict := some d, data := .fields #[.ref t1, .none, .none, .none, .bool false, .none] } C (some od) := ⟨ho, rfl, rfl, hod⟩
    exact PySem.W.kia_one (PySem.W.kitx_exc (od := some od) hcl T.xf.ga T.xf.gg T.xf.exC T.cl T.gs T.tk T.ob) I.kIn J e (fun z => nomatch z) fun tk => ⟨.bl b, H, I.tok tk, rfl, q⟩
end Xs
/-! Lists of errors; the init of an own error as a promise. -/
namespace Xs
open PySem PySem.Spec PyProof.Rows L2 NdefX

theorem paired_app {α β : Type} {R : α → β → Prop} : ∀ {a c : List α} {b d : List β}, Paired R a b → Paired R c d → Paired R (a ++ c) (b ++ d)
  | _, _, _, _, .nil, h => h
  | _, _, _, _, .cons r t, h => .cons r (paired_app t h)
theorem same_upd {H : Hp} {p : Addr} (h : H p = none) (o : HO) : Same H (upd H p o) := fun b u q => by rw [upd_ne (ne_of_none q h)]; exact q
abbrev Errs (H : Hp) : List Addr → List Addr → Prop := Paired (fun a C => ErrAt H a C)
theorem Errs.same {H H' : Hp} (e : Same H H') {as Cs : List Addr} (h : Errs H as Cs) : Errs H' as Cs := Paired.mapP h fun _ _ z => z.same e

/-- what is asked of a class of errors without fields -/
structure Pl (K : PySem.W.Frag) (mg : Str → Option Value) (x : Str) (C : Addr) : Prop where
  g : mg x = some (.ref C)
  ex : PySem.W.excIn K C [.type "ValueError", .type "Exception", .type "BaseException", .type "object"] "ValueError.__new__" = true
  kp : PySem.W.keepIn K (.ref C) = true
def tErr (C : Addr) : TE := fun _ H Q => ∀ a H', Same H H' → ErrAt H' a C → Q (.ref a) H'
def tErrs (Cs : List Addr) : TA := fun _ H Q => ∀ as H', Same H H' → Errs H' as Cs → Q (as.map .ref) H'
section
variable {X : Cx} {e : Expr} {es : List Expr}
theorem pe_err {x : Str} {C : Addr} {c : Str} {j : Nat} {p q pos : Pos} (P : Pl X.K X.mg x C) (hg : Gl X x) (hs : starEach [.Constant (.str c) j q] X.env = (false, eval (.Constant (.str c) j q) X.env) :: starEach [] X.env := by rfl) (hdb : (x == ("__debug__" : Str)) = false := by decide) :
    PE X (.Call (.Name x p) [.Constant (.str c) j q] [] pos) (tErr C) := by
  refine ⟨fun pins s σ H Q I h => ?_⟩
  refine (pe_exc1 (X := X) F.excBase_ValueError P.ex P.g P.kp hg (pe_str (x := c) (j := j) (pos := q)) hs hdb).run pins s σ H Q I ?_
  exact fun a ha => h a _ (same_upd ha _) (.inl upd_same)
theorem pa_err0 : PA X [] (tErrs []) := ⟨fun pos pins s σ H Q I h => pa_nil.run pos pins s σ H Q I (h [] H (Same.refl H) .nil)⟩
theorem pa_err1 {C : Addr} {Cs : List Addr} (he : PE X e (tErr C)) (hr : PA X es (tErrs Cs)) (hs : starEach (e :: es) X.env = (false, eval e X.env) :: starEach es X.env := by rfl) : PA X (e :: es) (tErrs (C :: Cs)) :=
  ⟨fun pos pins s σ H Q I h => (pa_cons he hr hs).run pos pins s σ H Q I fun a H1 s1 e1 as H2 s2 ps => h (a :: as) H2 (s1.trans s2) (.cons (e1.same s2) ps)⟩
end
/-- a list of errors and some more in a new one -/
theorem cat_step {H H2 : Hp} {l2 p : Addr} {as1 as2 Cs1 Cs2 : List Addr} (P1 : Errs H as1 Cs1) (s2 : Same H H2) (P2 : Errs H2 as2 Cs2) (n2 : H2 l2 = none) {o : HO} (np : upd H2 l2 o p = none) (u : HO) :
    Same H (upd (upd H2 l2 o) p u) ∧ Errs (upd (upd H2 l2 o) p u) (as1 ++ as2) (Cs1 ++ Cs2) := by
  have s3 := same_upd n2 o
  have s4 := same_upd np u
  exact ⟨s2.trans (s3.trans s4), paired_app (P1.same (s2.trans (s3.trans s4))) (P2.same (s3.trans s4))⟩

/-! ### the init of an own error with one field -/
def spInit (C : Addr) (fld : Str) : Sp := fun vs H Q _ => ∃ (x : Addr) (v : V), vs = [.ref x, v] ∧ H x = some (exo x C none) ∧ ∀ dx, H dx = none → dx ≠ x → Q .non (upd (upd H dx (exd dx [(fld, v)])) x (exo x C (some dx)))
section
variable {P : Program} {w : World} {K : PySem.W.Frag} {mg : Str → Option Value} {base : Heap}
/-- the parts of the text: what stands in the two statements -/
structure InitTxt (G : NF) (N : List Str) (fld : Str) (ar : Arg) : Prop where
  sc : NScope N ["self", fld] ["__class__"] G.scope
  har : (G.params.posonlyargs ++ G.params.args).head? = some ar
  ar0 : ar.arg = "self"
  n0 : N[0]? = some ("self" : Str)
  n1 : N[1]? = some fld
theorem ok_init {C cc fI : Addr} {G : NF} {N : List Str} {fld : Str} {ar : Arg} {k : Nat} {e : Expr} {ta : TA} {p0 p1 p2 p3 p4 q0 q1 q2 q3 : Pos} {fd : FuncData} {plf : Env → Sem Bool}
    (S : SupC P K C cc fI G) (Z : SupS P G.scope ar) (T : InitTxt G N fld ar) (hs : mg "super" = none) (hno : PySem.W.findIn K (.ref C) fld = some none)
    (hfd : ∃ (oc : Value) (od : Option Addr) (doc pm ctv : Value) (osl : Array (Option Value)), fd = G.fd doc pm ctv ∧ K.lookup fI = some ⟨oc, od, .func fd, osl⟩)
    (hbody : G.body = [.Expr (.Call (.Attribute (.Call (.Name "super" p0) [] [] p1) "__init__" p2) [e] [] p3) p4, .Assign [.Attribute (.Name "self" q0) fld q1] (.Name fld q2) q3])
    (ha : ∀ X : Cx, (∃ L f, X.env = envF G f L) → PA X [e] ta) (hta : ∀ σ H, ta σ H fun vs H1 => H1 = H ∧ vs.length ≤ 1000)
    (he : ∀ L f, eval (.Call (.Attribute (.Call (.Name "super" p0) [] [] p1) "__init__" p2) [e] [] p3) (envF G f L) = (do
      let ov ← attributeBase (.Call (.Name "super" p0) [] [] p1) "__init__" (envF G f L) (eval (.Call (.Name "super" p0) [] [] p1) (envF G f L))
      standAt p2.atName
      let (f', first) ← holding [ov] (getMethod ov "__init__" (plf (envF G f L)))
      callWith p3 f' first (backTo p3 (starEach [e] (envF G f L))) []))
    (hse : ∀ env, starEach [e] env = (false, eval e env) :: starEach [] env)
    (hsw : ∀ L f, swapsWith (.Call (.Attribute (.Call (.Name "super" p0) [] [] p1) "__init__" p2) [e] [] p3) none p4.line (envF G f L) = pure false)
    (hsw2 : ∀ L f, swapsWith (.Name fld q2) (some (.Attribute (.Name "self" q0) fld q1)) q3.line (envF G f L) = pure false)
    (hint : ∀ L f, interactive (envF G f L) = false) (hdb : (fld == ("__debug__" : Str)) = false) (hdc : (fld == ("__classdict__" : Str)) = false) :
    FnOk P w K mg base CX0 (k + 1) fI fd ["self", fld] (spInit C fld) := by
  refine ⟨fun vs H Q E h => ?_, fun A outer s H args us vs Q E hr e0 hb r hsp => ?_⟩
  · obtain ⟨x, v, rfl, _⟩ := h
    rfl
  obtain ⟨oc, od, doc, pm, ctv, osl, rfl, lk⟩ := hfd
  have KX : K.In s.heap := e0.mod.kin.keeps fun b o z => (e0.bs b o z).1
  have lim : s.heap.NoLimit := e0.mod.nolimit.keeps fun b o z => (e0.bs b o z).1
  obtain ⟨cl, cld, csl, hcell⟩ := S.ce
  have hl : vs.length = [("self" : Str), fld].length := by
    obtain ⟨x, v, rfl, _⟩ := hsp
    rfl
  refine codeAny_call_function hr.depth (KX _ _ lk) rfl T.sc.co T.sc.gen rfl (PySem.W.codeRec_of KX S.cd) (hb _ _ _ _ ?_)
  refine wpAny_newFunctionEnv T.sc.nocell (fun ⟨n, _⟩ hy => T.sc.par n (List.of_mem_zip hy).1) (fun h₁ hns hsb => ⟨lim.fresh _ hsb, ?_⟩) T.sc.kind
  show codeAny _ _ (.func G.body (envF G fI s.heap.objs.size)) _ _
  have kp : ∀ b o, s.heap.get? b = some o → h₁.get? b = some o := fun b o z => hsb.extBut b o (Nat.ne_of_lt (Heap.lt_size z)) (Heap.get?_push_of_some _ z)
  have C0 : CellsAt G.cl ["__class__"] [none] s.heap H := by
    have hcl := S.clo
    have one : ∀ y c, G.cl.lookup y = some c → y = "__class__" ∧ c = cc := fun y c z => by
      rw [hcl] at z
      by_cases hy : y = "__class__"
      · subst hy
        simp [List.lookup] at z
        exact ⟨rfl, z.symm⟩
      · have hb : (y == ("__class__" : Str)) = false := by simpa using hy
        simp [List.lookup, hb] at z
    refine ⟨rfl, fun y c z => ?_, fun x y c z1 z2 => (one x c z1).1.trans (one y c z2).1.symm, fun i y z => ?_⟩
    · obtain ⟨rfl, rfl⟩ := one y c z
      exact ⟨(e0.bs _ _ (e0.mod.kin _ _ hcell)).2, _, _, KX _ _ hcell, rfl⟩
    · match i, z with
      | 0, z =>
        cases z
        refine ⟨cc, by rw [hcl]; rfl, fun v z => ?_⟩
        cases z
  have I : L2.Inv (ncx CX0 P w K mg base N G fI A outer s H E) [] (startF N vs [none]) H { s with heap := h₁, toks := s.toks + ([("self" : Str), fld].zip us).length } := inv_startN T.sc hr.hd e0 hl r C0 hns kp
  obtain ⟨x, v, rfl, ex, q⟩ := hsp
  refine ks_codeAny_funcAt ?_
  rw [hbody]
  have en : (ncx CX0 P w K mg base N G fI A outer s H E).env = envF G fI s.heap.objs.size := rfl
  refine ks_wpAt_execs_cons (ks_wpAt_Expr_any ?_ (hint _ _) (hsw _ _))
  have loc1 : (ncx CX0 P w K mg base N G fI A outer s H E).env.scope.names.lookup ("self" : Str) = some .local := T.sc.par _ (by simp)
  have loc2 : (ncx CX0 P w K mg base N G fI A outer s H E).env.scope.names.lookup fld = some .local := T.sc.par _ (by simp)
  refine sup_call (X := ncx CX0 P w K mg base N G fI A outer s H E) (pins := []) (σ := startF N [.ref x, v] [none]) (H := H) (x := x) (ar := ar) (pl := plf (envF G fI s.heap.objs.size)) S Z hs en T.har I ex rfl (by rw [T.ar0]; exact T.n0) (ha _ ⟨_, _, rfl⟩) (hta _ _) (fun s' J => ?_) (he _ _) (hse _)
  refine wpAt_of_wpAny ?_
  have hst := pss_one (ps_ost (X := ncx CX0 P w K mg base N G fI A outer s H E) (f := fld) (p' := q1) (pos := q3) (pe_var (i := 0) (x := "self") (pos := q0) T.n0 (.inl loc1) (by decide) (by decide)) (pe_var (i := 1) (x := fld) (pos := q2) T.n1 (.inl loc2) hdb hdc) (hsw2 _ _))
  refine wpAny_mono (hst.run [] s' (startF N [.ref x, v] [none]) H { nx := fun _ H' => Q .non H', rt := Q } J ?_) (fun fl s2 h2 => ?_) fun e' s2 h2 => h2
  · refine ⟨v, rfl, .ref x, rfl, x, C, rfl, S.T, hno, .inl ⟨ex, fun dx nd ne => ?_⟩⟩
    exact q dx nd ne
  · cases fl with
    | next =>
      obtain ⟨σ', H', J', q'⟩ := h2
      exact ⟨.non, H', J'.os, J'.bare, J'.base, J'.hok, rfl, q'⟩
    | ret u =>
      obtain ⟨v', σ', H', J', rv, q'⟩ := h2
      exact ⟨v', H', J'.os, J'.bare, J'.base, J'.hok, rv, q'⟩
    | brk =>
      obtain ⟨_, _, _, z⟩ := h2
      exact False.elim z
    | cont =>
      obtain ⟨_, _, _, z⟩ := h2
      exact False.elim z
end
end Xs
/-! The draws of a law. -/
namespace Dw
open PySem PySem.Spec PyProof.Rows L2 GxR

/-! ### what stands but for some places -/
def Out (L : List Addr) (H H' : Hp) : Prop := ∀ b o, b ∉ L → H b = some o → H' b = some o
theorem Out.refl {L : List Addr} (H : Hp) : Out L H H := fun _ _ _ e => e
theorem Out.trans {L : List Addr} {H H1 H2 : Hp} (a : Out L H H1) (b : Out L H1 H2) : Out L H H2 := fun c o n e => b c o n (a c o n e)
theorem Out.new {L : List Addr} {H : Hp} {p : Addr} {o : HO} (hp : H p = none) : Out L H (upd H p o) := fun b u _ e => by rw [upd_ne (ne_of_none e hp)]; exact e
theorem Out.put {L : List Addr} {H : Hp} {p : Addr} {o : HO} (hp : p ∈ L) : Out L H (upd H p o) := fun b u n e => by
  rw [upd_ne (fun z => n (by rw [z]; exact hp))]; exact e
theorem Out.mono {L L' : List Addr} {H H' : Hp} (h : ∀ x ∈ L, x ∈ L') (a : Out L H H') : Out L' H H' := fun b o n e => a b o (fun z => n (h b z)) e

theorem same_new {H : Hp} {p : Addr} (h : H p = none) (o : HO) : Same H (upd H p o) := fun b u q => by rw [upd_ne (ne_of_none q h)]; exact q
theorem same_put {H H' : Hp} {p : Addr} {o : HO} (h : Same H H') (hn : H p = none) : Same H (upd H' p o) := fun b u q => by rw [upd_ne (ne_of_none q hn)]; exact h _ _ q
/-! ### the draw: a dict of four -/
structure Dr where
  wide : List Int
  cells : List Int
  rest : Int
  turn : Int
def drK (aw ac : Addr) (d : Dr) : List (Key × V) := [(.inr "wide", .ref aw), (.inr "cells", .ref ac), (.inr "rest", .int d.rest), (.inr "turn", .int d.turn)]
theorem v_wide {aw ac : Addr} {d : Dr} : valV (drK aw ac d) (.inr "wide") = some (.ref aw) := by rfl
theorem v_cells {aw ac : Addr} {d : Dr} : valV (drK aw ac d) (.inr "cells") = some (.ref ac) := by rfl
theorem v_rest {aw ac : Addr} {d : Dr} : valV (drK aw ac d) (.inr "rest") = some (.int d.rest) := by rfl
theorem v_turn {aw ac : Addr} {d : Dr} : valV (drK aw ac d) (.inr "turn") = some (.int d.turn) := by rfl
theorem p_rest {aw ac : Addr} {d : Dr} {i : Int} : putK (drK aw ac d) (.inr "rest") (.int i) = drK aw ac { d with rest := i } := by rfl
theorem p_turn {aw ac : Addr} {d : Dr} {i : Int} : putK (drK aw ac d) (.inr "turn") (.int i) = drK aw ac { d with turn := i } := by rfl
theorem k_small {aw ac : Addr} {d : Dr} : (drK aw ac d).length < sizeLine := by show 4 < sizeLine; decide

/-! ### what a draw is made of -/
def mixIn (t p : Int) : List Int → Int → Int
  | [], b => b
  | g :: r, b => mixIn t p r ((b * 69621 + g + t) % p)
def mixStep (t : Int) (cs : List Int) (found p : Int) : Int := found * 2147483647 + (mixIn t p cs (48271 * t + p / 37)) ^ 5 % p
def primes : List Int := [2147483647, 2147483629, 2147483587, 2147483579]
def mixed (t : Int) (cs : List Int) : Int := primes.foldl (mixStep t cs) 0
theorem mixIn_snoc (t p : Int) : ∀ (l : List Int) (g b : Int), mixIn t p (l ++ [g]) b = (mixIn t p l b * 69621 + g + t) % p
  | [], _, _ => rfl
  | _ :: r, g, b => mixIn_snoc t p r g _
theorem mixIn_lt {t p : Int} (hp : 0 < p) : ∀ (l : List Int) (b : Int), (0 ≤ b ∧ b < 2 ^ 63) → p < 2 ^ 32 → 0 ≤ mixIn t p l b ∧ mixIn t p l b < 2 ^ 63
  | [], b, h, _ => h
  | g :: r, b, h, h2 => mixIn_lt hp r _ ⟨Int.emod_nonneg _ (by omega), by have := Int.emod_lt_of_pos (b * 69621 + g + t) hp; omega⟩ h2
theorem mixStep_nn {t : Int} {cs : List Int} {f p : Int} (hp : 0 < p) (h : 0 ≤ f) : 0 ≤ mixStep t cs f p := by
  unfold mixStep
  have := Int.emod_nonneg ((mixIn t p cs (48271 * t + p / 37)) ^ 5) (show p ≠ 0 by omega)
  omega
theorem mixed_nn (t : Int) (cs : List Int) : 0 ≤ mixed t cs := by
  unfold mixed primes
  simp only [List.foldl]
  exact mixStep_nn (by decide) (mixStep_nn (by decide) (mixStep_nn (by decide) (mixStep_nn (by decide) (by decide))))

section
variable {P : Program} {w : World} {K : PySem.W.Frag} {mg : Str → Option Value} {base : Heap}
def topS (i : Nat) : Stmt := PySem.Challenge.pw_manybuilds_k06_errors_made_and_bases.main.body.getD i (.Pass ⟨0, 0, 0, 0⟩)
abbrev sMixed : Stmt := topS 53
theorem scMixed : FnScope ["draw", "turn", "found", "prime", "blend", "grain"] ["draw"] (defScope sMixed) := ⟨rfl, rfl, rfl, by decide +kernel, rfl, by decide +kernel, by decide +kernel⟩
def spMixed : Sp := fun vs H Q _ => ∃ (a aw ac : Addr) (d : Dr), vs = [.ref a] ∧ H a = some (.dK (drK aw ac d)) ∧ H ac = some (.lst (d.cells.map .int)) ∧ a ≠ ac ∧ 0 ≤ d.turn ∧ d.turn < 2 ^ 47 ∧
  ∀ H', Out [a] H H' → H' a = some (.dK (drK aw ac { d with turn := d.turn + 1 })) → Q (.int (mixed (d.turn + 1) d.cells)) H'
theorem ok_mixed {f : Addr} {fd : FuncData} {k : Nat} (F : Fun K "_law_mixed" "_law_mixed" sMixed f fd) (mi : mg "int" = none) : FnOk P w K mg base CX0 (k + 1) f fd ["draw"] spMixed := by
  refine F.ok scMixed (fun vs H Q E h => ?_) (fun cdv A outer s H vs Q E hr h => ?_)
  · obtain ⟨a, aw, ac, d, rfl, _⟩ := h
    rfl
  have hu := hu_of hr
  have nd := scMixed.nd
  have bint : bootBuiltins "int" = some (.type "int") := by decide +kernel
  refine ⟨_, pss_cons (ps_par (i := 1) (j := 2) rfl nd rfl rfl (by decide) rfl rfl (pa_cons (pe_op op_add (pe_dget hu (pv 0) pe_str (fun _ _ => rfl)) pe_int) (pa_cons pe_int pa_nil)) rfl)
    (pss_cons (ps_dput hu (pv 0) pe_str (pv 1) rfl)
    (pss_cons (ps_for PassesOwn.never rfl (pi_list (pe_lst (pa_cons pe_int (pa_cons pe_int (pa_cons pe_int (pa_cons pe_int pa_nil)))))) (pg_name (i := 3) nd rfl (Or.inl rfl))
      (pss_cons (ps_set (i := 4) nd rfl (Or.inl rfl) (pe_op op_add (pe_op op_mul pe_int (pv 1)) (pe_op op_fdiv (pv 3) pe_int)))
      (pss_cons (ps_for PassesOwn.never rfl (pi_list (pe_dget hu (pv 0) pe_str (fun _ _ => rfl))) (pg_name (i := 5) nd rfl (Or.inl rfl))
        (pss_one (ps_set (i := 4) nd rfl (Or.inl rfl) (pe_op op_mod (pe_callTy call_int1 (by rfl) mi bint (pa_cons (pe_op op_add (pe_op op_add (pe_op op_mul (pv 4) pe_int) (pv 5)) (pv 1)) pa_nil)) (pv 3)))))
      (pss_one (ps_set (i := 2) nd rfl (Or.inl rfl) (pe_op op_add (pe_op op_mul (pv 2) pe_int) (pe_op op_mod (pe_callTy call_int1 (by rfl) mi bint (pa_cons (pe_op op_pow (pv 4) pe_int) pa_nil)) (pv 3))))))))
    (pss_one (ps_ret (pv 2))))), ?_⟩
  obtain ⟨a, aw, ac, d, rfl, hH, hC, nac, t0, t1, q⟩ := h
  -- turn, found = (draw['turn'] + 1, 0)
  refine ⟨_, rfl, a, _, rfl, DGet.k (k := .inr "turn") hH, _, _, rfl, rfl, _, _, rfl, ?_⟩
  -- draw['turn'] = turn
  refine ⟨_, rfl, _, rfl, a, _, rfl, DPut.k (k := .inr "turn") hH k_small, ?_⟩
  rw [p_turn]
  have h1 : upd H a (.dK (drK aw ac { d with turn := d.turn + 1 })) a = some (.dK (drK aw ac { d with turn := d.turn + 1 })) := upd_same
  have o1 : Out [a] H (upd H a (.dK (drK aw ac { d with turn := d.turn + 1 }))) := Out.put (by simp)
  have c1 : upd H a (.dK (drK aw ac { d with turn := d.turn + 1 })) ac = some (.lst (d.cells.map .int)) := by rw [upd_ne (Ne.symm nac)]; exact hC
  generalize upd H a (.dK (drK aw ac { d with turn := d.turn + 1 })) = G at h1 o1 c1
  generalize hT : d.turn + 1 = t at *
  have tt : 0 ≤ t ∧ t ≤ 2 ^ 47 := by omega
  -- the primes
  refine ⟨by show 4 ≤ sizeLine; decide, fun l hl => ⟨l, rfl, ⟨_, .inl (.inl upd_same)⟩, ?_⟩⟩
  have hl2 : upd G l (.lst [.int 2147483647, .int 2147483629, .int 2147483587, .int 2147483579]) l = some (.lst [.int 2147483647, .int 2147483629, .int 2147483587, .int 2147483579]) := upd_same
  have o2 : Out [a] H (upd G l (.lst [.int 2147483647, .int 2147483629, .int 2147483587, .int 2147483579])) := o1.trans (Out.new hl)
  have h2 : upd G l (.lst [.int 2147483647, .int 2147483629, .int 2147483587, .int 2147483579]) a = some (.dK (drK aw ac { d with turn := t })) := by rw [upd_ne (ne_of_none h1 hl)]; exact h1
  have c2 : upd G l (.lst [.int 2147483647, .int 2147483629, .int 2147483587, .int 2147483579]) ac = some (.lst (d.cells.map .int)) := by rw [upd_ne (ne_of_none c1 hl)]; exact c1
  generalize upd G l (.lst [.int 2147483647, .int 2147483629, .int 2147483587, .int 2147483579]) = G2 at hl2 o2 h2 c2
  refine for_list (xs := [.int 2147483647, .int 2147483629, .int 2147483587, .int 2147483579]) (fun i σ H' => H' = G2 ∧ ∃ y3 y4 y5, σ = [some (.ref a), some (.int t), some (.int ((primes.take i).foldl (mixStep t d.cells) 0)), y3, y4, y5]) ⟨rfl, none, none, none, by rw [← hT]; rfl⟩ (fun i σ H' _ h => by obtain ⟨rfl, _⟩ := h; exact .inl (.inl hl2)) (fun i x σ H' hx h => ?_) (fun σ H' h => ?_)
  · obtain ⟨rfl, y3, y4, y5, rfl⟩ := h
    have hp : ∃ p : Int, x = .int p ∧ primes[i]? = some p ∧ 2 ^ 30 < p ∧ p < 2 ^ 31 := by
      rcases i with _ | _ | _ | _ | i <;> simp [primes] at hx ⊢ <;> exact ⟨_, hx.symm, rfl, by decide, by decide⟩
    obtain ⟨p, rfl, hpi, p0, p1⟩ := hp
    -- blend
    refine ⟨_, rfl, _, _, rfl, rfl, .inl ⟨by decide, by decide⟩, _, rfl, _, _, rfl, rfl, ⟨by decide, by decide⟩, _, _, rfl, rfl, ?_⟩
    have b0 : 0 ≤ 48271 * t + p / 37 ∧ 48271 * t + p / 37 < 2 ^ 63 := by omega
    -- the cells
    refine ⟨_, rfl, a, _, rfl, DGet.k (k := .inr "cells") h2, ac, rfl, ⟨_, .inl (.inl c2)⟩, ?_⟩
    refine for_list (xs := d.cells.map V.int) (fun j σ H'' => H'' = H' ∧ ∃ y5, σ = [some (.ref a), some (.int t), some (.int ((primes.take i).foldl (mixStep t d.cells) 0)), some (.int p), some (.int (mixIn t p (d.cells.take j) (48271 * t + p / 37))), y5]) ⟨rfl, y5, rfl⟩ (fun j σ H'' _ h => by obtain ⟨rfl, _⟩ := h; exact .inl (.inl c2)) (fun j x σ H'' hx h => ?_) (fun σ H'' h => ?_)
    · obtain ⟨rfl, y5, rfl⟩ := h
      rw [List.getElem?_map] at hx
      obtain ⟨g, hg, rfl⟩ := Option.map_eq_some_iff.mp hx
      refine ⟨_, rfl, _, _, rfl, rfl, .inr ⟨by decide, by decide⟩, _, rfl, _, _, rfl, rfl, _, rfl, _, _, rfl, rfl, .inl ⟨_, rfl, _, rfl, _, _, rfl, rfl, by omega, rfl, some (.int g), ?_⟩⟩
      rw [List.take_add_one, hg, Option.toList_some, mixIn_snoc]
      rfl
    · obtain ⟨rfl, y5, rfl⟩ := h
      rw [List.length_map, List.take_length]
      have b1 := mixIn_lt (t := t) (p := p) (by omega) d.cells _ b0 (by omega)
      refine ⟨_, rfl, _, _, rfl, rfl, .inr ⟨by decide, by decide⟩, _, rfl, _, _, rfl, rfl, ⟨by decide, by decide, by omega⟩, .inl ⟨_, rfl, _, rfl, _, _, rfl, rfl, by omega, _, _, rfl, rfl, rfl, ?_⟩⟩
      refine ⟨some (.int p), some (.int (mixIn t p d.cells (48271 * t + p / 37))), y5, ?_⟩
      rw [List.take_add_one, hpi, Option.toList_some, List.foldl_append]
      rfl
  · obtain ⟨rfl, y3, y4, y5, rfl⟩ := h
    exact ⟨_, rfl, q _ o2 h2⟩
end

/-! ### a take -/
theorem hu64 {k : Nat} {A : Around} (h : Room k A) : A.units + 64 < cLine := by
  have := h.un
  omega
def Dr.fill (d : Dr) : Dr := if d.rest = 0 then (match d.wide with
  | w :: r => { d with wide := r, rest := w }
  | [] => { d with turn := d.turn + 1, rest := mixed (d.turn + 1) d.cells }) else d
def Dr.take (d : Dr) (many : Int) : Int × Dr := (d.fill.rest % many, { d.fill with rest := d.fill.rest / many })
theorem Dr.take_nn {d : Dr} {m : Int} (h : 0 < m) : 0 ≤ (d.take m).1 ∧ (d.take m).1 < m := ⟨Int.emod_nonneg _ (by omega), Int.emod_lt_of_pos _ h⟩
theorem Dr.fill_turn (d : Dr) : d.turn ≤ d.fill.turn ∧ d.fill.turn ≤ d.turn + 1 := by
  unfold Dr.fill
  split
  · split
    · exact ⟨Int.le_refl _, by show d.turn ≤ d.turn + 1; omega⟩
    · exact ⟨by show d.turn ≤ d.turn + 1; omega, Int.le_refl _⟩
  · omega
theorem Dr.take_turn (d : Dr) (m : Int) : d.turn ≤ (d.take m).2.turn ∧ (d.take m).2.turn ≤ d.turn + 1 := d.fill_turn
theorem Dr.fill_cells (d : Dr) : d.fill.cells = d.cells := by
  unfold Dr.fill
  split
  · split <;> rfl
  · rfl
theorem ints_lay : ∀ l : List Int, PyData.canLay0 (.list (l.map .int)) = true
  | [] => rfl
  | x :: r => by
    have := ints_lay r
    simp [PyData.canLay0] at this ⊢
    exact this
theorem ints_depth : ∀ l : List Int, PyData.depthAll (l.map .int) = 0
  | [] => rfl
  | x :: r => by
    show Nat.max 0 (PyData.depthAll (r.map .int)) = 0
    rw [ints_depth r]; rfl
theorem ints_shaped (l : List Int) : SeqAt.shaped (.list (l.map .int)) = true := by
  unfold SeqAt.shaped
  rw [ints_lay]
  simp [PyData.depth, ints_depth]
theorem ints_eqv (l : List Int) : PyData.eqv (.list (l.map .int)) (.list []) = l.isEmpty := by
  cases l <;> simp [PyData.eqv, PyData.eqvAll]
theorem ints_dp {K : PySem.W.Frag} {H : Hp} : ∀ l : List Int, DpAll K H (l.map .int) (l.map .int)
  | [] => .nil
  | x :: r => .cons (.int x) (ints_dp r)

structure DrAt (a aw ac : Addr) (d : Dr) (H : Hp) : Prop where
  ob : H a = some (.dK (drK aw ac d))
  wi : H aw = some (.lst (d.wide.map .int))
  ce : H ac = some (.lst (d.cells.map .int))
  ne : aw ≠ ac
theorem DrAt.new {a aw ac : Addr} {d : Dr} {H : Hp} {p : Addr} {o : HO} (h : DrAt a aw ac d H) (hp : H p = none) : DrAt a aw ac d (upd H p o) :=
  ⟨by rw [upd_ne (ne_of_none h.ob hp)]; exact h.ob, by rw [upd_ne (ne_of_none h.wi hp)]; exact h.wi, by rw [upd_ne (ne_of_none h.ce hp)]; exact h.ce, h.ne⟩
theorem DrAt.naw {a aw ac : Addr} {d : Dr} {H : Hp} (h : DrAt a aw ac d H) : a ≠ aw := fun e => by
  have := h.ob
  rw [e, h.wi] at this
  cases this
theorem DrAt.nac {a aw ac : Addr} {d : Dr} {H : Hp} (h : DrAt a aw ac d H) : a ≠ ac := fun e => by
  have := h.ob
  rw [e, h.ce] at this
  cases this

section
variable {P : Program} {w : World} {K : PySem.W.Frag} {mg : Str → Option Value} {base : Heap}
abbrev sTake : Stmt := topS 54
theorem scTake : FnScope ["draw", "many", "found"] ["draw", "many"] (defScope sTake) := ⟨rfl, rfl, rfl, by decide +kernel, rfl, by decide +kernel, by decide +kernel⟩
def spTake : Sp := fun vs H Q _ => ∃ (a aw ac : Addr) (d : Dr) (m : Int), vs = [.ref a, .int m] ∧ DrAt a aw ac d H ∧ 0 ≤ d.turn ∧ d.turn < 2 ^ 47 ∧ 0 < m ∧ m < 1073741824 ∧
  ∀ H', Out [a, aw] H H' → DrAt a aw ac (d.take m).2 H' → Q (.int (d.take m).1) H'
theorem ok_take {f g : Addr} {fd gd : FuncData} {k : Nat} (F : Fun K "_law_take" "_law_take" sTake f fd) (G : FnOk P w K mg base CX0 k g gd ["draw"] spMixed) (bG : Binds K gd ["draw"] []) (kG : PySem.W.keepIn K (.ref g) = true) (mG : mg "_law_mixed" = some (.ref g)) (mi : mg "int" = none) :
    FnOk P w K mg base CX0 (k + 1) f fd ["draw", "many"] spTake := by
  refine F.ok scTake (fun vs H Q E h => ?_) (fun cdv A outer s H vs Q E hr h => ?_)
  · obtain ⟨a, aw, ac, d, m, rfl, _⟩ := h
    rfl
  have hu := hu_of hr
  have hu' := hu64 hr
  have nd := scTake.nd
  have bint : bootBuiltins "int" = some (.type "int") := by decide +kernel
  refine ⟨_, C8.pss_cut (ps_if (pt_cmpR op_eq (pe_dget hu (pv 0) pe_str (fun _ _ => rfl)) pe_int (nomark _))
      (pss_one (ps_dput hu (pv 0) pe_str (pe_ifExp (pt_cmpR (op_neD hu') (pe_dget hu (pv 0) pe_str (fun _ _ => rfl)) (pe_lst pa_nil) (nomark _))
        (pe_bm PySem.F.plainAttrs_list PySem.F.slot_list_pop PySem.F.type_list_pop mt_popAt (pe_dget hu (pv 0) pe_str (fun _ _ => rfl)) (pa_cons pe_int pa_nil))
        (pe_call G hr rfl mG kG bG .nil pass0 (pa_cons (pv 0) pa_nil))) rfl)) pss_nil)
    (pss_cons (ps_set (i := 2) nd rfl (Or.inl rfl) (pe_op op_mod (pe_callTy call_int1 (by rfl) mi bint (pa_cons (pe_dget hu (pv 0) pe_str (fun _ _ => rfl)) pa_nil)) (pv 1)))
    (pss_cons (ps_dput hu (pv 0) pe_str (pe_op op_fdiv (pe_dget hu (pv 0) pe_str (fun _ _ => rfl)) (pv 1)) rfl)
    (pss_one (ps_ret (pv 2))))), ?_⟩
  obtain ⟨a, aw, ac, d, m, rfl, hD, t0, t1, m0, m1, q⟩ := h
  refine ⟨fun σ H1 => σ = [some (.ref a), some (.int m), none] ∧ Out [a, aw] H H1 ∧ DrAt a aw ac d.fill H1, ?_, fun σ H1 hm => ?_⟩
  · -- the filling
    refine ⟨_, rfl, a, _, rfl, DGet.k (k := .inr "rest") hD.ob, rfl, _, rfl, ite2 (fun c => ?_) (fun c => ?_)⟩
    · have c0 : d.rest = 0 := V.int.inj (of_decide_eq_true c)
      refine ⟨_, rfl, a, _, rfl, DGet.k (k := .inr "wide") hD.ob, Nat.zero_le _, fun p hp => ?_⟩
      have D1 := hD.new (o := .lst []) hp
      have o1 : Out [a, aw] H (upd H p (.lst [])) := Out.new hp
      generalize hG : upd H p (.lst []) = G1 at D1 o1
      refine ⟨.list (d.wide.map .int), .list [], .lst (.inl (.inl D1.wi)) (ints_dp _), .lst (.inl (.inl (by rw [← hG]; exact upd_same))) .nil, ints_shaped _, by decide, _, rfl, ?_⟩
      rw [ints_eqv]
      cases ew : d.wide with
      | nil =>
        refine iteF ?_
        refine ⟨_, rfl, a, aw, ac, d, rfl, D1.ob, D1.ce, D1.nac, t0, t1, fun H' o2 e2 => ?_⟩
        have ef : d.fill = { d with turn := d.turn + 1, rest := mixed (d.turn + 1) d.cells } := by unfold Dr.fill; rw [if_pos c0, ew]
        refine ⟨_, rfl, a, _, rfl, DPut.k (k := .inr "rest") e2 k_small, rfl, o1.trans ((Out.mono (by simp) o2).trans (Out.put (by simp))), ?_⟩
        rw [p_rest, ef]
        exact ⟨upd_same, by rw [upd_ne (Ne.symm D1.naw)]; exact o2 _ _ (by simpa using Ne.symm D1.naw) D1.wi, by rw [upd_ne (Ne.symm D1.nac)]; exact o2 _ _ (by simpa using Ne.symm D1.nac) D1.ce, D1.ne⟩
      | cons z r =>
        refine iteT ?_
        have ef : d.fill = { d with wide := r, rest := z } := by unfold Dr.fill; rw [if_pos c0, ew]
        have wi := D1.wi
        rw [ew] at wi
        refine ⟨_, rfl, a, _, rfl, DGet.k (k := .inr "wide") D1.ob, ?_, aw, _, 0, 0, .int z, rfl, rfl, wi, by decide, by decide, by simp [seqIndex?], rfl, ?_⟩
        · exact .inl ⟨rfl, _, .inl (.inl wi)⟩
        · have e2 : upd G1 aw (.lst (List.eraseIdx (V.int z :: r.map .int) 0)) a = some (.dK (drK aw ac d)) := by rw [upd_ne D1.naw]; exact D1.ob
          refine ⟨_, rfl, a, _, rfl, DPut.k (k := .inr "rest") e2 k_small, rfl, o1.trans ((Out.put (by simp)).trans (Out.put (by simp))), ?_⟩
          rw [p_rest, ef]
          exact ⟨upd_same, by rw [upd_ne (Ne.symm D1.naw), upd_same]; rfl, by rw [upd_ne (Ne.symm D1.nac), upd_ne (Ne.symm D1.ne)]; exact D1.ce, D1.ne⟩
    · have c0 : d.rest ≠ 0 := fun z => of_decide_eq_false (Bool.eq_false_iff.mpr c) (by rw [z])
      have ef : d.fill = d := by unfold Dr.fill; rw [if_neg c0]
      exact ⟨rfl, Out.refl H, by rw [ef]; exact hD⟩
  · obtain ⟨rfl, o1, D1⟩ := hm
    refine ⟨_, rfl, a, _, rfl, DGet.k (k := .inr "rest") D1.ob, .inl ⟨_, rfl, _, rfl, _, _, rfl, rfl, m0, ?_⟩⟩
    refine ⟨_, rfl, a, _, rfl, DGet.k (k := .inr "rest") D1.ob, _, rfl, _, _, rfl, rfl, ⟨m0, m1⟩, _, rfl, a, _, rfl, DPut.k (k := .inr "rest") D1.ob k_small, ?_⟩
    rw [p_rest]
    refine ⟨_, rfl, q _ (o1.trans (Out.put (by simp))) ⟨upd_same, by rw [upd_ne (Ne.symm D1.naw)]; exact D1.wi, by rw [upd_ne (Ne.symm D1.nac)]; exact D1.ce, D1.ne⟩⟩
end

/-! ### the draw's beginning -/
def absI (i : Int) : Int := if i < 0 then -i else i
def begun (ns : List Int) : Dr := ⟨(ns.filter fun g => decide (absI g ≥ 10 ^ 18)).map fun g => absI g - 10 ^ 18, ns.map fun g => absI g % 2147483629, 0, 0⟩
section
variable {P : Program} {w : World} {K : PySem.W.Frag} {mg : Str → Option Value} {base : Heap}
abbrev sBegun : Stmt := topS 52
theorem scBegun : FnScope ["script", "wide", "grain"] ["script"] (defScope sBegun) := ⟨rfl, rfl, rfl, by decide +kernel, rfl, by decide +kernel, by decide +kernel⟩
def spBegun (K : PySem.W.Frag) : Sp := fun vs H Q _ => ∃ (a : Addr) (ns : List Int), vs = [.ref a] ∧ SqL K H a (ns.map .int) ∧ ns.length ≤ 1000 ∧
  ∀ H' p aw ac, Same H H' → H p = none → H aw = none → H ac = none → DrAt p aw ac (begun ns) H' → Q (.ref p) H'
theorem ok_begun {f : Addr} {fd : FuncData} {k : Nat} (F : Fun K "_law_begun" "_law_begun" sBegun f fd) (mi : mg "int" = none) (ma : mg "abs" = none) : FnOk P w K mg base CX0 (k + 1) f fd ["script"] (spBegun K) := by
  refine F.ok scBegun (fun vs H Q E h => ?_) (fun cdv A outer s H vs Q E hr h => ?_)
  · obtain ⟨a, ns, rfl, _⟩ := h
    rfl
  have hu := hu_of hr
  have nd := scBegun.nd
  have bint : bootBuiltins "int" = some (.type "int") := by decide +kernel
  have babs : bootBuiltins "abs" = some (.builtin "abs") := by decide +kernel
  have blk := fun (scope : Scope) h => blkOk_by (N := ["script", "wide", "grain"]) (sc := defScope sBegun) (scope := scope) (own := [("grain", 2)]) h
  refine ⟨_, pss_cons (ps_setLc (i := 1) (own := [("grain", 2)]) (g := gName 2) rfl nd rfl rfl (sw_true rfl rfl rfl (by decide +kernel)) (pi_list (pv 0)) (blkOk_by (N := ["script", "wide", "grain"]) (sc := defScope sBegun) (by decide +kernel))
      (fun _ _ _ _ _ => pg_name (i := 2) nd rfl (Or.inl rfl)) (fun _ _ _ _ _ => pts_one (pt_cmpR op_ge (pe_callB call_abs rfl ma babs (pa_cons (pv 2) pa_nil)) (pe_op op_pow pe_int pe_int) (nomark _)))
      (fun _ _ _ _ _ => pe_op op_sub (pe_callB call_abs rfl ma babs (pa_cons (pv 2) pa_nil)) (pe_op op_pow pe_int pe_int)))
    (pss_one (ps_ret (pe_disp (pps_cons pe_str (pv 1) (pps_cons pe_str (pe_lc (own := [("grain", 2)]) (g := gName 2) (tt := tYes) rfl nd (pi_list (pv 0)) (blkOk_by (N := ["script", "wide", "grain"]) (sc := defScope sBegun) (by decide +kernel))
      (fun _ _ _ _ _ => pg_name (i := 2) nd rfl (Or.inl rfl)) (fun _ _ _ _ _ => pts_nil) (fun _ _ _ _ _ => pe_op op_mod (pe_callTy call_int1 (by rfl) mi bint (pa_cons (pe_callB call_abs rfl ma babs (pa_cons (pv 2) pa_nil)) pa_nil)) pe_int))
      (pps_cons pe_str pe_int (pps_cons pe_str pe_int pps_nil)))) rfl rfl (by simp) (by decide)))), ?_⟩
  obtain ⟨a, ns, rfl, hS, hl, q⟩ := h
  have pw : ((10 : Int) ^ (18 : Int).toNat) = 10 ^ 18 := rfl
  -- wide
  refine ⟨_, rfl, a, rfl, ⟨_, hS⟩, fun aw haw => ?_⟩
  refine lc_list (xs := ns.map V.int) (fun i H' => Same H H' ∧ H' aw = some (.lst ((((ns.take i).filter fun g => decide (absI g ≥ 10 ^ 18)).map fun g => absI g - 10 ^ 18).map V.int))) ⟨same_new haw _, upd_same⟩ (fun i H' _ h => h.1.seq hS) (fun i x H' hx h => ?_) (fun H1 h => ?_)
  · obtain ⟨h1, h2⟩ := h
    rw [List.getElem?_map] at hx
    obtain ⟨g, hg, rfl⟩ := Option.map_eq_some_iff.mp hx
    refine ⟨rfl, _, rfl, _, rfl, _, _, rfl, rfl, ⟨by decide, by decide, by decide⟩, _, _, rfl, rfl, _, rfl, ?_⟩
    have e1 : ((ns.take (i + 1)).filter fun g => decide (absI g ≥ 10 ^ 18)) = ((ns.take i).filter fun g => decide (absI g ≥ 10 ^ 18)) ++ if absI g ≥ 10 ^ 18 then [g] else [] := by
      rw [List.take_add_one, hg, Option.toList_some, List.filter_append]
      congr 1
      by_cases hc : absI g ≥ 10 ^ 18
      · rw [if_pos hc, List.filter_cons_of_pos (by simpa using hc)]; rfl
      · rw [if_neg hc, List.filter_cons_of_neg (by simpa using hc)]; rfl
    have hlen : (((ns.take i).filter fun g => decide (absI g ≥ 10 ^ 18)).map fun g => absI g - 10 ^ 18).length ≤ 1000 := by
      rw [List.length_map]
      exact Nat.le_trans (List.length_filter_le _ _) (by rw [List.length_take]; omega)
    refine ite2 (fun c => ?_) (fun c => ?_)
    · have c1 : absI g ≥ 10 ^ 18 := of_decide_eq_true c
      refine ⟨_, rfl, _, rfl, _, _, rfl, rfl, ⟨by decide, by decide, by decide⟩, _, _, rfl, rfl, _, h2, by rw [List.length_map]; exact small1000 hlen, ?_, ?_⟩
      · exact same_put h1 haw
      · rw [upd_same, e1, if_pos c1, List.map_append, List.map_append]
        rfl
    · have c1 : ¬ absI g ≥ 10 ^ 18 := of_decide_eq_false (Bool.eq_false_iff.mpr c)
      refine ⟨h1, ?_⟩
      rw [e1, if_neg c1, List.append_nil]
      exact h2
  · obtain ⟨h1, h2⟩ := h
    rw [List.length_map, List.take_length] at h2
    -- the dict
    refine fun p hp => ?_
    have hp0 : H p = none := by
      cases e : H p with
      | none => rfl
      | some o => rw [h1 _ _ e] at hp; cases hp
    have s2 : Same H (upd H1 p (.dK [])) := h1.trans (same_new hp _)
    have hp2 : upd H1 p (.dK []) p = some (.dK []) := upd_same
    have w2 : upd H1 p (.dK []) aw = some (.lst ((((ns.filter fun g => decide (absI g ≥ 10 ^ 18)).map fun g => absI g - 10 ^ 18)).map V.int)) := by rw [upd_ne (ne_of_none h2 hp)]; exact h2
    have npw : p ≠ aw := fun z => by rw [z, h2] at hp; cases hp
    generalize upd H1 p (.dK []) = H2 at s2 hp2 w2
    refine ⟨_, rfl, ?_⟩
    -- the cells
    refine ⟨_, rfl, a, rfl, ⟨_, s2.seq hS⟩, fun ac hac => ?_⟩
    have npc : p ≠ ac := fun z => by rw [← z, hp2] at hac; cases hac
    have nwc : aw ≠ ac := fun z => by rw [← z, w2] at hac; cases hac
    have hc0 : H ac = none := by
      cases e : H ac with
      | none => rfl
      | some o => rw [s2 _ _ e] at hac; cases hac
    refine lc_list (xs := ns.map V.int) (fun i H' => Same H H' ∧ H' p = some (.dK []) ∧ H' aw = some (.lst ((((ns.filter fun g => decide (absI g ≥ 10 ^ 18)).map fun g => absI g - 10 ^ 18)).map V.int)) ∧ H' ac = some (.lst (((ns.take i).map fun g => absI g % 2147483629).map V.int)))
      ⟨same_put s2 hc0, by rw [upd_ne npc]; exact hp2, by rw [upd_ne nwc]; exact w2, upd_same⟩ (fun i H' _ h => h.1.seq hS) (fun i x H' hx h => ?_) (fun H3 h => ?_)
    · obtain ⟨h3, h4, h5, h6⟩ := h
      rw [List.getElem?_map] at hx
      obtain ⟨g, hg, rfl⟩ := Option.map_eq_some_iff.mp hx
      refine ⟨rfl, _, rfl, _, rfl, .inl ⟨_, rfl, _, _, rfl, rfl, (by show (0 : Int) < 2147483629; decide), _, h6, ?_, same_put h3 hc0, by rw [upd_ne npc]; exact h4, by rw [upd_ne nwc]; exact h5, ?_⟩⟩
      · rw [List.length_map, List.length_map, List.length_take]
        exact small1000 (by omega)
      · rw [upd_same, List.take_add_one, hg, Option.toList_some, List.map_append, List.map_append]
        rfl
    · obtain ⟨h3, h4, h5, h6⟩ := h
      rw [List.length_map, List.take_length] at h6
      refine ⟨h4, drK aw ac ⟨[], [], 0, 0⟩, rfl, (by show 4 ≤ 15; decide), ?_⟩
      refine q _ p aw ac (same_put h3 hp0) hp0 haw hc0 ⟨by rw [upd_same]; rfl, by rw [upd_ne (Ne.symm npw)]; exact h5, by rw [upd_ne (Ne.symm npc)]; exact h6, nwc⟩
end

/-! ### one of some -/
theorem Out.sqL {L : List Addr} {K : PySem.W.Frag} {H H' : Hp} {l : Addr} {xs : List V} (h : Out L H H') (n : l ∉ L) (s : SqL K H l xs) : SqL K H' l xs := by
  rcases s with (s | ⟨o, s⟩) | s
  · exact .inl (.inl (h _ _ n s))
  · exact .inl (.inr ⟨o, h _ _ n s⟩)
  · exact .inr s
theorem Out.sqT {L : List Addr} {K : PySem.W.Frag} {H H' : Hp} {l : Addr} {xs : List V} (h : Out L H H') (n : l ∉ L) (s : SqT K H l xs) : SqT K H' l xs := by
  rcases s with (s | ⟨o, s⟩) | s
  · exact .inl (.inl (h _ _ n s))
  · exact .inl (.inr ⟨o, h _ _ n s⟩)
  · exact .inr s
section
variable {P : Program} {w : World} {K : PySem.W.Frag} {mg : Str → Option Value} {base : Heap}
abbrev sPick : Stmt := topS 55
theorem scPick : FnScope ["draw", "some"] ["draw", "some"] (defScope sPick) := ⟨rfl, rfl, rfl, by decide +kernel, rfl, by decide +kernel, by decide +kernel⟩
def spPick (K : PySem.W.Frag) : Sp := fun vs H Q _ => ∃ (a aw ac l : Addr) (d : Dr) (xs : List V), vs = [.ref a, .ref l] ∧ DrAt a aw ac d H ∧ 0 ≤ d.turn ∧ d.turn < 2 ^ 47 ∧ (SqL K H l xs ∨ SqT K H l xs) ∧ l ≠ a ∧ l ≠ aw ∧ xs ≠ [] ∧ xs.length < 1073741824 ∧
  ∀ H' v, Out [a, aw] H H' → DrAt a aw ac (d.take xs.length).2 H' → xs[(d.take xs.length).1.toNat]? = some v → Q v H'
theorem ok_pick {f g : Addr} {fd gd : FuncData} {k : Nat} (F : Fun K "_law_pick" "_law_pick" sPick f fd) (G : FnOk P w K mg base CX0 k g gd ["draw", "many"] spTake) (bG : Binds K gd ["draw", "many"] []) (kG : PySem.W.keepIn K (.ref g) = true) (mG : mg "_law_take" = some (.ref g)) (ml : mg "len" = none) :
    FnOk P w K mg base CX0 (k + 1) f fd ["draw", "some"] (spPick K) := by
  refine F.ok scPick (fun vs H Q E h => ?_) (fun cdv A outer s H vs Q E hr h => ?_)
  · obtain ⟨a, aw, ac, l, d, xs, rfl, _⟩ := h
    rfl
  refine ⟨_, pss_one (ps_ret (pe_ix ix_seq (pv 1) (pe_call G hr rfl mG kG bG .nil pass0 (pa_cons (pv 0) (pa_cons (pe_callB call_len rfl ml PySem.boot_len (pa_cons (pv 1) pa_nil)) pa_nil))) (fun _ _ => rfl))), ?_⟩
  obtain ⟨a, aw, ac, l, d, xs, rfl, hD, t0, t1, hs, n1, n2, hne, hl, q⟩ := h
  have hm : 0 < (xs.length : Int) := by
    cases xs with
    | nil => exact absurd rfl hne
    | cons x r => rw [List.length_cons]; omega
  have bd := Dr.take_nn (d := d) hm
  refine ⟨_, rfl, _, rfl, _, rfl, _, _, rfl, ?_, a, aw, ac, d, _, rfl, hD, t0, t1, hm, by omega, fun H' o e => ?_⟩
  · exact hs.elim (fun s => .inl ⟨xs, s, rfl⟩) (fun s => .inr ⟨xs, s, rfl⟩)
  have hlt : (d.take xs.length).1.toNat < xs.length := by omega
  have hi : xs[(d.take xs.length).1.toNat]? = some xs[(d.take xs.length).1.toNat] := List.getElem?_eq_getElem hlt
  have hat : atI xs (d.take xs.length).1 = some xs[(d.take xs.length).1.toNat] := by
    have := atI_nat (xs := xs) (j := (d.take xs.length).1.toNat) hi
    rwa [show (((d.take xs.length).1.toNat : Nat) : Int) = (d.take xs.length).1 by omega] at this
  rcases hs with s | s
  · exact .inl ⟨_, _, _, _, rfl, rfl, o.sqL (by simp [n1, n2]) s, hat, q H' _ o e hi⟩
  · exact .inr (.inl ⟨_, _, _, _, rfl, rfl, o.sqT (by simp [n1, n2]) s, hat, q H' _ o e hi⟩)
end
end Dw
namespace K06
open PySem PySem.Spec PyProof.Rows L2 NdefX Xs Dw
def topS (i : Nat) : Stmt := PySem.Challenge.pw_manybuilds_k06_errors_made_and_bases.main.body.getD i (.Pass ⟨0, 0, 0, 0⟩)
abbrev ga := He.ga
def plainNames : List Str := (["BadAct", "BadChosen", "BadCondition", "BadCosts", "BadCube", "BadEdit", "BadExpression", "BadFork", "BadForm", "BadHouse"] : List Str) ++ (["BadIndex", "BadInterface", "BadInterfaces", "BadLine", "BadLot", "BadLots", "BadMeasure", "BadMost", "BadMove"] : List Str) ++ (["BadNames", "BadNumber", "BadNumbers", "BadPart", "BadParts", "BadPatch", "BadPath", "BadRow", "BadSetting", "BadStep"] : List Str) ++ (["BadSwitch", "BadTable", "BadTerm", "BadText", "BadTold", "LastSwitch", "NotAlike", "NotEnough", "NotGiven", "NotRight"] : List Str) ++ (["NothingDone", "NothingUndone", "Unfit"] : List Str)
def toldNames : List Str := (["BadRows", "Caught", "Clash", "Clashing", "Mixed", "NotTold", "TooMany"] : List Str)
def allNames : List Str := (["BadAct", "BadChosen", "BadCondition", "BadCosts", "BadCube"] : List Str) ++ (["BadEdit", "BadExpression", "BadFork", "BadForm", "BadHouse"] : List Str) ++ (["BadIndex", "BadInterface", "BadInterfaces", "BadLine", "BadLot"] : List Str) ++ (["BadLots", "BadMeasure", "BadMost", "BadMove", "BadNames"] : List Str) ++ (["BadNumber", "BadNumbers", "BadPart", "BadParts", "BadPatch"] : List Str) ++ (["BadPath", "BadRow", "BadRows", "BadSetting", "BadStep"] : List Str) ++ (["BadSwitch", "BadTable", "BadTerm", "BadText", "BadTold"] : List Str) ++ (["Caught", "Clash", "Clashing", "LastSwitch", "Mixed"] : List Str) ++ (["NotAlike", "NotEnough", "NotGiven", "NotRight", "NotTold"] : List Str) ++ (["NothingDone", "NothingUndone", "TooMany", "Unfit"] : List Str)
abbrev nm (j : Nat) : Str := allNames.getD j ""
abbrev cl (K : PySem.W.Frag) (j : Nat) : Addr := ga K (nm j)
section
variable {P : Program} {w : World} {K : PySem.W.Frag} {mg : Str → Option Value} {base : Heap} {X : Cx}
theorem grow0 {Cs : List Addr} {σ : L2.St} {H : Hp} {Q : VK} (hz : Cs.length ≤ 1000) (q : ∀ p as H', Same H H' → H' p = some (.lst (as.map .ref)) → Errs H' as Cs → Q (.ref p) H') : tLst (tErrs Cs) σ H Q := by
  refine fun as H1 s1 P1 => ⟨?_, fun l n1 => q l as _ (s1.trans (same_upd n1 _)) upd_same (P1.same (same_upd n1 _))⟩
  rw [List.length_map, Paired.length P1, sizeLine_eq]
  omega
theorem grow {Cs1 Cs2 : List Addr} {σ : L2.St} {H : Hp} {Q : VK} {l1 : Addr} {as1 : List Addr} (h0 : σ[0]? = some (some (.ref l1))) (A1 : H l1 = some (.lst (as1.map .ref))) (E1 : Errs H as1 Cs1) (hz : Cs1.length + Cs2.length ≤ 1000)
    (q : ∀ p as H', Same H H' → H' p = some (.lst (as.map .ref)) → Errs H' as (Cs1 ++ Cs2) → Q (.ref p) H') : tOp rCat (tVar 0) (tLst (tErrs Cs2)) σ H Q := by
  refine ⟨_, h0, fun as2 H2 s2 P2 => ⟨?_, fun l2 n2 => ⟨l1, l2, _, _, rfl, rfl, same_upd n2 _ _ _ (s2 _ _ A1), upd_same, ?_, fun p np => ?_⟩⟩⟩
  · rw [List.length_map, Paired.length P2, sizeLine_eq]
    omega
  · rw [List.length_map, List.length_map, Paired.length P2, Paired.length E1, sizeLine_eq]
    omega
  · obtain ⟨S, E⟩ := cat_step E1 s2 P2 n2 np (.lst (as1.map V.ref ++ as2.map V.ref))
    exact q p (as1 ++ as2) _ S (by rw [upd_same, List.map_append]) E
theorem grow0s {Cs : List Addr} {y : Option V} {H : Hp} {D : Ends} {rest : TS} (hz : Cs.length ≤ 1000) (q : ∀ p as H', Same H H' → H' p = some (.lst (as.map .ref)) → Errs H' as Cs → rest D [some (.ref p)] H') : tSeq (tAsg (tLst (tErrs Cs)) (gName 0)) rest D [y] H :=
  grow0 (σ := [y]) (Q := fun v H' => rest D [some v] H') hz q
theorem grows {Cs1 Cs2 : List Addr} {H : Hp} {D : Ends} {rest : TS} {l1 : Addr} {as1 : List Addr} (A1 : H l1 = some (.lst (as1.map .ref))) (E1 : Errs H as1 Cs1) (hz : Cs1.length + Cs2.length ≤ 1000)
    (q : ∀ p as H', Same H H' → H' p = some (.lst (as.map .ref)) → Errs H' as (Cs1 ++ Cs2) → rest D [some (.ref p)] H') : tSeq (tAsg (tOp rCat (tVar 0) (tLst (tErrs Cs2))) (gName 0)) rest D [some (.ref l1)] H :=
  grow (σ := [some (.ref l1)]) (Q := fun v H' => rest D [some v] H') rfl A1 E1 hz q

abbrev sPlain : Stmt := topS 56
theorem scPlain : FnScope ["found"] [] (defScope sPlain) := ⟨rfl, rfl, rfl, by decide +kernel, rfl, by decide +kernel, by decide +kernel⟩
def spPlain (K : PySem.W.Frag) : Sp := fun vs H Q _ => vs = [] ∧ ∀ l as H', Same H H' → H' l = some (.lst (as.map .ref)) → Errs H' as (plainNames.map (ga K)) → Q (.ref l) H'
theorem ok_plain {f : Addr} {fd : FuncData} {k : Nat} (F : Fun K "_law_plain_errors" "_law_plain_errors" sPlain f fd) (P1 : ∀ x, x ∈ plainNames → Pl K mg x (ga K x)) : FnOk P w K mg base CX0 (k + 1) f fd [] (spPlain K) := by
  refine F.ok scPlain (fun vs H Q E h => ?_) (fun cdv A outer s H vs Q E hr h => ?_)
  · obtain ⟨rfl, _⟩ := h
    rfl
  have nd := scPlain.nd
  refine ⟨_, (pss_cons (ps_set (i := 0) nd rfl (Or.inl rfl) (pe_lst (pa_err1 (pe_err (P1 "BadAct" (by decide +kernel)) rfl) (pa_err1 (pe_err (P1 "BadChosen" (by decide +kernel)) rfl) (pa_err1 (pe_err (P1 "BadCondition" (by decide +kernel)) rfl) (pa_err1 (pe_err (P1 "BadCosts" (by decide +kernel)) rfl) (pa_err1 (pe_err (P1 "BadCube" (by decide +kernel)) rfl) (pa_err1 (pe_err (P1 "BadEdit" (by decide +kernel)) rfl) (pa_err1 (pe_err (P1 "BadExpression" (by decide +kernel)) rfl) (pa_err1 (pe_err (P1 "BadFork" (by decide +kernel)) rfl) (pa_err1 (pe_err (P1 "BadForm" (by decide +kernel)) rfl) (pa_err1 (pe_err (P1 "BadHouse" (by decide +kernel)) rfl) (pa_err0)))))))))))))
    (pss_cons (ps_set (i := 0) nd rfl (Or.inl rfl) (pe_op op_cat (pv 0) (pe_lst (pa_err1 (pe_err (P1 "BadIndex" (by decide +kernel)) rfl) (pa_err1 (pe_err (P1 "BadInterface" (by decide +kernel)) rfl) (pa_err1 (pe_err (P1 "BadInterfaces" (by decide +kernel)) rfl) (pa_err1 (pe_err (P1 "BadLine" (by decide +kernel)) rfl) (pa_err1 (pe_err (P1 "BadLot" (by decide +kernel)) rfl) (pa_err1 (pe_err (P1 "BadLots" (by decide +kernel)) rfl) (pa_err1 (pe_err (P1 "BadMeasure" (by decide +kernel)) rfl) (pa_err1 (pe_err (P1 "BadMost" (by decide +kernel)) rfl) (pa_err1 (pe_err (P1 "BadMove" (by decide +kernel)) rfl) (pa_err0)))))))))))))
    (pss_cons (ps_set (i := 0) nd rfl (Or.inl rfl) (pe_op op_cat (pv 0) (pe_lst (pa_err1 (pe_err (P1 "BadNames" (by decide +kernel)) rfl) (pa_err1 (pe_err (P1 "BadNumber" (by decide +kernel)) rfl) (pa_err1 (pe_err (P1 "BadNumbers" (by decide +kernel)) rfl) (pa_err1 (pe_err (P1 "BadPart" (by decide +kernel)) rfl) (pa_err1 (pe_err (P1 "BadParts" (by decide +kernel)) rfl) (pa_err1 (pe_err (P1 "BadPatch" (by decide +kernel)) rfl) (pa_err1 (pe_err (P1 "BadPath" (by decide +kernel)) rfl) (pa_err1 (pe_err (P1 "BadRow" (by decide +kernel)) rfl) (pa_err1 (pe_err (P1 "BadSetting" (by decide +kernel)) rfl) (pa_err1 (pe_err (P1 "BadStep" (by decide +kernel)) rfl) (pa_err0))))))))))))))
    (pss_cons (ps_set (i := 0) nd rfl (Or.inl rfl) (pe_op op_cat (pv 0) (pe_lst (pa_err1 (pe_err (P1 "BadSwitch" (by decide +kernel)) rfl) (pa_err1 (pe_err (P1 "BadTable" (by decide +kernel)) rfl) (pa_err1 (pe_err (P1 "BadTerm" (by decide +kernel)) rfl) (pa_err1 (pe_err (P1 "BadText" (by decide +kernel)) rfl) (pa_err1 (pe_err (P1 "BadTold" (by decide +kernel)) rfl) (pa_err1 (pe_err (P1 "LastSwitch" (by decide +kernel)) rfl) (pa_err1 (pe_err (P1 "NotAlike" (by decide +kernel)) rfl) (pa_err1 (pe_err (P1 "NotEnough" (by decide +kernel)) rfl) (pa_err1 (pe_err (P1 "NotGiven" (by decide +kernel)) rfl) (pa_err1 (pe_err (P1 "NotRight" (by decide +kernel)) rfl) (pa_err0))))))))))))))
    (pss_cons (ps_set (i := 0) nd rfl (Or.inl rfl) (pe_op op_cat (pv 0) (pe_lst (pa_err1 (pe_err (P1 "NothingDone" (by decide +kernel)) rfl) (pa_err1 (pe_err (P1 "NothingUndone" (by decide +kernel)) rfl) (pa_err1 (pe_err (P1 "Unfit" (by decide +kernel)) rfl) (pa_err0)))))))
    (pss_one (ps_ret (pv 0)))))))), ?_⟩
  obtain ⟨rfl, q⟩ := h
  refine grow0s (y := none) ?_ fun p1 as1 G1 S1 A1 E1 => ?_
  · simp
  refine grows A1 E1 ?_ fun p2 as2 G2 S2 A2 E2 => ?_
  · simp
  refine grows A2 E2 ?_ fun p3 as3 G3 S3 A3 E3 => ?_
  · simp
  refine grows A3 E3 ?_ fun p4 as4 G4 S4 A4 E4 => ?_
  · simp
  refine grows A4 E4 ?_ fun p5 as5 G5 S5 A5 E5 => ?_
  · simp
  exact ⟨_, rfl, q p5 as5 G5 ((((S1.trans S2).trans S3).trans S4).trans S5) A5 E5⟩
abbrev sTold : Stmt := topS 57
theorem scTold : FnScope ["one", "other", "found", "error"] ["one", "other"] (defScope sTold) := ⟨rfl, rfl, rfl, by decide +kernel, rfl, by decide +kernel, by decide +kernel⟩
/-- an entry: the error, its field in a list, what was given in a list; none of them is the list l -/
def TupE (l : Addr) (v : V) (H : Hp) (t C : Addr) : Prop := ∃ e m u, H t = some (.tup [.ref e, .ref m, .ref u]) ∧ ErrAt H e C ∧ H m = some (.lst [v]) ∧ H u = some (.lst [v]) ∧ m ≠ l ∧ u ≠ l
/-- all stands but at l -/
def But (l : Addr) (H H' : Hp) : Prop := ∀ b o, b ≠ l → H b = some o → H' b = some o
theorem ErrAt.but {l : Addr} {H H' : Hp} {a C : Addr} {xs : List V} (hl : H l = some (.lst xs)) (s : But l H H') (h : ErrAt H a C) : ErrAt H' a C := by
  have ne : ∀ b φ, H b = some (.ext φ) → b ≠ l := fun b φ z z2 => by rw [z2, hl] at z; cases z
  rcases h with h | ⟨d, fs, h2, h5⟩
  · exact .inl (s _ _ (ne _ _ h) h)
  · exact .inr ⟨d, fs, s _ _ (ne _ _ h2) h2, s _ _ (ne _ _ h5) h5⟩
theorem TupE.but {l : Addr} {H H' : Hp} {t C : Addr} {v : V} {xs : List V} (hl : H l = some (.lst xs)) (s : But l H H') (h : TupE l v H t C) : TupE l v H' t C := by
  obtain ⟨e, m, u, h1, h2, h3, h4, n1, n2⟩ := h
  have nt : t ≠ l := fun z => by rw [z, hl] at h1; cases h1
  exact ⟨e, m, u, s _ _ nt h1, ErrAt.but hl s h2, s _ _ n1 h3, s _ _ n2 h4, n1, n2⟩
abbrev Roex (C : Addr) (fld : Str) : TE := fun σ H Q => (tCons (tVar 0) tNil) σ H fun vs H1 => vs.length ≤ 1000 ∧ ∀ a, H1 a = none → spInit C fld (.ref a :: (vs ++ [])) (upd H1 a (exo a C none)) (fun v H2 => v = .non ∧ Q (.ref a) H2) E0
abbrev Rget (K : PySem.W.Frag) (n : Str) : TE := fun σ H Q => (tVar 3) σ H fun x H1 => ∃ (a C d : Addr) (fs : List (Str × V)) (v : V), x = .ref a ∧ H1 a = some (exo a C (some d)) ∧ H1 d = some (exd d fs) ∧ fs.lookup n = some v ∧ XfC K C ∧ PySem.W.findIn K (.ref C) n = some none ∧ Q v H1
abbrev Rapp (K : PySem.W.Frag) (fld : Str) : TE := tBM K "list" rAppend (tVar 2) (tCons (tTup (tCons (tVar 3) (tCons (tLst (tCons (Rget K fld) tNil)) (tCons (tLst (tCons (tVar 0) tNil)) tNil)))) tNil)
theorem told_step {C : Addr} {fld : Str} {v1 v2 : V} {l : Addr} {ts Cs : List Addr} {y : Option V} {G H0 : Hp} {D : Ends} {rest : TS} (hl : G l = some (.lst (ts.map .ref))) (hz : ts.length ≤ 900) (S : But l H0 G) (PT : Paired (TupE l v1 G) ts Cs) (xf : XfC K C) (hno : PySem.W.findIn K (.ref C) fld = some none)
    (q : ∀ e ts' G', But l H0 G' → G' l = some (.lst (ts'.map .ref)) → ts'.length = ts.length + 1 → Paired (TupE l v1 G') ts' (Cs ++ [C]) → rest D [some v1, some v2, some (.ref l), some (.ref e)] G') :
    tSeq (tAsg (Roex C fld) (gName 3)) (tSeq (tDrop (Rapp K fld)) rest) D [some v1, some v2, some (.ref l), y] G := by
  refine ⟨_, rfl, by show 1 ≤ 1000; decide, fun a na => ⟨a, v1, rfl, upd_same, fun dx nd ne => ⟨rfl, ?_⟩⟩⟩
  have nal : l ≠ a := ne_of_none hl na
  have nda : G dx = none := by
    rw [upd_ne ne] at nd
    exact nd
  have ndl : l ≠ dx := ne_of_none hl nda
  have a1 : upd (upd (upd G a (exo a C none)) dx (exd dx [(fld, v1)])) a (exo a C (some dx)) a = some (exo a C (some dx)) := upd_same
  have d1 : upd (upd (upd G a (exo a C none)) dx (exd dx [(fld, v1)])) a (exo a C (some dx)) dx = some (exd dx [(fld, v1)]) := by rw [upd_ne ne, upd_same]
  have s1 : ∀ b o, G b = some o → upd (upd (upd G a (exo a C none)) dx (exd dx [(fld, v1)])) a (exo a C (some dx)) b = some o := fun b o z => by
    rw [upd_ne (ne_of_none z na), upd_ne (ne_of_none z nda), upd_ne (ne_of_none z na)]
    exact z
  generalize upd (upd (upd G a (exo a C none)) dx (exd dx [(fld, v1)])) a (exo a C (some dx)) = G1 at a1 d1 s1
  refine ⟨_, rfl, .inl ⟨rfl, _, .inl (.inl (s1 _ _ hl))⟩, _, rfl, _, rfl, a, C, dx, _, v1, rfl, a1, d1, by simp [List.lookup], xf, hno, by show 1 ≤ sizeLine; decide, fun m nm => ?_⟩
  have s2 := same_upd nm (.lst [v1])
  refine ⟨_, rfl, by show 1 ≤ sizeLine; decide, fun u nu => ?_⟩
  have s3 := same_upd nu (.lst [v1])
  refine ⟨by show 3 ≤ sizeLine; decide, fun t nt => ?_⟩
  have s4 := same_upd nt (.tup [.ref a, .ref m, .ref u])
  have sA := (Same.trans (Same.trans s2 s3) s4)
  have hl4 := sA _ _ (s1 _ _ hl)
  have ml : l ≠ m := ne_of_none (s1 _ _ hl) nm
  have ul : l ≠ u := ne_of_none (s2 _ _ (s1 _ _ hl)) nu
  have tl : l ≠ t := ne_of_none (s3 _ _ (s2 _ _ (s1 _ _ hl))) nt
  have m4 := s4 _ _ (s3 _ _ (upd_same (H := G1) (a := m) (o := .lst [v1])))
  have u4 := s4 _ _ (upd_same (H := upd G1 m (.lst [v1])) (a := u) (o := .lst [v1]))
  have t4 : upd (upd (upd G1 m (.lst [v1])) u (.lst [v1])) t (.tup [.ref a, .ref m, .ref u]) t = some (.tup [.ref a, .ref m, .ref u]) := upd_same
  have a4 := sA _ _ a1
  have d4 := sA _ _ d1
  have sG : ∀ b o, G b = some o → upd (upd (upd G1 m (.lst [v1])) u (.lst [v1])) t (.tup [.ref a, .ref m, .ref u]) b = some o := fun b o z => sA _ _ (s1 _ _ z)
  generalize upd (upd (upd G1 m (.lst [v1])) u (.lst [v1])) t (.tup [.ref a, .ref m, .ref u]) = G4 at hl4 m4 u4 t4 a4 d4 sG
  refine ⟨l, _, _, rfl, rfl, hl4, by rw [List.length_map, sizeLine_eq]; omega, ?_⟩
  have b5 : But l G4 (upd G4 l (.lst (ts.map V.ref ++ [.ref t]))) := fun b o n z => by rw [upd_ne n]; exact z
  have bG : But l G (upd G4 l (.lst (ts.map V.ref ++ [.ref t]))) := fun b o n z => b5 b o n (sG b o z)
  refine q a (ts ++ [t]) _ (fun b o n z => bG b o n (S b o n z)) (by rw [upd_same, List.map_append]; rfl) (by simp) (paired_app (Paired.mapP PT fun _ _ z => z.but hl bG) (.cons ?_ .nil))
  exact ⟨a, m, u, b5 _ _ (Ne.symm tl) t4, .inr ⟨dx, _, b5 _ _ (Ne.symm nal) a4, b5 _ _ (Ne.symm ndl) d4⟩, b5 _ _ (Ne.symm ml) m4, b5 _ _ (Ne.symm ul) u4, Ne.symm ml, Ne.symm ul⟩
/-- what is asked of a class of errors with the field fld -/
structure Tl (P : Program) (w : World) (K : PySem.W.Frag) (mg : Str → Option Value) (base : Heap) (k : Nat) (x fld : Str) (C fI : Addr) (fd : FuncData) : Prop where
  g : mg x = some (.ref C)
  T : OexC K C
  i : PySem.W.findIn K (.ref C) "__init__" = some (some (.ref fI))
  t : PySem.W.typeIn K (.ref fI) = some (.type "function")
  f : FnOk P w K mg base CX0 k fI fd ["self", fld] (spInit C fld)
  b : Binds K fd ["self", fld] []
  xf : XfC K C
  no : PySem.W.findIn K (.ref C) fld = some none
def spTold (K : PySem.W.Frag) : Sp := fun vs H Q _ => ∃ v1 v2, vs = [v1, v2] ∧ ∀ l ts H', Same H H' → H' l = some (.lst (ts.map .ref)) → Paired (TupE l v1 H') ts (toldNames.map (ga K)) → Q (.ref l) H'

theorem ok_told {f : Addr} {fd : FuncData} {k : Nat} {g0 : Addr} {d0 : FuncData} {g1 : Addr} {d1 : FuncData} {g2 : Addr} {d2 : FuncData} {g3 : Addr} {d3 : FuncData} {g4 : Addr} {d4 : FuncData} {g5 : Addr} {d5 : FuncData} {g6 : Addr} {d6 : FuncData} (F : Fun K "_law_told_errors" "_law_told_errors" sTold f fd) (T0 : Tl P w K mg base k "BadRows" "at" (ga K "BadRows") g0 d0) (T1 : Tl P w K mg base k "Caught" "path" (ga K "Caught") g1 d1) (T2 : Tl P w K mg base k "Clash" "path" (ga K "Clash") g2 d2) (T3 : Tl P w K mg base k "Clashing" "setting" (ga K "Clashing") g3 d3) (T4 : Tl P w K mg base k "Mixed" "x" (ga K "Mixed") g4 d4) (T5 : Tl P w K mg base k "NotTold" "setting" (ga K "NotTold") g5 d5) (T6 : Tl P w K mg base k "TooMany" "most" (ga K "TooMany") g6 d6) :
    FnOk P w K mg base CX0 (k + 2) f fd ["one", "other"] (spTold K) := by
  refine F.ok scTold (fun vs H Q E h => ?_) (fun cdv A outer s H vs Q E hr h => ?_)
  · obtain ⟨v1, v2, rfl, _⟩ := h
    rfl
  have nd := scTold.nd
  refine ⟨_, pss_cons (ps_set (i := 2) nd rfl (Or.inl rfl) (pe_lst pa_nil)) (pss_cons (ps_set (i := 3) nd rfl (Or.inl rfl) (pe_oex T0.T T0.i T0.t T0.f hr T0.b .nil pass0 rfl T0.g (pa_cons (pv 0) pa_nil)))
    (pss_cons (ps_expr (pe_bm PySem.F.plainAttrs_list PySem.F.slot_list_append PySem.F.type_list_append mt_append (pv 2) (pa_cons (pe_tup (pa_cons (pv 3) (pa_cons (pe_lst (pa_cons (pe_oget (pv 3)) pa_nil)) (pa_cons (pe_lst (pa_cons (pv 0) pa_nil)) pa_nil)))) pa_nil)))
    (pss_cons (ps_set (i := 3) nd rfl (Or.inl rfl) (pe_oex T1.T T1.i T1.t T1.f hr T1.b .nil pass0 rfl T1.g (pa_cons (pv 0) pa_nil)))
    (pss_cons (ps_expr (pe_bm PySem.F.plainAttrs_list PySem.F.slot_list_append PySem.F.type_list_append mt_append (pv 2) (pa_cons (pe_tup (pa_cons (pv 3) (pa_cons (pe_lst (pa_cons (pe_oget (pv 3)) pa_nil)) (pa_cons (pe_lst (pa_cons (pv 0) pa_nil)) pa_nil)))) pa_nil)))
    (pss_cons (ps_set (i := 3) nd rfl (Or.inl rfl) (pe_oex T2.T T2.i T2.t T2.f hr T2.b .nil pass0 rfl T2.g (pa_cons (pv 0) pa_nil)))
    (pss_cons (ps_expr (pe_bm PySem.F.plainAttrs_list PySem.F.slot_list_append PySem.F.type_list_append mt_append (pv 2) (pa_cons (pe_tup (pa_cons (pv 3) (pa_cons (pe_lst (pa_cons (pe_oget (pv 3)) pa_nil)) (pa_cons (pe_lst (pa_cons (pv 0) pa_nil)) pa_nil)))) pa_nil)))
    (pss_cons (ps_set (i := 3) nd rfl (Or.inl rfl) (pe_oex T3.T T3.i T3.t T3.f hr T3.b .nil pass0 rfl T3.g (pa_cons (pv 0) pa_nil)))
    (pss_cons (ps_expr (pe_bm PySem.F.plainAttrs_list PySem.F.slot_list_append PySem.F.type_list_append mt_append (pv 2) (pa_cons (pe_tup (pa_cons (pv 3) (pa_cons (pe_lst (pa_cons (pe_oget (pv 3)) pa_nil)) (pa_cons (pe_lst (pa_cons (pv 0) pa_nil)) pa_nil)))) pa_nil)))
    (pss_cons (ps_set (i := 3) nd rfl (Or.inl rfl) (pe_oex T4.T T4.i T4.t T4.f hr T4.b .nil pass0 rfl T4.g (pa_cons (pv 0) pa_nil)))
    (pss_cons (ps_expr (pe_bm PySem.F.plainAttrs_list PySem.F.slot_list_append PySem.F.type_list_append mt_append (pv 2) (pa_cons (pe_tup (pa_cons (pv 3) (pa_cons (pe_lst (pa_cons (pe_oget (pv 3)) pa_nil)) (pa_cons (pe_lst (pa_cons (pv 0) pa_nil)) pa_nil)))) pa_nil)))
    (pss_cons (ps_set (i := 3) nd rfl (Or.inl rfl) (pe_oex T5.T T5.i T5.t T5.f hr T5.b .nil pass0 rfl T5.g (pa_cons (pv 0) pa_nil)))
    (pss_cons (ps_expr (pe_bm PySem.F.plainAttrs_list PySem.F.slot_list_append PySem.F.type_list_append mt_append (pv 2) (pa_cons (pe_tup (pa_cons (pv 3) (pa_cons (pe_lst (pa_cons (pe_oget (pv 3)) pa_nil)) (pa_cons (pe_lst (pa_cons (pv 0) pa_nil)) pa_nil)))) pa_nil)))
    (pss_cons (ps_set (i := 3) nd rfl (Or.inl rfl) (pe_oex T6.T T6.i T6.t T6.f hr T6.b .nil pass0 rfl T6.g (pa_cons (pv 0) pa_nil)))
    (pss_cons (ps_expr (pe_bm PySem.F.plainAttrs_list PySem.F.slot_list_append PySem.F.type_list_append mt_append (pv 2) (pa_cons (pe_tup (pa_cons (pv 3) (pa_cons (pe_lst (pa_cons (pe_oget (pv 3)) pa_nil)) (pa_cons (pe_lst (pa_cons (pv 0) pa_nil)) pa_nil)))) pa_nil)))
    (pss_one (ps_ret (pv 2))))))))))))))))), ?_⟩
  obtain ⟨v1, v2, rfl, q⟩ := h
  refine ⟨by decide, fun l nl => ?_⟩
  have A0 : upd H l (.lst []) l = some (.lst (([] : List Addr).map V.ref)) := upd_same
  have S0 : But l H (upd H l (.lst [])) := fun b o n z => by rw [upd_ne n]; exact z
  generalize upd H l (.lst []) = G0 at A0 S0
  refine told_step (K := K) (ts := []) (Cs := []) A0 (by decide) S0 .nil T0.xf T0.no (fun e1 t1 G1 S1 A1 L1 E1 => ?_)
  refine told_step (K := K) (ts := t1) (Cs := _) A1 (by simp only [List.length_nil] at *; omega) S1 E1 T1.xf T1.no (fun e2 t2 G2 S2 A2 L2 E2 => ?_)
  refine told_step (K := K) (ts := t2) (Cs := _) A2 (by simp only [List.length_nil] at *; omega) S2 E2 T2.xf T2.no (fun e3 t3 G3 S3 A3 L3 E3 => ?_)
  refine told_step (K := K) (ts := t3) (Cs := _) A3 (by simp only [List.length_nil] at *; omega) S3 E3 T3.xf T3.no (fun e4 t4 G4 S4 A4 L4 E4 => ?_)
  refine told_step (K := K) (ts := t4) (Cs := _) A4 (by simp only [List.length_nil] at *; omega) S4 E4 T4.xf T4.no (fun e5 t5 G5 S5 A5 L5 E5 => ?_)
  refine told_step (K := K) (ts := t5) (Cs := _) A5 (by simp only [List.length_nil] at *; omega) S5 E5 T5.xf T5.no (fun e6 t6 G6 S6 A6 L6 E6 => ?_)
  refine told_step (K := K) (ts := t6) (Cs := _) A6 (by simp only [List.length_nil] at *; omega) S6 E6 T6.xf T6.no (fun e7 t7 G7 S7 A7 L7 E7 => ?_)
  exact ⟨_, rfl, q l t7 G7 (fun b o z => S7 b o (ne_of_none z nl) z) A7 E7⟩
abbrev sClasses : Stmt := topS 58
theorem scClasses : FnScope ["error", "found", "k", "is_one"] ["error"] (defScope sClasses) := ⟨rfl, rfl, rfl, by decide +kernel, rfl, by decide +kernel, by decide +kernel⟩
def spClasses (K : PySem.W.Frag) : Sp := fun vs H Q _ => ∃ a i, vs = [.ref a] ∧ i < 49 ∧ ErrAt H a (cl K i) ∧ ∀ l H', Same H H' → H' l = some (.lst [.int (i : Nat)]) → Q (.ref l) H'
/-- what is asked of all classes together -/
structure IsF (K : PySem.W.Frag) (mg : Str → Option Value) : Prop where
  g : ∀ j, j < 49 → mg (nm j) = some (.ref (cl K j))
  c : ∀ j, j < 49 → IsC K (cl K j)
  k : ∀ i j, i < 49 → j < 49 → PySem.W.kitOne K (.ref (cl K i)) (.ref (cl K j)) = some (decide (i = j))
abbrev bb (i j : Nat) : V := .bl (decide (i = j))
def tIs (K : PySem.W.Frag) (a : Addr) (i j : Nat) : TE := fun σ H Q => σ[0]? = some (some (.ref a)) ∧ ErrAt H a (cl K i) ∧ Q (bb i j) H
def tIss (K : PySem.W.Frag) (a : Addr) (i : Nat) (js : List Nat) : TA := fun σ H Q => σ[0]? = some (some (.ref a)) ∧ ErrAt H a (cl K i) ∧ Q (js.map (bb i)) H
theorem pe_is {a : Addr} {i : Nat} (j : Nat) {x : Str} {p p1 p2 pos : Pos} (Z : IsF X.K X.mg) (hi : i < 49) (hj : j < 49) (hx : nm j = x) (mi : X.mg "isinstance" = none) (he : PE X (.Name "error" p1) (tVar 0)) (hg : Gl X "isinstance") (hgl : Gl X x) (hdb : (x == ("__debug__" : Str)) = false := by decide +kernel) :
    PE X (.Call (.Name "isinstance" p) [.Name "error" p1, .Name x p2] [] pos) (tIs X.K a i j) := by
  refine ⟨fun pins s σ H Q I h => ?_⟩
  obtain ⟨h0, ea, q⟩ := h
  refine (pe_callB (call_isE (X := X)) hg mi (by decide +kernel) (pa_cons he (pa_cons (pe_glob (v := .ref (cl X.K j)) hgl (by rw [← hx]; exact Z.g j hj) rfl hdb) pa_nil))).run pins s σ H Q I ?_
  exact ⟨_, h0, a, cl X.K i, .ref (cl X.K j), .ref (cl X.K j), _, rfl, .own _, ea, Z.c i hi, Z.k i j hi hj, q⟩
theorem pa_is0 {a : Addr} {i : Nat} : PA X [] (tIss X.K a i []) := ⟨fun pos pins s σ H Q I h => pa_nil.run pos pins s σ H Q I h.2.2⟩
theorem pa_is1 {a : Addr} {i j : Nat} {js : List Nat} {e : Expr} {es : List Expr} (he : PE X e (tIs X.K a i j)) (hr : PA X es (tIss X.K a i js)) (hs : starEach (e :: es) X.env = (false, eval e X.env) :: starEach es X.env := by rfl) : PA X (e :: es) (tIss X.K a i (j :: js)) :=
  ⟨fun pos pins s σ H Q I h => (pa_cons he hr hs).run pos pins s σ H Q I ⟨h.1, h.2.1, h.1, h.2.1, h.2.2⟩⟩
theorem growB0 {a : Addr} {i : Nat} {js : List Nat} {σ : L2.St} {H : Hp} {Q : VK} (h0 : σ[0]? = some (some (.ref a))) (ea : ErrAt H a (cl K i)) (hz : js.length ≤ 1000) (q : ∀ p H', Same H H' → H' p = some (.lst (js.map (bb i))) → Q (.ref p) H') : tLst (tIss K a i js) σ H Q := by
  refine ⟨h0, ea, ?_, fun p np => q p _ (same_upd np _) upd_same⟩
  rw [List.length_map, sizeLine_eq]
  omega
theorem growB {a : Addr} {i : Nat} {js1 js2 : List Nat} {σ : L2.St} {H : Hp} {Q : VK} {l1 : Addr} (h0 : σ[0]? = some (some (.ref a))) (h1 : σ[1]? = some (some (.ref l1))) (ea : ErrAt H a (cl K i)) (A1 : H l1 = some (.lst (js1.map (bb i)))) (hz : js1.length + js2.length ≤ 1000)
    (q : ∀ p H', Same H H' → H' p = some (.lst ((js1 ++ js2).map (bb i))) → Q (.ref p) H') : tOp rCat (tVar 1) (tLst (tIss K a i js2)) σ H Q := by
  refine ⟨_, h1, h0, ea, ?_, fun l2 n2 => ⟨l1, l2, _, _, rfl, rfl, same_upd n2 _ _ _ A1, upd_same, ?_, fun p np => q p _ ((same_upd n2 _).trans (same_upd np _)) ?_⟩⟩
  · rw [List.length_map, sizeLine_eq]
    omega
  · rw [List.length_map, List.length_map, sizeLine_eq]
    omega
  · rw [upd_same, List.map_append]
theorem growB0s {a : Addr} {i : Nat} {js : List Nat} {y1 y2 y3 : Option V} {H : Hp} {D : Ends} {rest : TS} (ea : ErrAt H a (cl K i)) (hz : js.length ≤ 1000) (q : ∀ p H', Same H H' → H' p = some (.lst (js.map (bb i))) → rest D [some (.ref a), some (.ref p), y2, y3] H') : tSeq (tAsg (tLst (tIss K a i js)) (gName 1)) rest D [some (.ref a), y1, y2, y3] H :=
  growB0 (σ := [some (.ref a), y1, y2, y3]) (Q := fun v H' => rest D [some (.ref a), some v, y2, y3] H') rfl ea hz q
theorem growBs {a : Addr} {i : Nat} {js1 js2 : List Nat} {y2 y3 : Option V} {H : Hp} {D : Ends} {rest : TS} {l1 : Addr} (ea : ErrAt H a (cl K i)) (A1 : H l1 = some (.lst (js1.map (bb i)))) (hz : js1.length + js2.length ≤ 1000)
    (q : ∀ p H', Same H H' → H' p = some (.lst ((js1 ++ js2).map (bb i))) → rest D [some (.ref a), some (.ref p), y2, y3] H') : tSeq (tAsg (tOp rCat (tVar 1) (tLst (tIss K a i js2))) (gName 1)) rest D [some (.ref a), some (.ref l1), y2, y3] H :=
  growB (σ := [some (.ref a), some (.ref l1), y2, y3]) (Q := fun v H' => rest D [some (.ref a), some v, y2, y3] H') rfl rfl ea A1 hz q
theorem ok_classes {f : Addr} {fd : FuncData} {k : Nat} (F : Fun K "_law_classes" "_law_classes" sClasses f fd) (Z : IsF K mg) (mi : mg "isinstance" = none) (me : mg "enumerate" = none) : FnOk P w K mg base CX0 (k + 1) f fd ["error"] (spClasses K) := by
  refine F.ok scClasses (fun vs H Q E h => ?_) (fun cdv A outer s H vs Q E hr h => ?_)
  · obtain ⟨a, i, rfl, _⟩ := h
    rfl
  have nd := scClasses.nd
  obtain ⟨a, i, rfl, hi, ea, q⟩ := h
  refine ⟨_, (pss_cons (ps_set (i := 1) nd rfl (Or.inl rfl) (pe_lst (pa_is1 (pe_is (a := a) (i := i) 0 Z hi (by decide) (by decide +kernel) mi (pv 0) rfl rfl) (pa_is1 (pe_is (a := a) (i := i) 1 Z hi (by decide) (by decide +kernel) mi (pv 0) rfl rfl) (pa_is1 (pe_is (a := a) (i := i) 2 Z hi (by decide) (by decide +kernel) mi (pv 0) rfl rfl) (pa_is1 (pe_is (a := a) (i := i) 3 Z hi (by decide) (by decide +kernel) mi (pv 0) rfl rfl) (pa_is1 (pe_is (a := a) (i := i) 4 Z hi (by decide) (by decide +kernel) mi (pv 0) rfl rfl) (pa_is0))))))))
    (pss_cons (ps_set (i := 1) nd rfl (Or.inl rfl) (pe_op op_cat (pv 1) (pe_lst (pa_is1 (pe_is (a := a) (i := i) 5 Z hi (by decide) (by decide +kernel) mi (pv 0) rfl rfl) (pa_is1 (pe_is (a := a) (i := i) 6 Z hi (by decide) (by decide +kernel) mi (pv 0) rfl rfl) (pa_is1 (pe_is (a := a) (i := i) 7 Z hi (by decide) (by decide +kernel) mi (pv 0) rfl rfl) (pa_is1 (pe_is (a := a) (i := i) 8 Z hi (by decide) (by decide +kernel) mi (pv 0) rfl rfl) (pa_is1 (pe_is (a := a) (i := i) 9 Z hi (by decide) (by decide +kernel) mi (pv 0) rfl rfl) (pa_is0)))))))))
    (pss_cons (ps_set (i := 1) nd rfl (Or.inl rfl) (pe_op op_cat (pv 1) (pe_lst (pa_is1 (pe_is (a := a) (i := i) 10 Z hi (by decide) (by decide +kernel) mi (pv 0) rfl rfl) (pa_is1 (pe_is (a := a) (i := i) 11 Z hi (by decide) (by decide +kernel) mi (pv 0) rfl rfl) (pa_is1 (pe_is (a := a) (i := i) 12 Z hi (by decide) (by decide +kernel) mi (pv 0) rfl rfl) (pa_is1 (pe_is (a := a) (i := i) 13 Z hi (by decide) (by decide +kernel) mi (pv 0) rfl rfl) (pa_is1 (pe_is (a := a) (i := i) 14 Z hi (by decide) (by decide +kernel) mi (pv 0) rfl rfl) (pa_is0)))))))))
    (pss_cons (ps_set (i := 1) nd rfl (Or.inl rfl) (pe_op op_cat (pv 1) (pe_lst (pa_is1 (pe_is (a := a) (i := i) 15 Z hi (by decide) (by decide +kernel) mi (pv 0) rfl rfl) (pa_is1 (pe_is (a := a) (i := i) 16 Z hi (by decide) (by decide +kernel) mi (pv 0) rfl rfl) (pa_is1 (pe_is (a := a) (i := i) 17 Z hi (by decide) (by decide +kernel) mi (pv 0) rfl rfl) (pa_is1 (pe_is (a := a) (i := i) 18 Z hi (by decide) (by decide +kernel) mi (pv 0) rfl rfl) (pa_is1 (pe_is (a := a) (i := i) 19 Z hi (by decide) (by decide +kernel) mi (pv 0) rfl rfl) (pa_is0)))))))))
    (pss_cons (ps_set (i := 1) nd rfl (Or.inl rfl) (pe_op op_cat (pv 1) (pe_lst (pa_is1 (pe_is (a := a) (i := i) 20 Z hi (by decide) (by decide +kernel) mi (pv 0) rfl rfl) (pa_is1 (pe_is (a := a) (i := i) 21 Z hi (by decide) (by decide +kernel) mi (pv 0) rfl rfl) (pa_is1 (pe_is (a := a) (i := i) 22 Z hi (by decide) (by decide +kernel) mi (pv 0) rfl rfl) (pa_is1 (pe_is (a := a) (i := i) 23 Z hi (by decide) (by decide +kernel) mi (pv 0) rfl rfl) (pa_is1 (pe_is (a := a) (i := i) 24 Z hi (by decide) (by decide +kernel) mi (pv 0) rfl rfl) (pa_is0)))))))))
    (pss_cons (ps_set (i := 1) nd rfl (Or.inl rfl) (pe_op op_cat (pv 1) (pe_lst (pa_is1 (pe_is (a := a) (i := i) 25 Z hi (by decide) (by decide +kernel) mi (pv 0) rfl rfl) (pa_is1 (pe_is (a := a) (i := i) 26 Z hi (by decide) (by decide +kernel) mi (pv 0) rfl rfl) (pa_is1 (pe_is (a := a) (i := i) 27 Z hi (by decide) (by decide +kernel) mi (pv 0) rfl rfl) (pa_is1 (pe_is (a := a) (i := i) 28 Z hi (by decide) (by decide +kernel) mi (pv 0) rfl rfl) (pa_is1 (pe_is (a := a) (i := i) 29 Z hi (by decide) (by decide +kernel) mi (pv 0) rfl rfl) (pa_is0)))))))))
    (pss_cons (ps_set (i := 1) nd rfl (Or.inl rfl) (pe_op op_cat (pv 1) (pe_lst (pa_is1 (pe_is (a := a) (i := i) 30 Z hi (by decide) (by decide +kernel) mi (pv 0) rfl rfl) (pa_is1 (pe_is (a := a) (i := i) 31 Z hi (by decide) (by decide +kernel) mi (pv 0) rfl rfl) (pa_is1 (pe_is (a := a) (i := i) 32 Z hi (by decide) (by decide +kernel) mi (pv 0) rfl rfl) (pa_is1 (pe_is (a := a) (i := i) 33 Z hi (by decide) (by decide +kernel) mi (pv 0) rfl rfl) (pa_is1 (pe_is (a := a) (i := i) 34 Z hi (by decide) (by decide +kernel) mi (pv 0) rfl rfl) (pa_is0)))))))))
    (pss_cons (ps_set (i := 1) nd rfl (Or.inl rfl) (pe_op op_cat (pv 1) (pe_lst (pa_is1 (pe_is (a := a) (i := i) 35 Z hi (by decide) (by decide +kernel) mi (pv 0) rfl rfl) (pa_is1 (pe_is (a := a) (i := i) 36 Z hi (by decide) (by decide +kernel) mi (pv 0) rfl rfl) (pa_is1 (pe_is (a := a) (i := i) 37 Z hi (by decide) (by decide +kernel) mi (pv 0) rfl rfl) (pa_is1 (pe_is (a := a) (i := i) 38 Z hi (by decide) (by decide +kernel) mi (pv 0) rfl rfl) (pa_is1 (pe_is (a := a) (i := i) 39 Z hi (by decide) (by decide +kernel) mi (pv 0) rfl rfl) (pa_is0)))))))))
    (pss_cons (ps_set (i := 1) nd rfl (Or.inl rfl) (pe_op op_cat (pv 1) (pe_lst (pa_is1 (pe_is (a := a) (i := i) 40 Z hi (by decide) (by decide +kernel) mi (pv 0) rfl rfl) (pa_is1 (pe_is (a := a) (i := i) 41 Z hi (by decide) (by decide +kernel) mi (pv 0) rfl rfl) (pa_is1 (pe_is (a := a) (i := i) 42 Z hi (by decide) (by decide +kernel) mi (pv 0) rfl rfl) (pa_is1 (pe_is (a := a) (i := i) 43 Z hi (by decide) (by decide +kernel) mi (pv 0) rfl rfl) (pa_is1 (pe_is (a := a) (i := i) 44 Z hi (by decide) (by decide +kernel) mi (pv 0) rfl rfl) (pa_is0)))))))))
    (pss_cons (ps_set (i := 1) nd rfl (Or.inl rfl) (pe_op op_cat (pv 1) (pe_lst (pa_is1 (pe_is (a := a) (i := i) 45 Z hi (by decide) (by decide +kernel) mi (pv 0) rfl rfl) (pa_is1 (pe_is (a := a) (i := i) 46 Z hi (by decide) (by decide +kernel) mi (pv 0) rfl rfl) (pa_is1 (pe_is (a := a) (i := i) 47 Z hi (by decide) (by decide +kernel) mi (pv 0) rfl rfl) (pa_is1 (pe_is (a := a) (i := i) 48 Z hi (by decide) (by decide +kernel) mi (pv 0) rfl rfl) (pa_is0))))))))
    (pss_one (ps_ret (pe_lc (own := [("k", 2), ("is_one", 3)]) (g := gTup K 2 (gCons (gName 2) (gCons (gName 3) gNil))) (tt := tB (tVar 3)) (te := tVar 2) rfl nd (pi_enum rfl me (pa_cons (pv 1) pa_nil)) (blkOk_by (N := ["error", "found", "k", "is_one"]) (sc := defScope sClasses) (by decide +kernel))
      (fun _ _ _ _ _ => pg_tup rfl (pgs_cons (pg_name (i := 2) nd rfl (Or.inl rfl)) (pgs_cons (pg_name (i := 3) nd rfl (Or.inl rfl)) pgs_nil))) (fun _ _ _ _ _ => pts_one (pt_val (pv 3))) (fun _ _ _ _ _ => pv 2)))))))))))))), ?_⟩
  refine growB0s (y1 := none) (y2 := none) (y3 := none) ea ?_ fun p1 G1 S1 A1 => ?_
  · simp
  have T1 := S1
  refine growBs (ea.same T1) A1 ?_ fun p2 G2 S2 A2 => ?_
  · simp
  have T2 := T1.trans S2
  refine growBs (ea.same T2) A2 ?_ fun p3 G3 S3 A3 => ?_
  · simp
  have T3 := T2.trans S3
  refine growBs (ea.same T3) A3 ?_ fun p4 G4 S4 A4 => ?_
  · simp
  have T4 := T3.trans S4
  refine growBs (ea.same T4) A4 ?_ fun p5 G5 S5 A5 => ?_
  · simp
  have T5 := T4.trans S5
  refine growBs (ea.same T5) A5 ?_ fun p6 G6 S6 A6 => ?_
  · simp
  have T6 := T5.trans S6
  refine growBs (ea.same T6) A6 ?_ fun p7 G7 S7 A7 => ?_
  · simp
  have T7 := T6.trans S7
  refine growBs (ea.same T7) A7 ?_ fun p8 G8 S8 A8 => ?_
  · simp
  have T8 := T7.trans S8
  refine growBs (ea.same T8) A8 ?_ fun p9 G9 S9 A9 => ?_
  · simp
  have T9 := T8.trans S9
  refine growBs (ea.same T9) A9 ?_ fun p10 G10 S10 A10 => ?_
  · simp
  have T10 := T9.trans S10
  have hJ : (([0, 1, 2, 3, 4] : List Nat) ++ ([5, 6, 7, 8, 9] : List Nat) ++ ([10, 11, 12, 13, 14] : List Nat) ++ ([15, 16, 17, 18, 19] : List Nat) ++ ([20, 21, 22, 23, 24] : List Nat) ++ ([25, 26, 27, 28, 29] : List Nat) ++ ([30, 31, 32, 33, 34] : List Nat) ++ ([35, 36, 37, 38, 39] : List Nat) ++ ([40, 41, 42, 43, 44] : List Nat) ++ ([45, 46, 47, 48] : List Nat) : List Nat) = List.range 49 := by decide +kernel
  rw [hJ] at A10
  obtain ⟨xs, hx1, hlen, hget⟩ : ∃ xs : List V, xs = (List.range 49).map (bb i) ∧ xs.length = 49 ∧ ∀ k, k < 49 → xs[k]? = some (bb i k) := ⟨_, rfl, by simp, fun k hk => by rw [List.getElem?_map, List.getElem?_range hk]; rfl⟩
  rw [← hx1] at A10
  clear hx1
  have hA := A10
  have TT := T10
  generalize G10 = G0 at hA TT
  refine ⟨_, rfl, p10, xs, rfl, .inl (.inl hA), fun D nD => ?_⟩
  refine lc_it (walk_enum (K := K) (a := p10) (xs := xs)) (fun k G => Same G0 G ∧ G D = some (.lst (if i < k then [V.int (i : Nat)] else []))) ⟨same_upd nD _, by rw [upd_same]; rfl⟩ (fun k G _ h => .inl (.inl (h.1 _ _ hA))) (fun k x G G' hk h y => ?_) (fun G h => ?_)
  · obtain ⟨T, x1, x2, rfl, nT, rfl, e1, e2⟩ := y
    obtain ⟨hS, hD⟩ := h
    have hk' : k < 49 := by omega
    cases e1
    have e3 : xs[k]? = some x2 := e2
    rw [hget k hk'] at e3
    cases e3
    refine ⟨T, _, rfl, .inl (.inl upd_same), rfl, _, _, rfl, _, _, rfl, rfl, rfl, ⟨_, rfl, decide (i = k), rfl, ?_⟩⟩
    have hS2 := hS.trans (same_upd nT (.tup [.int (k : Nat), bb i k]))
    have hD2 := same_upd nT (.tup [.int (k : Nat), bb i k]) _ _ hD
    by_cases e : i = k
    · subst e
      rw [decide_eq_true rfl]
      refine iteT ⟨_, rfl, _, hD2, ?_, fun b o z => ?_, ?_⟩
      · rw [if_neg (Nat.lt_irrefl _)]; decide
      · rw [upd_ne (ne_of_none z nD)]
        exact hS2 b o z
      · rw [upd_same, if_neg (Nat.lt_irrefl _), if_pos (Nat.lt_succ_self _)]; rfl
    · rw [decide_eq_false e]
      refine iteF ⟨hS2, ?_⟩
      rw [hD2]
      by_cases h1 : i < k
      · rw [if_pos h1, if_pos (Nat.lt_succ_of_lt h1)]
      · rw [if_neg h1, if_neg (by omega)]
  · exact q D G (TT.trans h.1) (by rw [h.2, if_pos (by omega)])
end
end K06
/-! repr of a list of one small thing; a law's run, where nothing is being shown. -/
namespace Xs
open PySem PySem.Spec PyProof.Rows L2
/-- small things, by what they are -/
inductive Show1 (H : Hp) : V → PyData → Prop
  | non : Show1 H .non .none
  | bl (b : Bool) : Show1 H (.bl b) (.bool b)
  | int (i : Int) : Show1 H (.int i) (.int i)
  | str (x : Str) : Show1 H (.str x) (.str x)
  | tup {t : Addr} {i j : Int} : H t = some (.tup [.int i, .int j]) → Show1 H (.ref t) (.tuple [.int i, .int j])
  | lst {l : Addr} {i : Int} : H l = some (.lst [.int i]) → Show1 H (.ref l) (.list [.int i])
  | dic {p : Addr} {x : Str} {i : Int} : H p = some (.dK [(.inr x, .int i)]) → Show1 H (.ref p) (.dict [(.str x, .int i)])
theorem Show1.same {H H' : Hp} {v : V} {d : PyData} (e : Same H H') (s : Show1 H v d) : Show1 H' v d := by
  cases s with
  | non => exact .non
  | bl b => exact .bl b
  | int i => exact .int i
  | str x => exact .str x
  | tup h => exact .tup (e _ _ h)
  | lst h => exact .lst (e _ _ h)
  | dic h => exact .dic (e _ _ h)
theorem Show1.reads {P : Program} {w : World} {H : Hp} {h : Heap} {v : V} {d : PyData} {u : Value} (hok : HOk P w H h) (s : Show1 H v d) (r : RelV v u) : ∃ as, Reads h u d as ∧ (d.hasDict = true → sysModules ∉ as) := by
  cases s with
  | non => cases r; exact ⟨_, .none, fun z => by cases z⟩
  | bl b => cases r; exact ⟨_, .bool b, fun z => by cases z⟩
  | int i => obtain ⟨t, rfl⟩ := r; exact ⟨_, .int i t, fun z => by cases z⟩
  | str x => obtain ⟨t, rfl⟩ := r; exact ⟨_, .str x t, fun z => by cases z⟩
  | @tup a i j e =>
    obtain rfl : u = Value.ref a := r
    obtain ⟨_, its, rv, o, h1, h2, n, h3⟩ := (show ObjOk P w H h a (.tup [.int i, .int j]) from hok a _ e)
    obtain ⟨u1, u2, rfl, ⟨t1, rfl⟩, ⟨t2, rfl⟩⟩ := vals2 rv
    exact ⟨_, .tuple h1 h2 h3 (.cons (.int i t1) (.cons (.int j t2) .nil)), fun z => by simp [PyData.hasDict, PyData.hasDictAll] at z⟩
  | @lst a i e =>
    obtain rfl : u = Value.ref a := r
    obtain ⟨_, its, n, rv, h1⟩ := (show ObjOk P w H h a (.lst [.int i]) from hok a _ e)
    cases rv with
    | cons r1 rr =>
      cases rr
      obtain ⟨t1, rfl⟩ := r1
      exact ⟨_, .list h1 rfl rfl (.cons (.int i t1) .nil), fun z => by simp [PyData.hasDict, PyData.hasDictAll] at z⟩
  | @dic a x i e =>
    obtain rfl : u = Value.ref a := r
    obtain ⟨_, hs, vs, kv, o, es, ep, h1, h2, h3, h4, h5, h6⟩ := (show ObjOk P w H h a (.dK [(.inr x, .int i)]) from hok a _ e)
    cases kv with
    | @cons _ q _ _ kr krr =>
      cases krr
      obtain ⟨k1, u1⟩ := q
      obtain ⟨e1, t1, e2⟩ := kr
      dsimp only at e1 e2
      subst e1 e2
      generalize hl : es.toList = l at h5
      cases h5 with
      | @cons en _ _ _ i1 i2 i3 =>
        cases i3
        obtain ⟨hh, ek, ev⟩ := en
        have i1' : keyIs (.inr x) ek = true := i1
        rcases keyIs_shape i1' with ⟨_, _, z, _⟩ | ⟨y, t2, z, rfl⟩
        · cases z
        · cases z
          have i2' : ev = .int i t1 := i2
          subst i2'
          refine ⟨_, .dict h1 h2.1 h3 (as := [] ++ []) (bs := [] ++ []) (kvs := [(.str x, .int i)]) (by rw [hl]; exact .cons (.str x t2) .nil) (by rw [hl]; exact .cons (.int i t1) .nil), fun _ hm => ?_⟩
          have z : sysModules = a := by simpa using hm
          rw [z] at hs
          simp at hs
/-- repr of a list of one small thing -/
def rRepr1 : List V → Hp → VK → Prop := fun xs H Q => ∃ (m : Addr) (v : V) (d : PyData), xs = [.ref m] ∧ H m = some (.lst [v]) ∧ Show1 H v d ∧ (PyData.list [d]).showable = true ∧ (PyData.list [d]).shown.length ≤ sizeLine ∧ Q (.str (PyData.list [d]).shown) H
theorem call_repr1 {X : Cx} (hg : X.A.guards = some []) (hu : X.A.units + 10 < cLine) : CallR X (.builtin "repr") rRepr1 := by
  intro pins s σ H xs us Q I r h
  obtain ⟨m, v, d, rfl, hm, sv, hs, hz, q⟩ := h
  cases r with
  | @cons _ u0 _ _ r0 rr =>
  cases rr
  obtain rfl : u0 = Value.ref m := r0
  obtain ⟨_, its, n, rv, h1⟩ := (show ObjOk X.prog X.w H s.heap m (.lst [v]) from I.hok m _ hm)
  cases rv with
  | @cons _ u _ _ r1 rr1 =>
  cases rr1
  obtain ⟨as, rd, hno⟩ := sv.reads I.hok r1
  have hdep : d.depth ≤ 3 := by
    cases sv <;> simp [PyData.depth, PyData.depthAll, PyData.depthKv]
  have rdA : ReadsAll s.heap [u] [d] (as ++ []) := .cons rd .nil
  have hs' : d.showable = true := by simpa [PyData.showable, PyData.showableAll] using hs
  have hz' : (listText (PyData.shownAll [d])).length ≤ sizeLine := by simpa only [PyData.shown] using hz
  obtain ⟨bs, hb, hk⟩ := ReprAllK.of_readsAll (prog := X.prog) (w := X.w) rdA (by simpa [PyData.showableAll] using hs') (fun hx hmm => hno (by simpa [PyData.hasDictAll] using hx) (by simpa using hmm)) (fun t ht => Nat.le_trans (listText_mem_le ht) hz')
  have hna : m ∉ bs := not_mem_of_deeper (.list h1 rfl rfl rdA) (by simp only [PyData.depth]; omega) hb
  refine call_repr_slot (T := "list") (idr := "list.__repr__") (by omega) ⟨_, h1, rfl⟩ F.slot_list_repr.toG ?_
  refine call_list_reprK h1 rfl rfl hna (by simpa using hk.length_eq) (fun i y e => hk.item i y (by simpa using e)) (show X.A.in1.guards = some [] from hg) (fun b _ => Clear.nil b) (show X.A.units + 1 + (PyData.depthAll [d] + 1) < cLine by simp only [PyData.depthAll]; omega) (fun _ _ e => e) (fun h' u' tk hk' => ⟨_, _, rfl, ?_⟩) hz'
  exact ⟨.str (PyData.list [d]).shown, H, I.kept (t' := tk) hk', ⟨_, rfl⟩, q⟩
end Xs
/-! A def that is called where nothing is being shown; a law's end for such a def. -/
namespace Xs
open PySem PySem.Spec PyProof.Rows L2
/-- the promise of the def at f, called where nothing is being shown -/
def RunG (P : Program) (w : World) (K : PySem.W.Frag) (mg : Str → Option Value) (base : Heap) (k : Nat) (f : Addr) (fd : FuncData) (ps : List Str) (sp : Sp) : Prop :=
  ∀ (A : Around) (out : List Env) (s : Shared) (H : Hp) (ar : Args) (us : List Value) (vs : List V) (Q : VK), A.guards = some [] → Room k A → Env0 P w K mg base A out s H → BindsTo s fd ar (ps.zip us) → Vals vs us → sp vs H Q E0 →
    codeAny (model P w) A (.call (.ref f) ar) (CR CX0 out P w H s Q E0) s
section
variable {P : Program} {w : World} {K : PySem.W.Frag} {mg : Str → Option Value} {base : Heap}
theorem okG {x qual : Str} {st : Stmt} {f : Addr} {fd : FuncData} {N ps : List Str} {k : Nat} {sp : Sp} (F : Fun K x qual st f fd) (S : FnScope N ps (defScope st)) (len : ∀ vs H Q E, sp vs H Q E → vs.length = ps.length)
    (hbody : ∀ (cdv : Value) (A : Around) (out : List Env) (s : Shared) (H : Hp) (vs : List V) (Q : VK), A.guards = some [] → Room k (A.deeper (envOfC qual (defScope st) s.heap.objs.size f cdv)) → sp vs H Q E0 →
      ∃ t, PSs (cxOf CX0 P w K mg base N qual (defScope st) f cdv A out s H E0).nox (defBody st) t ∧ t { nx := fun _ H' => Q .non H', rt := Q } (start N vs) H) : RunG P w K mg base (k + 1) f fd ps sp := by
  obtain ⟨oc, od, kV, doc, pm, an, cdv, ct, osl, rfl, lk, hcd⟩ := F.ex
  intro A out s H ar us vs Q hg hr en hb rl hsp
  have hlen := len _ _ _ _ hsp
  have KX : K.In s.heap := en.mod.kin.keeps fun b o z => (en.bs b o z).1
  have nol : s.heap.NoLimit := en.mod.nolimit.keeps fun b o z => (en.bs b o z).1
  refine codeAny_call_function hr.depth (KX _ _ lk) rfl S.co S.gen rfl (PySem.W.codeRec_of KX hcd) (hb _ _ _ _ ?_)
  refine wpAny_newFunctionEnv_cells S.kind (fun ⟨n, v⟩ hy => ?_) fun env he s1 ic => ?_
  · rcases S.par n (List.of_mem_zip hy).1 with z | z
    · exact .inl z
    · exact .inr ⟨z, PySem.W.cellsFrom_some _ _ _ (.inl z)⟩
  subst he
  refine ⟨nol.keeps ic.toInCall.keep, codeAny_func ?_⟩
  obtain ⟨t, ht, hq⟩ := hbody cdv A out s H vs Q hg (hr.deeper _) hsp
  have I : L2.Inv (cxOf CX0 P w K mg base N qual (defScope st) f cdv A out s H E0) [] (start N vs) H s1 := inv_start S hr.hd en hlen rl ic
  refine wpAny_mono (ht.nox.run [] s1 (start N vs) H _ I hq) (fun fl s2 h2 => ?_) fun e s2 h2 => h2
  cases fl with
  | next =>
    obtain ⟨σ', H', J, q⟩ := h2
    exact ⟨V.non, H', J.os, J.bare, J.base, J.hok, rfl, q⟩
  | ret u =>
    obtain ⟨v, σ', H', J, rv, q⟩ := h2
    exact ⟨v, H', J.os, J.bare, J.base, J.hok, rv, q⟩
  | brk => exact h2.elim fun _ z => z.elim fun _ z => False.elim z.2
  | cont => exact h2.elim fun _ z => z.elim fun _ z => False.elim z.2
end
/-- the call of the law's def at the heap behind the top -/
theorem law_callG {P : Program} {w : World} {K : PySem.W.Frag} {mg mb : Str → Option Value} {k : Nat} {fa a : Addr} {fd : FuncData} {x : Str} {sp : Sp} {s₁ : Shared} {vs : List Value} {ns : List Int}
    (KX : K.In s₁.heap) (hns : s₁.heap.Ns mainGlobals mg) (hb : s₁.heap.Ns builtinsNs mb) (hbb : ∀ x : Str, x ≠ "__name__" → mb x = bootBuiltins x) (hlim : s₁.heap.NoLimit) (hgen : s₁.gens = #[])
    (ha : s₁.heap.get? a = some { cls := .type "list", data := .seq vs.toArray }) (hi : IntsAre vs ns) (hl : ns.length ≤ sizeLine) (hr : Room k callerA)
    (F : ∀ base : Heap, K.In base → base.Ns mainGlobals mg → RunG P w K mg base k fa fd [x] sp) (hbind : ∀ (s : Shared) (u : Value), BindsTo s fd ⟨[u], []⟩ [(x, u)])
    (hsp : ∀ H : Hp, Only H → SqL K H a (ns.map V.int) → sp [.ref a] H (fun v _ => v = .bl true) E0) :
    codeAny (model P w) callerA (.call (.ref fa) ⟨[.ref a], []⟩) (fun r s' => r = .ok (.ret (.bool true)) ∧ OldK s₁.heap s'.heap ∧ s'.os = s₁.os ∧ AllBare s'.gens) s₁ := by
  have rel := vals_ints hi
  have hlv := hi.length
  -- over any abstract heap that tracks the script alone, or nothing
  have main : ∀ H : Hp, Only H → SqL K H a (ns.map V.int) → HOk P w H s₁.heap → (∀ b, H b ≠ none → b = a ∧ K.lookup a = none) →
      codeAny (model P w) callerA (.call (.ref fa) ⟨[.ref a], []⟩) (fun r s' => r = .ok (.ret (.bool true)) ∧ OldK s₁.heap s'.heap ∧ s'.os = s₁.os ∧ AllBare s'.gens) s₁ := by
    intro H only seq hok one
    have noD : ∀ {b : Addr} {o : Obj} {es : Array DictEntry} {ep : Nat}, s₁.heap.get? b = some o → o.data = .dict es ep → H b = none := fun {b o es ep} e d => by
      cases q : H b with
      | none => rfl
      | some u =>
        obtain ⟨rfl, _⟩ := one b (by rw [q]; simp)
        rw [ha] at e
        cases e
        have z : Data.seq vs.toArray _ = Data.dict es ep := d
        cases z
    have nsB : ∀ {b : Addr} {m : Str → Option Value}, s₁.heap.Ns b m → (hidT s₁.heap H).Ns b m := fun {b m} z => by
      obtain ⟨o, es, ep, e, d, r⟩ := z
      exact ⟨o, es, ep, hidT_get e (noD e d), d, r⟩
    have kin : K.In (hidT s₁.heap H) := fun b o e => hidT_get (KX b o e) (by
      cases q : H b with
      | none => rfl
      | some u =>
        obtain ⟨rfl, z⟩ := one b (by rw [q]; simp)
        rw [z] at e
        cases e)
    have modl : Mod K mg (hidT s₁.heap H) := by
      obtain ⟨mc, c1, c2⟩ := hlim
      exact ⟨kin, nsB hns, ⟨mb, nsB hb, hbb⟩, ⟨mc, nsB c1, c2⟩⟩
    have en : Env0 P w K mg (hidT s₁.heap H) callerA [] s₁ H := ⟨rfl, modl, fun b o e => of_hidT e, Nat.le_of_eq (hidT_size _ _), trivial, fun b z => absurd (show b ∈ ([] : List Addr) from z) (by simp), hok, .of_eq hgen⟩
    refine codeAny_mono (F _ kin (nsB hns) callerA [] s₁ H ⟨[.ref a], []⟩ [.ref a] [.ref a] _ rfl hr en (hbind s₁ (.ref a)) (.cons rfl .nil) (hsp H only seq)) fun r s' h => ?_
    cases r with
    | error e => exact False.elim h
    | ok fl =>
      cases fl with
      | ret u =>
        obtain ⟨v, H', os, bare, un, hok', rv, q⟩ := h
        obtain rfl : v = .bl true := q
        obtain rfl : u = Value.bool true := rv
        refine ⟨rfl, OldK.of_keep fun b o e => ?_, os, bare⟩
        rcases only b with z | ⟨ob, xs, z⟩
        · exact un.keep b o e z (fun y => absurd (show b ∈ ([] : List Addr) from y) (by simp)) (by simp)
        · obtain ⟨e1, _⟩ := hok b _ z
          obtain ⟨e2, _⟩ := hok' b _ (un.frzs b ob _ z)
          rw [e] at e1
          cases e1
          exact e2
      | next => exact False.elim h
      | brk => exact False.elim h
      | cont => exact False.elim h
  cases hk : K.lookup a with
  | some o =>
    have e := KX a o hk
    rw [ha] at e
    cases e
    exact main (fun _ => none) (fun _ => .inl rfl) (.inr ⟨_, vs.toArray, _, hk, rfl, rfl, rfl, by rw [List.size_toArray, hlv]; exact hl, by simpa using rel⟩) (fun b u z => by
      have z' : (none : Option HO) = some u := z
      cases z') (fun b z => absurd rfl z)
  | none =>
    have at_a : ∀ {b : Addr} {u : HO}, (if b = a then some (HO.frz { cls := .type "list", data := .seq vs.toArray } (.lst (ns.map V.int))) else none) = some u → b = a ∧ u = HO.frz { cls := .type "list", data := .seq vs.toArray } (.lst (ns.map V.int)) := fun {b u} z => by
      by_cases hb : b = a
      · rw [if_pos hb] at z
        exact ⟨hb, (Option.some.inj z).symm⟩
      · rw [if_neg hb] at z
        cases z
    refine main (fun b => if b = a then some (.frz { cls := .type "list", data := .seq vs.toArray } (.lst (ns.map V.int))) else none) (fun b => ?_) (.inl (.inr ⟨{ cls := .type "list", data := .seq vs.toArray }, if_pos rfl⟩)) (fun b u z => ?_) fun b z => ⟨?_, hk⟩
    · by_cases hb : b = a
      · exact .inr ⟨_, _, if_pos hb⟩
      · exact .inl (if_neg hb)
    · obtain ⟨rfl, rfl⟩ := at_a z
      exact ⟨ha, by rw [List.length_map]; exact hl, vs, _, rel, ha⟩
    · by_cases hb : b = a
      · exact hb
      · exact absurd (if_neg hb) z
theorem walk_ofG {l : PySem.W.OpenLaw} {n k : Nat} {q : Program} {loose : List Str} {XP : (Str → Option Value) → Heap → Prop} {YP : World → Heap → Prop} {d : DefRec} {x : Str}
    (hn : l.most = some n) (hn2 : n ≤ sizeLine) (hdf : d.params.defaults = []) (hr : Room k callerA)
    (F : ∀ (w : World) (mg : Str → Option Value) (fa : Addr) (h : Heap), YP w h → h.Ns mainGlobals mg → mg d.name = some (.ref fa) →
      ∃ (K : PySem.W.Frag) (fd : FuncData) (sp : Sp), K.In h ∧ (∀ (s : Shared) (u : Value), BindsTo s fd ⟨[u], []⟩ [(x, u)]) ∧
        (∀ (H : Hp) (a : Addr) (ns : List Int), ns.length ≤ n → Only H → SqL K H a (ns.map V.int) → sp [.ref a] H (fun v _ => v = .bl true) E0) ∧
        ∀ base : Heap, K.In base → base.Ns mainGlobals mg → RunG l.prog w K mg base k fa fd [x] sp) :
    PySem.W.WalkO q loose XP YP l.row.toRowW d [] (fun f vs => PySem.call f vs) := by
  refine Att.attach_call hn hdf fun w s₀ s₁ mg mb fa o pm cd doc a vs ns G Y ho hd hcd hmg hobj hints hlen hg => ?_
  obtain ⟨K, fd, sp, KX, hb, hs, hF⟩ := F w mg fa _ Y G.T.g hmg
  exact law_callG KX G.T.g G.T.b G.T.builtins G.T.nolimit hg hobj hints (Nat.le_trans hlen hn2) hr hF hb fun H only seq => hs H a ns hlen only seq
end Xs
namespace K06
open PySem PySem.Spec PyProof.Rows L2 NdefX Xs Dw
theorem norm {t : TS} {D : Ends} {σ σ' : L2.St} {H : Hp} (h : σ = σ') (g : t D σ' H) : t D σ H := h ▸ g
theorem normH {t : TS} {D : Ends} {σ : L2.St} {H H' : Hp} (h : H = H') (g : t D σ H') : t D σ H := h ▸ g
theorem pget {α β : Type} {R : α → β → Prop} : ∀ {xs : List α} {ys : List β} {i : Nat} {x : α}, Paired R xs ys → xs[i]? = some x → ∃ y, ys[i]? = some y ∧ R x y
  | _, _, _, _, .nil, e => by simp at e
  | _, _, 0, _, .cons r _, e => by simp at e; subst e; exact ⟨_, rfl, r⟩
  | _, _, i + 1, x, .cons _ t, e => by
    obtain ⟨y, h1, h2⟩ := pget (i := i) (x := x) t (by simpa using e)
    exact ⟨y, by simpa using h1, h2⟩
theorem TupE.same {l : Addr} {v : V} {H H' : Hp} {t C : Addr} (s : Same H H') (h : TupE l v H t C) : TupE l v H' t C := by
  obtain ⟨e, m, u, h1, h2, h3, h4, n⟩ := h
  exact ⟨e, m, u, s _ _ h1, h2.same s, s _ _ h3, s _ _ h4, n⟩
def idxs : List Nat := ([0, 1, 2, 3, 4, 5, 6, 7, 8, 9, 10, 11, 12, 13, 14, 15, 16, 17, 18, 19] : List Nat) ++ ([20, 21, 22, 23, 24, 25, 26, 28, 29, 30, 31, 32, 33, 34, 38, 40, 41, 42, 43, 45] : List Nat) ++ ([46, 48, 27, 35, 36, 37, 39, 44, 47] : List Nat)
theorem idxs_names : plainNames ++ toldNames = idxs.map nm := by decide +kernel
theorem idxs_lt : ∀ i ∈ idxs, i < 49 := by decide +kernel
theorem idxs_nodup : (idxs.map fun (i : Nat) => (i : Int)).Nodup := by decide +kernel
theorem idxs_len : idxs.length = 49 := by decide +kernel
theorem told_len : toldNames.length = 7 := by decide +kernel
theorem idxs_cl (K : PySem.W.Frag) : plainNames.map (ga K) ++ toldNames.map (ga K) = idxs.map (cl K) := by
  rw [← List.map_append, idxs_names, List.map_map]
  rfl
/-- what the law draws from, as it stands -/
def items (t l p : Addr) : List V := [.non, .int 0, .int (-7), .str "x", .str "", .ref t, .ref l, .ref p, .bl true, .int (10 ^ 20)]
theorem shown_of {H : Hp} {t l p : Addr} {v : V} {i : Nat} (ht : H t = some (.tup [.int 1, .int 2])) (hl : H l = some (.lst [.int 3])) (hp : H p = some (.dK [(.inr "a", .int 4)])) (h : (items t l p)[i]? = some v) :
    ∃ d, Show1 H v d ∧ (PyData.list [d]).showable = true ∧ (PyData.list [d]).shown.length ≤ sizeLine := by
  have hm := List.mem_of_getElem? h
  unfold items at hm
  simp only [List.mem_cons, List.mem_nil_iff, or_false] at hm
  rcases hm with rfl | rfl | rfl | rfl | rfl | rfl | rfl | rfl | rfl | rfl
  · exact ⟨_, .non, by decide +kernel, by decide +kernel⟩
  · exact ⟨_, .int 0, by decide +kernel, by decide +kernel⟩
  · exact ⟨_, .int (-7), by decide +kernel, by decide +kernel⟩
  · exact ⟨_, .str "x", by decide +kernel, by decide +kernel⟩
  · exact ⟨_, .str "", by decide +kernel, by decide +kernel⟩
  · exact ⟨_, .tup ht, by decide +kernel, by decide +kernel⟩
  · exact ⟨_, .lst hl, by decide +kernel, by decide +kernel⟩
  · exact ⟨_, .dic hp, by decide +kernel, by decide +kernel⟩
  · exact ⟨_, .bl true, by decide +kernel, by decide +kernel⟩
  · exact ⟨_, .int (10 ^ 20), by decide +kernel, by decide +kernel⟩
section
variable {P : Program} {w : World} {K : PySem.W.Frag} {mg : Str → Option Value} {base : Heap}
abbrev sLaw : Stmt := topS 59
theorem scLaw : FnScope ["script", "draw", "some", "one", "other", "told", "errors_here", "error", "classes", "mine", "due", "entry", "found"] ["script"] (defScope sLaw) := ⟨rfl, rfl, rfl, by decide +kernel, rfl, by decide +kernel, by decide +kernel⟩
def spLaw (K : PySem.W.Frag) : Sp := fun vs H Q _ => ∃ (a : Addr) (ns : List Int), vs = [.ref a] ∧ SqL K H a (ns.map V.int) ∧ ns.length ≤ 1000 ∧ ∀ H', Q (.bl true) H'
abbrev rLn (K : PySem.W.Frag) : List V → Hp → VK → Prop := fun xs H Q => ∃ (x : V) (n : Nat), xs = [x] ∧ LenV K x H n ∧ Q (.int n) H
/-- a def that the law calls -/
structure Cal (P : Program) (w : World) (K : PySem.W.Frag) (mg : Str → Option Value) (base : Heap) (k : Nat) (x : Str) (ps : List Str) (sp : Sp) (f : Addr) (fd : FuncData) : Prop where
  ok : FnOk P w K mg base CX0 k f fd ps sp
  b : Binds K fd ps []
  kp : PySem.W.keepIn K (.ref f) = true
  g : mg x = some (.ref f)
theorem ok_law {f f1 f2 f3 f4 f5 : Addr} {fd d1 d2 d3 d4 d5 : FuncData} {k : Nat} (F : Fun K "law" "law" sLaw f fd)
    (B : Cal P w K mg base k "_law_begun" ["script"] (spBegun K) f1 d1) (Pk : Cal P w K mg base k "_law_pick" ["draw", "some"] (spPick K) f2 d2) (T : Cal P w K mg base k "_law_told_errors" ["one", "other"] (spTold K) f3 d3)
    (E : Cal P w K mg base k "_law_plain_errors" [] (spPlain K) f4 d4) (C : Cal P w K mg base k "_law_classes" ["error"] (spClasses K) f5 d5) (Z : IsF K mg)
    (ml : mg "len" = none) (ms : mg "set" = none) (mr : mg "repr" = none) (mi : mg "isinstance" = none) (mv : mg "ValueError" = none)
    (mB : mg "BuildError" = some (.ref (ga K "BuildError"))) (kB : ∀ i, i < 49 → PySem.W.kitOne K (.ref (cl K i)) (.ref (ga K "BuildError")) = some true) (kV : ∀ i, i < 49 → PySem.W.kitOne K (.ref (cl K i)) (.type "ValueError") = some true) :
    RunG P w K mg base (k + 1) f fd ["script"] (spLaw K) := by
  refine okG F scLaw (fun vs H Q E h => ?_) (fun cdv A outer s H vs Q hg hr h => ?_)
  · obtain ⟨a, ns, rfl, _⟩ := h
    rfl
  have nd := scLaw.nd
  have hu := hu_of hr
  have hu' : A.units + 3 + 64 < cLine := by
    have := hr.un
    have z : (A.deeper (envOfC "law" (defScope sLaw) s.heap.objs.size f cdv)).units = A.units + 3 := rfl
    omega
  have hu2 : A.units + 3 + 10 < cLine := by omega
  have bi : bootBuiltins "isinstance" = some (.builtin "isinstance") := by decide +kernel
  have br : bootBuiltins "repr" = some (.builtin "repr") := by decide +kernel
  have bv : bootBuiltins "ValueError" = some (.type "ValueError") := by decide +kernel
  refine ⟨_, (pss_cons (ps_set (i := 1) nd rfl (Or.inl rfl) (pe_call B.ok hr rfl B.g B.kp B.b .nil pass0 (pa_cons (pv 0) pa_nil)))
    (pss_cons (ps_set (i := 2) nd rfl (Or.inl rfl) (pe_lst (pa_cons pe_non (pa_cons pe_int (pa_cons (pe_un un_neg pe_int) (pa_cons pe_str (pa_cons pe_str (pa_cons (pe_tup (pa_cons pe_int (pa_cons pe_int pa_nil))) (pa_cons (pe_lst (pa_cons pe_int pa_nil)) (pa_cons (pe_disp (pps_cons pe_str pe_int pps_nil) rfl rfl (fun z => by cases z) (by decide)) (pa_cons pe_bl (pa_cons (pe_op op_pow pe_int pe_int) pa_nil))))))))))))
    (pss_cons (ps_par (i := 3) (j := 4) rfl nd rfl rfl (by decide) rfl rfl (pa_cons (pe_call Pk.ok hr rfl Pk.g Pk.kp Pk.b .nil pass0 (pa_cons (pv 1) (pa_cons (pv 2) pa_nil))) (pa_cons (pe_call Pk.ok hr rfl Pk.g Pk.kp Pk.b .nil pass0 (pa_cons (pv 1) (pa_cons (pv 2) pa_nil))) pa_nil)) rfl)
    (pss_cons (ps_set (i := 5) nd rfl (Or.inl rfl) (pe_call T.ok hr rfl T.g T.kp T.b .nil pass0 (pa_cons (pv 3) (pa_cons (pv 4) pa_nil))))
    (pss_cons (ps_set (i := 6) nd rfl (Or.inl rfl) (pe_op op_cat (pe_call0 E.ok hr rfl E.g E.kp E.b .nil pass0) (pe_lc (own := [("entry", 11)]) (g := gName 11) (tt := tYes) (te := tOp (rIxT K) (tVar 11) (tC (.int 0))) rfl nd (pi_list (pv 5)) (blkOk_by (N := ["script", "draw", "some", "one", "other", "told", "errors_here", "error", "classes", "mine", "due", "entry", "found"]) (sc := defScope sLaw) (by decide +kernel)) (fun _ _ _ _ _ => pg_name (i := 11) nd rfl (Or.inl rfl)) (fun _ _ _ _ _ => pts_nil) (fun _ _ _ _ _ => pe_ix ix_tup (pv 11) pe_int (fun _ _ => rfl)))))
    (pss_cons (ps_setLc (i := 8) (own := [("error", 7)]) (g := gName 7) (tt := tYes) (te := tCall (spClasses K) [] E0 (tCons (tVar 7) tNil)) rfl nd rfl rfl (sw_true rfl rfl rfl (by decide +kernel)) (pi_list (pv 6)) (blkOk_by (N := ["script", "draw", "some", "one", "other", "told", "errors_here", "error", "classes", "mine", "due", "entry", "found"]) (sc := defScope sLaw) (by decide +kernel)) (fun _ _ _ _ _ => pg_name (i := 7) nd rfl (Or.inl rfl)) (fun _ _ _ _ _ => pts_nil) (fun _ _ _ _ _ => pe_call C.ok hr rfl C.g C.kp C.b .nil pass0 (pa_cons (pv 7) pa_nil)))
    (pss_cons (ps_if (PW.pt (pw_or (pt_cmpR (op_neD hu') (pe_lc (own := [("found", 12)]) (g := gName 12) (tt := tTest (tOp rNe (tCB (rLn K) (tCons (tVar 12) tNil)) (tC (.int 1)))) (te := tC (.int 1)) rfl nd (pi_list (pv 8)) (blkOk_by (N := ["script", "draw", "some", "one", "other", "told", "errors_here", "error", "classes", "mine", "due", "entry", "found"]) (sc := defScope sLaw) (by decide +kernel)) (fun _ _ _ _ _ => pg_name (i := 12) nd rfl (Or.inl rfl)) (fun _ _ _ _ _ => pts_one (pt_cmpR op_ne (pe_callB call_len rfl ml PySem.boot_len (pa_cons (pv 12) pa_nil)) pe_int (nomark _))) (fun _ _ _ _ _ => pe_int)) (pe_lst pa_nil) (nomark _)) (pw_or1 (pt_cmpR op_ne (pe_lenSetI rfl rfl ml rfl ms (pe_lc (own := [("found", 12)]) (g := gName 12) (tt := tYes) (te := tOp (rIxL K) (tVar 12) (tC (.int 0))) rfl nd (pi_list (pv 8)) (blkOk_by (N := ["script", "draw", "some", "one", "other", "told", "errors_here", "error", "classes", "mine", "due", "entry", "found"]) (sc := defScope sLaw) (by decide +kernel)) (fun _ _ _ _ _ => pg_name (i := 12) nd rfl (Or.inl rfl)) (fun _ _ _ _ _ => pts_nil) (fun _ _ _ _ _ => pe_ix ix_list (pv 12) pe_int (fun _ _ => rfl)))) (pe_callB call_len rfl ml PySem.boot_len (pa_cons (pv 6) pa_nil)) (nomark _))))) (pss_one (ps_ret pe_bl)) pss_nil)
    (pss_cons (ps_for PassesOwn.never rfl (pi_list (pv 5)) (pg_tup rfl (pgs_cons (pg_name (i := 7) nd rfl (Or.inl rfl)) (pgs_cons (pg_name (i := 9) nd rfl (Or.inl rfl)) (pgs_cons (pg_name (i := 10) nd rfl (Or.inl rfl)) pgs_nil)))) (pss_one (ps_if (pt_cmpR op_ne (pe_callB (call_repr1 hg hu2) rfl mr br (pa_cons (pv 9) pa_nil)) (pe_callB (call_repr1 hg hu2) rfl mr br (pa_cons (pv 10) pa_nil)) (nomark _)) (pss_one (ps_ret pe_bl)) pss_nil)))
    (pss_cons (ps_for PassesOwn.never rfl (pi_list (pv 6)) (pg_name (i := 7) nd rfl (Or.inl rfl)) (pss_one (ps_if (PW.pt (pw_or (pt_not (pt_val (pe_callB call_isE rfl mi bi (pa_cons (pv 7) (pa_cons (pe_glob (v := .ref (ga K "BuildError")) rfl mB rfl) pa_nil))))) (pw_or1 (pt_not (pt_val (pe_callB call_isE rfl mi bi (pa_cons (pv 7) (pa_cons (pe_bltn (v := .ty "ValueError") rfl mv bv rfl) pa_nil)))))))) (pss_one (ps_ret pe_bl)) pss_nil)))
    (pss_one (ps_ret pe_bl))))))))))), ?_⟩
  obtain ⟨a, ns, rfl, hS, hl, q⟩ := h
  -- the draws begun
  refine ⟨_, rfl, a, ns, rfl, hS, hl, fun H1 p0 aw ac s1 np0 naw nac D1 => ?_⟩
  try dsimp only [gName]
  refine norm (σ' := [some (.ref a), some (.ref p0), none, none, none, none, none, none, none, none, none, none, none]) rfl ?_
  -- what is drawn from
  refine ⟨7, rfl, by show 2 ≤ sizeLine; decide, fun t nt => ?_⟩
  have nta : t ≠ p0 := Ne.symm (ne_of_none D1.ob nt)
  have ntw : t ≠ aw := Ne.symm (ne_of_none D1.wi nt)
  have D2 := D1.new (o := .tup [.int 1, .int 2]) nt
  have t2 : upd H1 t (.tup [.int 1, .int 2]) t = some (.tup [.int 1, .int 2]) := upd_same
  generalize upd H1 t (.tup [.int 1, .int 2]) = G2 at D2 t2
  refine ⟨by show 1 ≤ sizeLine; decide, fun l nl => ?_⟩
  have nla : l ≠ p0 := Ne.symm (ne_of_none D2.ob nl)
  have nlw : l ≠ aw := Ne.symm (ne_of_none D2.wi nl)
  have D3 := D2.new (o := .lst [.int 3]) nl
  have t3 := same_upd nl (.lst [.int 3]) _ _ t2
  have l3 : upd G2 l (.lst [.int 3]) l = some (.lst [.int 3]) := upd_same
  generalize upd G2 l (.lst [.int 3]) = G3 at D3 t3 l3
  refine fun p np => ⟨upd_same, [(.inr "a", .int 4)], rfl, by decide, ?_⟩
  rw [upd_upd]
  have D4 := D3.new (o := .dK (mergeK [] [(.inr "a", .int 4)])) np
  have t4 := same_upd np (.dK (mergeK [] [(.inr "a", .int 4)])) _ _ t3
  have l4 := same_upd np (.dK (mergeK [] [(.inr "a", .int 4)])) _ _ l3
  have p4 : upd G3 p (.dK (mergeK [] [(.inr "a", .int 4)])) p = some (.dK [(.inr "a", .int 4)]) := upd_same
  have npa : p ≠ p0 := Ne.symm (ne_of_none D3.ob np)
  have npw : p ≠ aw := Ne.symm (ne_of_none D3.wi np)
  generalize upd G3 p (.dK (mergeK [] [(.inr "a", .int 4)])) = G4 at D4 t4 l4 p4
  refine ⟨_, _, rfl, rfl, ⟨by decide, by decide, by decide⟩, by show 10 ≤ sizeLine; decide, fun sl ns' => ?_⟩
  have D5 := D4.new (o := .lst (items t l p)) ns'
  have t5 := same_upd ns' (.lst (items t l p)) _ _ t4
  have l5 := same_upd ns' (.lst (items t l p)) _ _ l4
  have p5 := same_upd ns' (.lst (items t l p)) _ _ p4
  have s5 : upd G4 sl (.lst (items t l p)) sl = some (.lst (items t l p)) := upd_same
  have n1 : sl ≠ p0 := Ne.symm (ne_of_none D4.ob ns')
  have n2 : sl ≠ aw := Ne.symm (ne_of_none D4.wi ns')
  try dsimp only [gName]
  refine normH (H' := upd G4 sl (.lst (items t l p))) rfl ?_
  generalize upd G4 sl (.lst (items t l p)) = G5 at D5 t5 l5 p5 s5 ⊢
  try dsimp only [gName]
  refine norm (σ' := [some (.ref a), some (.ref p0), some (.ref sl), none, none, none, none, none, none, none, none, none, none]) rfl ?_
  -- two of them
  have o10 : (items t l p).length = 10 := rfl
  refine ⟨_, rfl, _, rfl, p0, aw, ac, sl, begun ns, items t l p, rfl, D5, by show (0 : Int) ≤ 0; decide, by show (0 : Int) < 2 ^ 47; decide, .inl (.inl (.inl s5)), n1, n2, (by intro z; cases z), (by rw [o10]; decide), fun G6 v1 o1 D6 e1 => ?_⟩
  have b1 := Dr.take_turn (begun ns) (items t l p).length
  have b0 : (begun ns).turn = 0 := rfl
  have nn : ∀ {b : Addr}, b ≠ p0 → b ≠ aw → b ∉ [p0, aw] := fun {b} z1 z2 z => by
    rcases List.mem_cons.mp z with z | z
    · exact z1 z
    · exact z2 (List.mem_singleton.mp z)
  refine ⟨_, rfl, _, rfl, p0, aw, ac, sl, _, items t l p, rfl, D6, by omega, by omega, .inl (.inl (.inl (o1 _ _ (nn n1 n2) s5))), n1, n2, (by intro z; cases z), (by rw [o10]; decide), fun G7 v2 o2 D7 e2 => ?_⟩
  have oo := o1.trans o2
  obtain ⟨d1, sh, sa, sz⟩ := shown_of (oo _ _ (nn nta ntw) t5) (oo _ _ (nn nla nlw) l5) (oo _ _ (nn npa npw) p5) e1
  clear D1 D2 D3 D4 D5 D6 D7 t2 t3 t4 t5 l3 l4 l5 p4 p5 s5 oo o1 o2 e1 e2 b1 b0
  refine ⟨v1, v2, rfl, ?_⟩
  try dsimp only [gName]
  refine norm (σ' := [some (.ref a), some (.ref p0), some (.ref sl), some v1, some v2, none, none, none, none, none, none, none, none]) rfl ?_
  -- the told errors
  refine ⟨_, rfl, _, rfl, v1, v2, rfl, fun tl ts G8 s8 A8 T8 => ?_⟩
  have sh8 := sh.same s8
  clear sh
  try dsimp only [gName]
  refine norm (σ' := [some (.ref a), some (.ref p0), some (.ref sl), some v1, some v2, some (.ref tl), none, none, none, none, none, none, none]) rfl ?_
  -- all errors
  refine ⟨rfl, fun pl as G9 s9 A9 E9 => ?_⟩
  have A8' := s9 _ _ A8
  have lts : ts.length = 7 := by rw [Paired.length T8, List.length_map, told_len]
  refine ⟨_, rfl, tl, rfl, ⟨_, .inl (.inl A8')⟩, fun D5 nD5 => ?_⟩
  refine lc_list (K := K) (a := tl) (xs := ts.map V.ref) (fun k G => Same G9 G ∧ ∃ es : List Addr, G D5 = some (.lst (es.map V.ref)) ∧ es.length = k ∧ Errs G9 es ((toldNames.map (ga K)).take k)) ⟨same_upd nD5 _, [], upd_same, rfl, .nil⟩ (fun k G _ h => .inl (.inl (h.1 _ _ A8'))) (fun k x G hx h => ?_) (fun G h => ?_)
  · obtain ⟨hS, es, hD, hlk, hE⟩ := h
    rw [List.getElem?_map] at hx
    obtain ⟨t0, ht0, rfl⟩ := Option.map_eq_some_iff.mp hx
    obtain ⟨C0, hC0, e0, m0, u0, x1, x2, x3, x4, _⟩ := pget T8 ht0
    have x1' := hS _ _ (s9 _ _ x1)
    refine ⟨rfl, ?_⟩
    unfold tYes
    dsimp only
    rw [if_pos rfl]
    refine ⟨_, rfl, t0, _, 0, .ref e0, rfl, rfl, .inl (.inl x1'), rfl, _, hD, ?_, fun b o z => ?_, es ++ [e0], ?_, ?_, ?_⟩
    · have : k < ts.length := (List.getElem?_eq_some_iff.mp ht0).1
      rw [List.length_map, sizeLine_eq]
      omega
    · rw [upd_ne (ne_of_none z nD5)]
      exact hS _ _ z
    · rw [upd_same, List.map_append]
      rfl
    · rw [List.length_append, hlk]
      rfl
    · rw [List.take_add_one, hC0]
      exact paired_app hE (.cons (x2.same s9) .nil)
  obtain ⟨hS, es, hD, hlk, hE⟩ := h
  rw [List.length_map] at hlk hE
  rw [List.take_of_length_le (by rw [List.length_map, told_len, lts]; exact Nat.le_refl _)] at hE
  have las : as.length = 42 := by rw [Paired.length E9, List.length_map]; rfl
  refine ⟨pl, D5, _, _, rfl, rfl, hS _ _ A9, hD, by rw [List.length_map, List.length_map, las, hlk, lts]; decide, fun el nel => ?_⟩
  rw [← List.map_append]
  have sE := hS.trans (same_upd nel (.lst ((as ++ es).map V.ref)))
  have EA : Errs (upd G el (.lst ((as ++ es).map V.ref))) (as ++ es) (idxs.map (cl K)) := by
    rw [← idxs_cl]
    exact paired_app (E9.same sE) (hE.same sE)
  have AE : upd G el (.lst ((as ++ es).map V.ref)) el = some (.lst ((as ++ es).map V.ref)) := upd_same
  have TT : Paired (TupE tl v1 (upd G el (.lst ((as ++ es).map V.ref)))) ts (toldNames.map (ga K)) := Paired.mapP T8 fun _ _ z => (z.same s9).same sE
  have AT := sE _ _ A8'
  have SH := (sh8.same s9).same sE
  have lal : (as ++ es).length = 49 := by rw [List.length_append, las, hlk, lts]
  generalize as ++ es = al at EA AE AT TT SH lal ⊢
  generalize upd G el (.lst (al.map V.ref)) = G10 at EA AE AT TT SH ⊢
  try dsimp only [gName]
  refine norm (σ' := [some (.ref a), some (.ref p0), some (.ref sl), some v1, some v2, some (.ref tl), some (.ref el), none, none, none, none, none, none]) rfl ?_
  -- their classes
  refine ⟨_, rfl, el, rfl, ⟨_, .inl (.inl AE)⟩, fun D6 nD6 => ?_⟩
  refine lc_list (K := K) (a := el) (xs := al.map V.ref) (fun k G => Same G10 G ∧ ∃ cs : List Addr, G D6 = some (.lst (cs.map V.ref)) ∧ cs.length = k ∧ Paired (fun (c : Addr) (i : Nat) => c ≠ D6 ∧ G c = some (.lst [.int i])) cs (idxs.take k)) ⟨same_upd nD6 _, [], upd_same, rfl, .nil⟩ (fun k G _ h => .inl (.inl (h.1 _ _ AE))) (fun k x G hx h => ?_) (fun G11 h => ?_)
  · obtain ⟨hS, cs, hD, hlk, hP⟩ := h
    rw [List.getElem?_map] at hx
    obtain ⟨e0, he0, rfl⟩ := Option.map_eq_some_iff.mp hx
    obtain ⟨C0, hC0, x1⟩ := pget EA he0
    rw [List.getElem?_map] at hC0
    obtain ⟨i0, hi0, rfl⟩ := Option.map_eq_some_iff.mp hC0
    have hi : i0 < 49 := idxs_lt _ (List.mem_of_getElem? hi0)
    have hk : k < 49 := by
      have := (List.getElem?_eq_some_iff.mp he0).1
      omega
    refine ⟨rfl, ?_⟩
    unfold tYes
    dsimp only
    rw [if_pos rfl]
    refine ⟨_, rfl, e0, i0, rfl, hi, x1.same hS, fun l' G' s' A' => ?_⟩
    have hD' := s' _ _ hD
    have ne : l' ≠ D6 := fun z => by
      rw [z, hD'] at A'
      have z2 := HO.lst.inj (Option.some.inj A')
      cases cs with
      | nil => cases z2
      | cons c r => cases z2
    refine ⟨_, hD', ?_, fun b o z => ?_, cs ++ [l'], ?_, ?_, ?_⟩
    · rw [List.length_map, sizeLine_eq]
      omega
    · rw [upd_ne (ne_of_none z nD6)]
      exact s' _ _ (hS _ _ z)
    · rw [upd_same, List.map_append]
      rfl
    · rw [List.length_append, hlk]
      rfl
    · rw [List.take_add_one, hi0]
      exact paired_app (Paired.mapP hP fun c i z => ⟨z.1, by rw [upd_ne z.1]; exact s' _ _ z.2⟩) (.cons ⟨ne, by rw [upd_ne ne]; exact A'⟩ .nil)
  obtain ⟨S11, cs, hD6, hlk, hP⟩ := h
  rw [List.length_map, lal] at hlk hP
  rw [List.take_of_length_le (by rw [idxs_len]; exact Nat.le_refl _)] at hP
  have PC : Paired (fun (c : Addr) (i : Nat) => G11 c = some (.lst [.int i])) cs idxs := Paired.mapP hP fun _ _ z => z.2
  clear hP
  try dsimp only [gName]
  refine norm (σ' := [some (.ref a), some (.ref p0), some (.ref sl), some v1, some v2, some (.ref tl), some (.ref el), none, some (.ref D6), none, none, none, none]) rfl ?_
  -- one class each, all different
  have key : ∀ {k : Nat} {x : V} {G : Hp}, Same G11 G → (cs.map V.ref)[k]? = some x → ∃ c i, x = .ref c ∧ idxs[k]? = some i ∧ G c = some (.lst [.int (i : Nat)]) := fun {k x G} hS hx => by
    rw [List.getElem?_map] at hx
    obtain ⟨c, hc, rfl⟩ := Option.map_eq_some_iff.mp hx
    obtain ⟨i, hi, x1⟩ := pget PC hc
    exact ⟨c, i, rfl, hi, hS _ _ x1⟩
  refine ⟨_, rfl, D6, rfl, ⟨_, .inl (.inl hD6)⟩, fun D7 nD7 => ?_⟩
  refine lc_list (K := K) (a := D6) (xs := cs.map V.ref) (fun k G => Same G11 G ∧ G D7 = some (.lst [])) ⟨same_upd nD7 _, upd_same⟩ (fun k G _ h => .inl (.inl (h.1 _ _ hD6))) (fun k x G hx h => ?_) (fun G12 h => ?_)
  · obtain ⟨c, i, rfl, _, x1⟩ := key h.1 hx
    refine ⟨rfl, _, rfl, _, 1, rfl, .inl ⟨_, .inl (.inl x1), rfl⟩, rfl, _, rfl, ?_⟩
    rw [show (!decide (V.int ((1 : Nat) : Int) = V.int 1)) = false from by decide]
    exact iteF h
  obtain ⟨S12, h7⟩ := h
  refine ⟨by show 0 ≤ sizeLine; exact Nat.zero_le _, fun l7 n7 => ⟨.list [], .list [], .lst (.inl (.inl (same_upd n7 _ _ _ h7))) .nil, .lst (.inl (.inl upd_same)) .nil, rfl, rfl, _, rfl, ?_⟩⟩
  rw [show (!PyData.eqv (.list []) (.list [])) = false from by decide +kernel]
  refine iteF ?_
  have S13 := S12.trans (same_upd n7 (.lst []))
  generalize upd G12 l7 (.lst []) = G13 at S13
  refine ⟨_, rfl, D6, rfl, ⟨_, .inl (.inl (S13 _ _ hD6))⟩, fun D8 nD8 => ?_⟩
  refine lc_list (K := K) (a := D6) (xs := cs.map V.ref) (fun k G => Same G13 G ∧ G D8 = some (.lst ((idxs.take k).map fun (i : Nat) => V.int i))) ⟨same_upd nD8 _, upd_same⟩ (fun k G _ h => .inl (.inl (h.1 _ _ (S13 _ _ hD6)))) (fun k x G hx h => ?_) (fun G14 h => ?_)
  · obtain ⟨c, i, rfl, hi, x1⟩ := key (S13.trans h.1) hx
    refine ⟨rfl, ?_⟩
    unfold tYes
    dsimp only
    rw [if_pos rfl]
    refine ⟨_, rfl, c, _, 0, .int i, rfl, rfl, .inl (.inl x1), rfl, _, h.2, ?_, fun b o z => ?_, ?_⟩
    · have : ((idxs.take k).map fun (i : Nat) => V.int i).length ≤ 49 := by
        rw [List.length_map, List.length_take, idxs_len]
        omega
      rw [sizeLine_eq]
      omega
    · rw [upd_ne (ne_of_none z nD8)]
      exact h.1 _ _ z
    · rw [upd_same, List.take_add_one, hi, List.map_append]
      rfl
  obtain ⟨S14, h8⟩ := h
  rw [List.length_map, hlk, List.take_of_length_le (by rw [idxs_len]; exact Nat.le_refl _)] at h8
  have SA := S11.trans (S13.trans S14)
  have AE14 := SA _ _ AE
  refine ⟨D8, idxs.map fun (i : Nat) => (i : Int), rfl, .inl (.inl (by rw [List.map_map]; exact h8)), by rw [List.length_map, idxs_len]; decide, idxs_nodup, _, rfl, _, 49, rfl, .inl ⟨_, .inl (.inl AE14), by rw [List.length_map, lal]⟩, rfl, _, rfl, ?_⟩
  rw [List.length_map, idxs_len, show (!decide (V.int ((49 : Nat) : Int) = V.int ((49 : Nat) : Int))) = false from by decide]
  refine iteF ?_
  have EA14 := EA.same SA
  have AT14 := SA _ _ AT
  have SH14 := SH.same SA
  have TT14 : Paired (TupE tl v1 G14) ts (toldNames.map (ga K)) := Paired.mapP TT fun _ _ z => z.same SA
  clear SA SH TT AT EA AE S11 S12 S13 S14 PC key
  -- what is kept is what was given
  refine ⟨_, rfl, tl, rfl, ⟨_, .inl (.inl AT14)⟩, ?_⟩
  refine for_list (K := K) (a := tl) (xs := ts.map V.ref) (fun k σ G => G = G14 ∧ ∃ y7 y9 y10, σ = [some (.ref a), some (.ref p0), some (.ref sl), some v1, some v2, some (.ref tl), some (.ref el), y7, some (.ref D6), y9, y10, none, none]) ⟨rfl, none, none, none, rfl⟩ (fun k σ G _ h => by obtain ⟨rfl, _⟩ := h; exact .inl (.inl AT14)) (fun k x σ G hx h => ?_) (fun σ G h => ?_)
  · obtain ⟨rfl, y7, y9, y10, rfl⟩ := h
    rw [List.getElem?_map] at hx
    obtain ⟨t0, ht0, rfl⟩ := Option.map_eq_some_iff.mp hx
    obtain ⟨C0, _, e0, m0, u0, x1, x2, x3, x4, _⟩ := pget TT14 ht0
    refine ⟨t0, _, rfl, .inl (.inl x1), rfl, _, _, rfl, _, _, rfl, _, _, rfl, rfl, ?_⟩
    refine ⟨_, rfl, m0, v1, d1, rfl, x3, SH14, sa, sz, _, rfl, u0, v1, d1, rfl, x4, SH14, sa, sz, rfl, _, rfl, ?_⟩
    rw [show (!decide (V.str (PyData.list [d1]).shown = V.str (PyData.list [d1]).shown)) = false from by rw [decide_eq_true rfl]; rfl]
    exact iteF ⟨rfl, _, _, _, rfl⟩
  obtain ⟨rfl, y7, y9, y10, rfl⟩ := h
  -- the bases
  refine ⟨_, rfl, el, rfl, ⟨_, .inl (.inl AE14)⟩, ?_⟩
  refine for_list (K := K) (a := el) (xs := al.map V.ref) (fun k σ G' => G' = G ∧ ∃ y7, σ = [some (.ref a), some (.ref p0), some (.ref sl), some v1, some v2, some (.ref tl), some (.ref el), y7, some (.ref D6), y9, y10, none, none]) ⟨rfl, y7, rfl⟩ (fun k σ G' _ h => by obtain ⟨rfl, _⟩ := h; exact .inl (.inl AE14)) (fun k x σ G' hx h => ?_) (fun σ G' h => ?_)
  · obtain ⟨rfl, y7, rfl⟩ := h
    rw [List.getElem?_map] at hx
    obtain ⟨e0, he0, rfl⟩ := Option.map_eq_some_iff.mp hx
    obtain ⟨C0, hC0, x1⟩ := pget EA14 he0
    rw [List.getElem?_map] at hC0
    obtain ⟨i0, hi0, rfl⟩ := Option.map_eq_some_iff.mp hC0
    have hi : i0 < 49 := idxs_lt _ (List.mem_of_getElem? hi0)
    refine ⟨_, rfl, e0, cl K i0, _, _, true, rfl, .own _, x1, Z.c i0 hi, kB i0 hi, _, rfl, iteF ?_⟩
    exact ⟨_, rfl, e0, cl K i0, _, _, true, rfl, .ty _, x1, Z.c i0 hi, kV i0 hi, _, rfl, iteF ⟨rfl, _, rfl⟩⟩
  exact q _
end
end K06
set_option maxHeartbeats 0
namespace Xh
open PySem PySem.Spec PyProof.Rows L2 NdefX Xs
theorem fun_of {K : PySem.W.Frag} {x q : Str} {st : Stmt} {f : Addr} {fd : FuncData} (F : FunD K x q (defArgs st) (defBody st) (defScope st) [] [] f fd) : Fun K x q st f fd := by
  obtain ⟨⟨oc, od, dV, kV, doc, pm, an, cdv, ct, osl, h1, h2, h3, h4, _⟩, kp⟩ := F
  rcases h4 with ⟨_, rfl⟩ | ⟨h4, _⟩
  · exact ⟨⟨oc, od, kV, doc, pm, an, cdv, ct, osl, h1, h2, h3⟩, kp⟩
  · exact absurd rfl h4
/-- the facts of a class of errors with a field, by looking -/
def oexB (K : PySem.W.Frag) (C : Addr) : Bool := (match K.lookup C with
  | some ⟨.type "type", _, .cls cd, sl⟩ => (match cd.mro, sl.toList with
    | .ref C' :: bm, [_, _, _, _, some (.builtin n), _] => decide (C' = C) && (decide (n = "ValueError.__new__") && (!cd.hasDel && (cd.hasDict && PySem.HandSPX.refsVE bm)))
    | _, _ => false)
  | _ => false) && (decide (PySem.W.findIn K (.ref C) "__setattr__" = some (some (.builtin "object.__setattr__"))) && (decide (PySem.W.subIn K (.ref C) (.type "BaseException") = some true) && (decide (PySem.W.typeIn K (.ref C) = some (.type "type")) && PySem.W.keepIn K (.ref C))))
theorem oexB_ok {K : PySem.W.Frag} {C : Addr} (h : oexB K C = true) : OexC K C := by
  unfold oexB at h
  obtain ⟨h1, h⟩ := He.ba h
  obtain ⟨h2, h⟩ := He.ba h
  obtain ⟨h3, h⟩ := He.ba h
  obtain ⟨h4, h5⟩ := He.ba h
  refine ⟨?_, of_decide_eq_true h2, of_decide_eq_true h3, of_decide_eq_true h4, h5⟩
  split at h1
  · rename_i dd cd sl hl
    split at h1
    · rename_i C' bm k0 k1 k2 k3 n k5 e1 e2
      simp only [Bool.and_eq_true, decide_eq_true_eq, Bool.not_eq_true'] at h1
      obtain ⟨rfl, rfl, h6, h7, h8⟩ := h1
      obtain ⟨nm, bs, mro, ns, qn, hd, sn, sb, ab, col, del⟩ := cd
      dsimp only at e1 h6 h7
      subst e1 h6 h7
      have e3 : sl = #[k0, k1, k2, k3, some (.builtin "ValueError.__new__"), k5] := by
        rw [← Array.toArray_toList (xs := sl), e2]
      subst e3
      exact ⟨nm, qn, ns, bs, bm, sn, sb, ab, col, dd, k0, k1, k2, k3, k5, hl, h8⟩
    · cases h1
  · cases h1
/-- its __init__ -/
abbrev fiA (K : PySem.W.Frag) (C : Addr) : Addr := He.ma K C "__init__"
abbrev FnI : Type := Option (Str × Str × Arguments × FuncBody × Scope × Addr × Addr)
def fnI (K : PySem.W.Frag) (C : Addr) : FnI := match K.lookup (fiA K C) with
  | some ⟨_, _, .func fd, _⟩ => some (fd.name, fd.qualname, fd.params, fd.body, fd.scope, fd.globals, fd.builtins)
  | _ => none
def fileV (file : Str) (vs : Array Value) : Bool := match (vs[2]? : Option Value) with
  | some (.str fl _) => file == fl
  | _ => false
def fileB (file : Str) (K : PySem.W.Frag) (c : Addr) : Bool := match K.lookup c with
  | some ⟨_, _, .fields vs, _⟩ => fileV file vs
  | _ => false
def cellB (K : PySem.W.Frag) (cc C : Addr) : Bool := match K.lookup cc with
  | some ⟨_, _, .cell (some (.ref D)), _⟩ => decide (D = C)
  | _ => false
def initB (file : Str) (K : PySem.W.Frag) (C : Addr) : Bool := (match K.lookup (fiA K C) with
  | some ⟨_, _, .func fd, _⟩ => (match fd.closure, fd.code, fd.defaults, fd.kwdefaults, fd.annotations with
    | [(nm, cc)], .ref c, .none, .none, none => decide (nm = "__class__") && (PySem.W.codeIn K (.ref c) fd.qualname && (fileB file K c && cellB K cc C))
    | _, _, _, _, _ => false)
  | _ => false)
def supB (file : Str) (K : PySem.W.Frag) (C : Addr) : Bool := oexB K C && (initB file K C && (decide (PySem.W.ks_superIn K C C "__init__" = some (some (.builtin "ValueError.__init__"))) && (decide (PySem.W.subIn K (.ref C) (.type "ValueError") = some true) && (decide (PySem.W.mroIn K C (.ref C) = some true) && (decide (PySem.W.nsIn K cStatics "thirdparty.any" = some none) &&
  (decide (PySem.W.findIn K (.ref C) "__init__" = some (some (.ref (fiA K C)))) && decide (PySem.W.typeIn K (.ref (fiA K C)) = some (.type "function"))))))))
theorem supB_ok {P : Program} {K : PySem.W.Frag} {C : Addr} {name qual : Str} {params : Arguments} {body : List Stmt} {scope : Scope} (h : supB P.main.file K C = true) (e : fnI K C = some (name, qual, params, .stmts body, scope, mainGlobals, builtinsNs)) :
    ∃ (cc c : Addr) (fd : FuncData), SupC P K C cc (fiA K C) ⟨name, qual, params, body, scope, [(("__class__" : Str), cc)], c⟩ ∧ (∃ (oc : Value) (od : Option Addr) (doc pm ctv : Value) (osl : Array (Option Value)), fd = NF.fd ⟨name, qual, params, body, scope, [(("__class__" : Str), cc)], c⟩ doc pm ctv ∧ K.lookup (fiA K C) = some ⟨oc, od, .func fd, osl⟩) ∧
      PySem.W.findIn K (.ref C) "__init__" = some (some (.ref (fiA K C))) ∧ PySem.W.typeIn K (.ref (fiA K C)) = some (.type "function") := by
  unfold supB at h
  obtain ⟨h0, h⟩ := He.ba h
  obtain ⟨h1, h⟩ := He.ba h
  obtain ⟨h2, h⟩ := He.ba h
  obtain ⟨h3, h⟩ := He.ba h
  obtain ⟨h4, h⟩ := He.ba h
  obtain ⟨h5, h⟩ := He.ba h
  obtain ⟨h6, h7⟩ := He.ba h
  unfold initB at h1
  unfold fnI at e
  cases q : K.lookup (fiA K C) with
  | none =>
    rw [q] at e
    cases e
  | some o =>
    obtain ⟨oc, od, dt, osl⟩ := o
    rw [q] at e h1
    cases dt with
    | func fd =>
      obtain ⟨n1, n2, n3, n4, n5, n6, n7, n8, n9, n10, n11, n12, n13, n14, n15⟩ := fd
      have e2 : (some (n1, n2, n3, n4, n5, n6, n15) : FnI) = some (name, qual, params, .stmts body, scope, mainGlobals, builtinsNs) := e
      simp only [Option.some.injEq, Prod.mk.injEq] at e2
      obtain ⟨r1, r2, r3, r4, r5, r6, r7⟩ := e2
      subst r1 r2 r3 r4 r5 r6 r7
      dsimp only at h1
      split at h1
      · rename_i _ _ _ _ _ nm cc c
        simp only [Bool.and_eq_true, decide_eq_true_eq] at h1
        obtain ⟨rfl, k1, k2, k3⟩ := h1
        unfold fileB at k2
        unfold cellB at k3
        split at k2
        · rename_i x1 x2 vs x3 hc
          unfold fileV at k2
          split at k2
          · rename_i fl tf hv
            split at k3
            · rename_i y1 y2 D y3 hd
              obtain rfl := of_decide_eq_true k3
              exact ⟨cc, c, _, ⟨oexB_ok h0, ⟨oc, od, n10, n11, n14, osl, q⟩, k1, ⟨x1, x2, vs, x3, fl, tf, hc, hv, k2⟩, ⟨y1, y2, y3, hd⟩, rfl, of_decide_eq_true h2, of_decide_eq_true h3, of_decide_eq_true h4, of_decide_eq_true h5⟩, ⟨oc, od, n10, n11, n14, osl, rfl, rfl⟩, of_decide_eq_true h6, of_decide_eq_true h7⟩
            · cases k3
          · cases k2
        · cases k2
      · cases h1
    | _ => cases e
/-! ### the Hook -/
abbrev AlI : Type := (Bool × List He.FnW) × List FnI
def yas (g : Addr → Option Obj) (n : Nat) : List Addr := cStatics :: He.asD g n
def obsI (fa : List He.Fa) (fn : List He.DefD) (ex : PySem.W.Frag → Bool) (cs : List Str) (K : PySem.W.Frag) : AlI := (((fa.all fun f => f.ok K) && ((fn.all fun d => d.ok K) && ex K), fn.map fun d => He.fnW K d.at_), cs.map fun x => fnI K (He.ga K x))
def obsIG (n : Nat) (fa : List He.Fa) (fn : List He.DefD) (ex : PySem.W.Frag → Bool) (cs : List Str) (g : Addr → Option Obj) : AlI := obsI fa fn ex cs (He.frG g (yas g n))
def valI (fn : List He.DefD) (vs : List FnI) : AlI := ((true, fn.map He.DefD.val), vs)
def hookI (n : Nat) (fa : List He.Fa) (fn : List He.DefD) (ex : PySem.W.Frag → Bool) (cs : List Str) (vs : List FnI) : PySem.W.Hook where
  α := AlI
  obs := fun s => obsIG n fa fn ex cs s.heap.get?
  val := fun _ => valI fn vs
  says := fun _ h => ∃ K : PySem.W.Frag, K.In h ∧ obsI fa fn ex cs K = valI fn vs
  of := fun _ _ e => ⟨_, He.frG_in, e⟩
  keeps := fun _ _ _ ⟨K, hK, c⟩ k => ⟨K, PySem.W.Frag.In.keeps hK k, c⟩
theorem obsIG_eq {n : Nat} {fa : List He.Fa} {fn : List He.DefD} {ex : PySem.W.Frag → Bool} {cs : List Str} {vs : List FnI} {g : Addr → Option Obj} {s : Shared} (h : ∀ a, g a = s.heap.get? a) : obsIG n fa fn ex cs g = (hookI n fa fn ex cs vs).obs s := by
  have z : g = s.heap.get? := funext h
  rw [z] <;> rfl
end Xh
namespace K06
open PySem PySem.Spec PyProof.Rows L2 NdefX Xs Xh
def hS (i : Nat) : Stmt := PySem.Challenge.pw_manybuilds_k06_errors_made_and_bases.main.body.getD i (.Pass ⟨0, 0, 0, 0⟩)
def hD (x : Str) (i : Nat) : He.DefD := ⟨(x, none), x, x, defArgs (hS i), defBody (hS i), defScope (hS i), [], []⟩
def hfn : List He.DefD := [hD "_law_begun" 52, hD "_law_mixed" 53, hD "_law_take" 54, hD "_law_pick" 55, hD "_law_plain_errors" 56, hD "_law_told_errors" 57, hD "_law_classes" 58, hD "law" 59]
def hfa : List He.Fa := [.glo "_law_begun", .glo "_law_mixed", .glo "_law_take", .glo "_law_pick", .glo "_law_plain_errors", .glo "_law_told_errors", .glo "_law_classes", .glo "law", .free "int", .free "abs", .free "len", .free "isinstance", .free "enumerate", .free "set", .free "repr", .free "super", .free "ValueError", .glo "BuildError", .glo "BadAct", .glo "BadChosen", .glo "BadCondition", .glo "BadCosts", .glo "BadCube", .glo "BadEdit", .glo "BadExpression", .glo "BadFork", .glo "BadForm", .glo "BadHouse", .glo "BadIndex", .glo "BadInterface", .glo "BadInterfaces", .glo "BadLine", .glo "BadLot", .glo "BadLots", .glo "BadMeasure", .glo "BadMost", .glo "BadMove", .glo "BadNames", .glo "BadNumber", .glo "BadNumbers", .glo "BadPart", .glo "BadParts", .glo "BadPatch", .glo "BadPath", .glo "BadRow", .glo "BadRows", .glo "BadSetting", .glo "BadStep", .glo "BadSwitch", .glo "BadTable", .glo "BadTerm", .glo "BadText", .glo "BadTold", .glo "Caught", .glo "Clash", .glo "Clashing", .glo "LastSwitch", .glo "Mixed", .glo "NotAlike", .glo "NotEnough", .glo "NotGiven", .glo "NotRight", .glo "NotTold", .glo "NothingDone", .glo "NothingUndone", .glo "TooMany", .glo "Unfit"]
def hplain : List Str := (["BadAct", "BadChosen", "BadCondition", "BadCosts", "BadCube", "BadEdit", "BadExpression", "BadFork", "BadForm", "BadHouse", "BadIndex", "BadInterface", "BadInterfaces", "BadLine", "BadLot", "BadLots", "BadMeasure", "BadMost", "BadMove", "BadNames"] : List Str) ++ (["BadNumber", "BadNumbers", "BadPart", "BadParts", "BadPatch", "BadPath", "BadRow", "BadSetting", "BadStep", "BadSwitch", "BadTable", "BadTerm", "BadText", "BadTold", "LastSwitch", "NotAlike", "NotEnough", "NotGiven", "NotRight", "NothingDone"] : List Str) ++ (["NothingUndone", "Unfit"] : List Str)
def htold : List Str := (["BadRows", "Caught", "Clash", "Clashing", "Mixed", "NotTold", "TooMany"] : List Str)
def hfld : List Str := (["at", "path", "path", "setting", "x", "setting", "most"] : List Str)
def hall : List Str := (["BadAct", "BadChosen", "BadCondition", "BadCosts", "BadCube", "BadEdit", "BadExpression", "BadFork", "BadForm", "BadHouse", "BadIndex", "BadInterface", "BadInterfaces", "BadLine", "BadLot", "BadLots", "BadMeasure", "BadMost", "BadMove", "BadNames"] : List Str) ++ (["BadNumber", "BadNumbers", "BadPart", "BadParts", "BadPatch", "BadPath", "BadRow", "BadRows", "BadSetting", "BadStep", "BadSwitch", "BadTable", "BadTerm", "BadText", "BadTold", "Caught", "Clash", "Clashing", "LastSwitch", "Mixed"] : List Str) ++ (["NotAlike", "NotEnough", "NotGiven", "NotRight", "NotTold", "NothingDone", "NothingUndone", "TooMany", "Unfit"] : List Str)
def hC (x : Str) (i : Nat) : FnI := some ("__init__", x, defArgs (inClass (hS i) 0), .stmts (defBody (inClass (hS i) 0)), defScope (inClass (hS i) 0), mainGlobals, builtinsNs)
def hvs : List FnI := [hC "BadRows.__init__" 29, hC "Caught.__init__" 37, hC "Clash.__init__" 38, hC "Clashing.__init__" 39, hC "Mixed.__init__" 41, hC "NotTold.__init__" 46, hC "TooMany.__init__" 49]
/-- the ways up of all classes; none of them twice -/
def wayB (K : PySem.W.Frag) (x : Str) : Bool := match PySem.W.clsIn K (He.ga K x) with
  | some cd => decide (cd.mro = [.ref (He.ga K x), .ref (He.ga K "BuildError"), .type "ValueError", .type "Exception", .type "BaseException", .type "object"])
  | none => false
def hex (K : PySem.W.Frag) : Bool := (hplain.all fun x => (He.Fa.exc x).ok K) && ((htold.all fun x => supB PySem.Challenge.pw_manybuilds_k06_errors_made_and_bases.main.file K (He.ga K x)) && (((htold.zip hfld).all fun q => decide (PySem.W.findIn K (.ref (He.ga K q.1)) q.2 = some none)) && ((hall.all fun x => (He.Fa.glo x).ok K && isB K (He.ga K x)) && ((hall.all fun x => wayB K x) && (decide ((hall.map (He.ga K)).Nodup) && ((hall.all fun x => decide (PySem.W.typeIn K (.ref (He.ga K x)) = some (.type "type")) && decide (He.ga K x ≠ He.ga K "BuildError")) && decide (PySem.W.typeIn K (.ref (He.ga K "BuildError")) = some (.type "type") ∧ (PySem.W.clsIn K (He.ga K "BuildError")).isSome = true)))))))
abbrev R : PySem.W.OpenRow := PySem.W.OpenLaw.row PySem.Challenge.rw_manybuilds_k06_errors_made_and_bases
abbrev hk : PySem.W.Hook := hookI 4 hfa hfn hex htold hvs
def hob (s : PySem.W.SharedT) : AlI := obsIG 4 hfa hfn hex htold (HandSHeadRun.getT s)
theorem hob_eq (s : PySem.W.SharedT) : hob s = hk.obs s.abs := obsIG_eq (HandSHeadRun.getT_eq s)
def hloose : List Str := (["__name__", "BuildError", "BadAct", "BadChosen", "BadCondition", "BadCosts", "BadCube", "BadEdit", "BadExpression", "BadFork", "BadForm", "BadHouse", "BadIndex", "BadInterface", "BadInterfaces", "BadLine", "BadLot", "BadLots", "BadMeasure", "BadMost", "BadMove", "BadNames", "BadNumber", "BadNumbers", "BadPart", "BadParts", "BadPatch", "BadPath", "BadRow", "BadRows"] : List Str) ++ (["BadSetting", "BadStep", "BadSwitch", "BadTable", "BadTerm", "BadText", "BadTold", "Caught", "Clash", "Clashing", "LastSwitch", "Mixed", "NotAlike", "NotEnough", "NotGiven", "NotRight", "NotTold", "NothingDone", "NothingUndone", "TooMany", "Unfit", "_law_begun", "_law_mixed", "_law_take", "_law_pick", "_law_plain_errors", "_law_told_errors", "_law_classes"] : List Str)
end K06
set_option maxHeartbeats 0
namespace K06
open PySem PySem.Spec PyProof.Rows L2 NdefX Xs Xh
theorem hrun (w : World) : HandSHeadRun.RunEq R (PySem.W.view R.prog [59]) hk hob 12000 hloose w := by
  intro os
  kernel_rfl
end K06
set_option maxHeartbeats 4000000
namespace K06
open PySem PySem.Spec PyProof.Rows L2 NdefX Xs Xh Dw
section
variable {P : Program} {w : World} {K : PySem.W.Frag} {mg : Str → Option Value} {base : Heap} {h : Heap}
theorem hall_names : ∀ j, j < 49 → nm j ∈ hall := by decide +kernel
theorem hall_at : ∀ j, j < 49 → hall[j]? = some (nm j) := by decide +kernel
theorem hplain_names : ∀ x, x ∈ plainNames → x ∈ hplain := by decide +kernel
/-- what the head says, taken apart -/
structure Says (K : PySem.W.Frag) : Prop where
  d : He.SaysD hfa hfn K
  pl : ∀ x ∈ hplain, (He.Fa.exc x).ok K = true
  su : ∀ x ∈ htold, supB PySem.Challenge.pw_manybuilds_k06_errors_made_and_bases.main.file K (He.ga K x) = true
  no : ∀ q ∈ htold.zip hfld, PySem.W.findIn K (.ref (He.ga K q.1)) q.2 = some none
  al : ∀ x ∈ hall, (He.Fa.glo x).ok K = true ∧ isB K (He.ga K x) = true
  wy : ∀ x ∈ hall, wayB K x = true
  nd : (hall.map (He.ga K)).Nodup
  ty : ∀ x ∈ hall, PySem.W.typeIn K (.ref (He.ga K x)) = some (.type "type") ∧ He.ga K x ≠ He.ga K "BuildError"
  bt : PySem.W.typeIn K (.ref (He.ga K "BuildError")) = some (.type "type") ∧ (PySem.W.clsIn K (He.ga K "BuildError")).isSome = true
  fi : htold.map (fun x => fnI K (He.ga K x)) = hvs
theorem says_of (c : obsI hfa hfn hex htold K = valI hfn hvs) : Says K := by
  have c1 : ((hfa.all fun f => f.ok K) && ((hfn.all fun d => d.ok K) && hex K)) = true := congrArg (fun z : AlI => z.1.1) c
  have c2 : hfn.map (fun d => He.fnW K d.at_) = hfn.map He.DefD.val := congrArg (fun z : AlI => z.1.2) c
  have c3 : htold.map (fun x => fnI K (He.ga K x)) = hvs := congrArg (fun z : AlI => z.2) c
  obtain ⟨a1, c1⟩ := He.ba c1
  obtain ⟨a2, c1⟩ := He.ba c1
  unfold hex at c1
  obtain ⟨b1, c1⟩ := He.ba c1
  obtain ⟨b2, c1⟩ := He.ba c1
  obtain ⟨b3, c1⟩ := He.ba c1
  obtain ⟨b4, c1⟩ := He.ba c1
  obtain ⟨b5, c1⟩ := He.ba c1
  obtain ⟨b6, c1⟩ := He.ba c1
  obtain ⟨b7, b8⟩ := He.ba c1
  refine ⟨?_, List.all_eq_true.mp b1, List.all_eq_true.mp b2, fun q hq => of_decide_eq_true (List.all_eq_true.mp b3 q hq), fun x hx => He.ba (List.all_eq_true.mp b4 x hx), List.all_eq_true.mp b5, of_decide_eq_true b6, fun x hx => ?_, of_decide_eq_true b8, c3⟩
  · show ((hfa.all fun f => f.ok K) && hfn.all fun d => d.ok K, hfn.map fun d => He.fnW K d.at_) = (true, hfn.map He.DefD.val)
    rw [c2, a1, a2]
    rfl
  · obtain ⟨z1, z2⟩ := He.ba (List.all_eq_true.mp b7 x hx)
    exact ⟨of_decide_eq_true z1, of_decide_eq_true z2⟩
theorem way_of {x : Str} (h : wayB K x = true) : ∃ cd, PySem.W.clsIn K (He.ga K x) = some cd ∧ cd.mro = [.ref (He.ga K x), .ref (He.ga K "BuildError"), .type "ValueError", .type "Exception", .type "BaseException", .type "object"] := by
  unfold wayB at h
  split at h
  · rename_i cd hc
    exact ⟨cd, hc, of_decide_eq_true h⟩
  · cases h
theorem mro_of {x : Str} (h : wayB K x = true) (b : Value) : PySem.W.mroIn K (He.ga K x) b = some ([Value.ref (He.ga K x), .ref (He.ga K "BuildError"), .type "ValueError", .type "Exception", .type "BaseException", .type "object"].contains b) := by
  obtain ⟨cd, hc, hm⟩ := way_of h
  unfold PySem.W.mroIn
  rw [hc, Option.bind_some, hm]
  rfl
theorem ref_ne {a b : Addr} (h : a ≠ b) : (Value.ref a == Value.ref b) = false := by
  refine Bool.eq_false_iff.mpr fun z => h ?_
  exact Value.ref.inj (beq_iff_eq.mp z)
theorem kit_ref {x : Str} {D : Addr} {b : Bool} (hne : He.ga K x ≠ D) (hc : (PySem.W.clsIn K D).isSome = true) (ht : PySem.W.typeIn K (.ref D) = some (.type "type")) (hm : PySem.W.mroIn K (He.ga K x) (.ref D) = some b) : PySem.W.kitOne K (.ref (He.ga K x)) (.ref D) = some b := by
  unfold PySem.W.kitOne
  rw [ref_ne hne, if_neg Bool.false_ne_true]
  show (if ((PySem.W.clsIn K D).isSome && PySem.W.typeIn K (.ref D) == some (.type "type")) = true then PySem.W.subIn K (.ref (He.ga K x)) (.ref D) else none) = some b
  rw [hc, ht]
  exact hm
theorem isF_of (S : Says K) (X : K.In h) (G : h.Ns mainGlobals mg) : IsF K mg where
  g := fun j hj => He.glo_ok X G (S.al _ (hall_names j hj)).1
  c := fun j hj => isB_ok (S.al _ (hall_names j hj)).2
  k := fun i j hi hj => by
    by_cases e : i = j
    · subst e
      unfold PySem.W.kitOne
      rw [if_pos (beq_self_eq_true _), decide_eq_true rfl]
    · have hne : He.ga K (nm i) ≠ He.ga K (nm j) := fun z => e (by
        have h1 : (hall.map (He.ga K))[i]? = some (He.ga K (nm i)) := by rw [List.getElem?_map, hall_at i hi]; rfl
        have h2 : (hall.map (He.ga K))[j]? = some (He.ga K (nm i)) := by rw [List.getElem?_map, hall_at j hj, z]; rfl
        obtain ⟨l1, e1⟩ := List.getElem?_eq_some_iff.mp h1
        obtain ⟨l2, e2⟩ := List.getElem?_eq_some_iff.mp h2
        exact (List.getElem_inj S.nd).mp (e1.trans e2.symm))
      obtain ⟨cd, hc, _⟩ := way_of (S.wy _ (hall_names j hj))
      have hT := S.ty _ (hall_names j hj)
      rw [decide_eq_false e]
      refine kit_ref hne (by rw [hc]; rfl) hT.1 ?_
      rw [mro_of (S.wy _ (hall_names i hi))]
      have n1 : (Value.ref (He.ga K (nm j)) == Value.ref (He.ga K (nm i))) = false := ref_ne (Ne.symm hne)
      have n2 : (Value.ref (He.ga K (nm j)) == Value.ref (He.ga K "BuildError")) = false := ref_ne hT.2
      rw [List.contains_cons, List.contains_cons, n1, n2]
      rfl
theorem kB_of (S : Says K) : ∀ i, i < 49 → PySem.W.kitOne K (.ref (cl K i)) (.ref (ga K "BuildError")) = some true := fun i hi => by
  refine kit_ref (S.ty _ (hall_names i hi)).2 S.bt.2 S.bt.1 ?_
  rw [mro_of (S.wy _ (hall_names i hi)), List.contains_cons, List.contains_cons, beq_self_eq_true, Bool.true_or, Bool.or_true]
theorem kV_of (S : Says K) : ∀ i, i < 49 → PySem.W.kitOne K (.ref (cl K i)) (.type "ValueError") = some true := fun i hi => by
  unfold PySem.W.kitOne
  rw [if_neg (by intro z; cases z)]
  show (if PySem.W.kitMeta "ValueError" = true then PySem.W.subIn K (.ref (cl K i)) (.type "ValueError") else none) = some true
  rw [if_pos (by decide +kernel)]
  show PySem.W.mroIn K (He.ga K (nm i)) (.type "ValueError") = some true
  rw [mro_of (S.wy _ (hall_names i hi))]
  rfl
theorem tl_0 (hP : P = PySem.Challenge.pw_manybuilds_k06_errors_made_and_bases) (S : Says K) (X : K.In h) (G : h.Ns mainGlobals mg) : ∃ (fI : Addr) (fd : FuncData), Tl P w K mg base 1 "BadRows" "at" (ga K "BadRows") fI fd := by
  subst hP
  have e : fnI K (He.ga K "BadRows") = hC "BadRows.__init__" 29 := by
    have z := congrArg (fun l : List FnI => l[0]?) S.fi
    exact Option.some.inj z
  obtain ⟨cc, c, fd, SC, hfd, hi, ht⟩ := supB_ok (S.su "BadRows" (by decide +kernel)) e
  have hno := S.no ("BadRows", "at") (by decide +kernel)
  have hsup : mg "super" = none := He.free_ok X G (S.d.facts (f := .free "super") (by simp [hfa]))
  have hb : Binds K fd ["self", "at"] [] := by
    obtain ⟨oc, od, doc, pm, ctv, osl, rfl, _⟩ := hfd
    exact .all fun us hl => match us, hl with | [_, _], _ => rfl
  have al := S.al "BadRows" (by decide +kernel)
  refine ⟨_, fd, He.glo_ok X G al.1, SC.T, hi, ht, ?_, hb, (isB_ok al.2).xf, hno⟩
  have zs : SupS PySem.Challenge.pw_manybuilds_k06_errors_made_and_bases (defScope (inClass (hS 29) 0)) ((defArgs (inClass (hS 29) 0)).args.headD ⟨"", none, default⟩) := ⟨by decide +kernel, by decide +kernel, by decide +kernel, by decide +kernel⟩
  have zn : NScope ["self", "at", "__class__"] ["self", "at"] ["__class__"] (defScope (inClass (hS 29) 0)) := nscope_by (by decide +kernel)
  exact ok_init (N := ["self", "at", "__class__"]) (ar := (defArgs (inClass (hS 29) 0)).args.headD ⟨"", none, default⟩) (plf := L2.plainOf (.Call (.Name "super" _) [] [] _)) SC zs ⟨zn, rfl, rfl, rfl, rfl⟩ hsup hno hfd rfl
    (fun X _ => pa_cons pe_str pa_nil) (fun σ H => ⟨rfl, by show 1 ≤ 1000; decide⟩) (fun L f => rfl) (fun env => rfl) (fun L f => rfl) (fun L f => rfl) (fun L f => rfl) (by decide) (by decide)
theorem tl_1 (hP : P = PySem.Challenge.pw_manybuilds_k06_errors_made_and_bases) (S : Says K) (X : K.In h) (G : h.Ns mainGlobals mg) : ∃ (fI : Addr) (fd : FuncData), Tl P w K mg base 1 "Caught" "path" (ga K "Caught") fI fd := by
  subst hP
  have e : fnI K (He.ga K "Caught") = hC "Caught.__init__" 37 := by
    have z := congrArg (fun l : List FnI => l[1]?) S.fi
    exact Option.some.inj z
  obtain ⟨cc, c, fd, SC, hfd, hi, ht⟩ := supB_ok (S.su "Caught" (by decide +kernel)) e
  have hno := S.no ("Caught", "path") (by decide +kernel)
  have hsup : mg "super" = none := He.free_ok X G (S.d.facts (f := .free "super") (by simp [hfa]))
  have hb : Binds K fd ["self", "path"] [] := by
    obtain ⟨oc, od, doc, pm, ctv, osl, rfl, _⟩ := hfd
    exact .all fun us hl => match us, hl with | [_, _], _ => rfl
  have al := S.al "Caught" (by decide +kernel)
  refine ⟨_, fd, He.glo_ok X G al.1, SC.T, hi, ht, ?_, hb, (isB_ok al.2).xf, hno⟩
  have zs : SupS PySem.Challenge.pw_manybuilds_k06_errors_made_and_bases (defScope (inClass (hS 37) 0)) ((defArgs (inClass (hS 37) 0)).args.headD ⟨"", none, default⟩) := ⟨by decide +kernel, by decide +kernel, by decide +kernel, by decide +kernel⟩
  have zn : NScope ["self", "path", "__class__"] ["self", "path"] ["__class__"] (defScope (inClass (hS 37) 0)) := nscope_by (by decide +kernel)
  exact ok_init (N := ["self", "path", "__class__"]) (ar := (defArgs (inClass (hS 37) 0)).args.headD ⟨"", none, default⟩) (plf := L2.plainOf (.Call (.Name "super" _) [] [] _)) SC zs ⟨zn, rfl, rfl, rfl, rfl⟩ hsup hno hfd rfl
    (fun X _ => pa_cons pe_str pa_nil) (fun σ H => ⟨rfl, by show 1 ≤ 1000; decide⟩) (fun L f => rfl) (fun env => rfl) (fun L f => rfl) (fun L f => rfl) (fun L f => rfl) (by decide) (by decide)
theorem tl_2 (hP : P = PySem.Challenge.pw_manybuilds_k06_errors_made_and_bases) (S : Says K) (X : K.In h) (G : h.Ns mainGlobals mg) : ∃ (fI : Addr) (fd : FuncData), Tl P w K mg base 1 "Clash" "path" (ga K "Clash") fI fd := by
  subst hP
  have e : fnI K (He.ga K "Clash") = hC "Clash.__init__" 38 := by
    have z := congrArg (fun l : List FnI => l[2]?) S.fi
    exact Option.some.inj z
  obtain ⟨cc, c, fd, SC, hfd, hi, ht⟩ := supB_ok (S.su "Clash" (by decide +kernel)) e
  have hno := S.no ("Clash", "path") (by decide +kernel)
  have hsup : mg "super" = none := He.free_ok X G (S.d.facts (f := .free "super") (by simp [hfa]))
  have hb : Binds K fd ["self", "path"] [] := by
    obtain ⟨oc, od, doc, pm, ctv, osl, rfl, _⟩ := hfd
    exact .all fun us hl => match us, hl with | [_, _], _ => rfl
  have al := S.al "Clash" (by decide +kernel)
  refine ⟨_, fd, He.glo_ok X G al.1, SC.T, hi, ht, ?_, hb, (isB_ok al.2).xf, hno⟩
  have zs : SupS PySem.Challenge.pw_manybuilds_k06_errors_made_and_bases (defScope (inClass (hS 38) 0)) ((defArgs (inClass (hS 38) 0)).args.headD ⟨"", none, default⟩) := ⟨by decide +kernel, by decide +kernel, by decide +kernel, by decide +kernel⟩
  have zn : NScope ["self", "path", "__class__"] ["self", "path"] ["__class__"] (defScope (inClass (hS 38) 0)) := nscope_by (by decide +kernel)
  exact ok_init (N := ["self", "path", "__class__"]) (ar := (defArgs (inClass (hS 38) 0)).args.headD ⟨"", none, default⟩) (plf := L2.plainOf (.Call (.Name "super" _) [] [] _)) SC zs ⟨zn, rfl, rfl, rfl, rfl⟩ hsup hno hfd rfl
    (fun X _ => pa_cons pe_str pa_nil) (fun σ H => ⟨rfl, by show 1 ≤ 1000; decide⟩) (fun L f => rfl) (fun env => rfl) (fun L f => rfl) (fun L f => rfl) (fun L f => rfl) (by decide) (by decide)
theorem tl_3 (hP : P = PySem.Challenge.pw_manybuilds_k06_errors_made_and_bases) (S : Says K) (X : K.In h) (G : h.Ns mainGlobals mg) : ∃ (fI : Addr) (fd : FuncData), Tl P w K mg base 1 "Clashing" "setting" (ga K "Clashing") fI fd := by
  subst hP
  have e : fnI K (He.ga K "Clashing") = hC "Clashing.__init__" 39 := by
    have z := congrArg (fun l : List FnI => l[3]?) S.fi
    exact Option.some.inj z
  obtain ⟨cc, c, fd, SC, hfd, hi, ht⟩ := supB_ok (S.su "Clashing" (by decide +kernel)) e
  have hno := S.no ("Clashing", "setting") (by decide +kernel)
  have hsup : mg "super" = none := He.free_ok X G (S.d.facts (f := .free "super") (by simp [hfa]))
  have hb : Binds K fd ["self", "setting"] [] := by
    obtain ⟨oc, od, doc, pm, ctv, osl, rfl, _⟩ := hfd
    exact .all fun us hl => match us, hl with | [_, _], _ => rfl
  have al := S.al "Clashing" (by decide +kernel)
  refine ⟨_, fd, He.glo_ok X G al.1, SC.T, hi, ht, ?_, hb, (isB_ok al.2).xf, hno⟩
  have zs : SupS PySem.Challenge.pw_manybuilds_k06_errors_made_and_bases (defScope (inClass (hS 39) 0)) ((defArgs (inClass (hS 39) 0)).args.headD ⟨"", none, default⟩) := ⟨by decide +kernel, by decide +kernel, by decide +kernel, by decide +kernel⟩
  have zn : NScope ["self", "setting", "__class__"] ["self", "setting"] ["__class__"] (defScope (inClass (hS 39) 0)) := nscope_by (by decide +kernel)
  exact ok_init (N := ["self", "setting", "__class__"]) (ar := (defArgs (inClass (hS 39) 0)).args.headD ⟨"", none, default⟩) (plf := L2.plainOf (.Call (.Name "super" _) [] [] _)) SC zs ⟨zn, rfl, rfl, rfl, rfl⟩ hsup hno hfd rfl
    (fun X _ => pa_cons pe_str pa_nil) (fun σ H => ⟨rfl, by show 1 ≤ 1000; decide⟩) (fun L f => rfl) (fun env => rfl) (fun L f => rfl) (fun L f => rfl) (fun L f => rfl) (by decide) (by decide)
theorem tl_4 (hP : P = PySem.Challenge.pw_manybuilds_k06_errors_made_and_bases) (S : Says K) (X : K.In h) (G : h.Ns mainGlobals mg) : ∃ (fI : Addr) (fd : FuncData), Tl P w K mg base 1 "Mixed" "x" (ga K "Mixed") fI fd := by
  subst hP
  have e : fnI K (He.ga K "Mixed") = hC "Mixed.__init__" 41 := by
    have z := congrArg (fun l : List FnI => l[4]?) S.fi
    exact Option.some.inj z
  obtain ⟨cc, c, fd, SC, hfd, hi, ht⟩ := supB_ok (S.su "Mixed" (by decide +kernel)) e
  have hno := S.no ("Mixed", "x") (by decide +kernel)
  have hsup : mg "super" = none := He.free_ok X G (S.d.facts (f := .free "super") (by simp [hfa]))
  have hb : Binds K fd ["self", "x"] [] := by
    obtain ⟨oc, od, doc, pm, ctv, osl, rfl, _⟩ := hfd
    exact .all fun us hl => match us, hl with | [_, _], _ => rfl
  have al := S.al "Mixed" (by decide +kernel)
  refine ⟨_, fd, He.glo_ok X G al.1, SC.T, hi, ht, ?_, hb, (isB_ok al.2).xf, hno⟩
  have zs : SupS PySem.Challenge.pw_manybuilds_k06_errors_made_and_bases (defScope (inClass (hS 41) 0)) ((defArgs (inClass (hS 41) 0)).args.headD ⟨"", none, default⟩) := ⟨by decide +kernel, by decide +kernel, by decide +kernel, by decide +kernel⟩
  have zn : NScope ["self", "x", "__class__"] ["self", "x"] ["__class__"] (defScope (inClass (hS 41) 0)) := nscope_by (by decide +kernel)
  exact ok_init (N := ["self", "x", "__class__"]) (ar := (defArgs (inClass (hS 41) 0)).args.headD ⟨"", none, default⟩) (plf := L2.plainOf (.Call (.Name "super" _) [] [] _)) SC zs ⟨zn, rfl, rfl, rfl, rfl⟩ hsup hno hfd rfl
    (fun X _ => pa_cons pe_str pa_nil) (fun σ H => ⟨rfl, by show 1 ≤ 1000; decide⟩) (fun L f => rfl) (fun env => rfl) (fun L f => rfl) (fun L f => rfl) (fun L f => rfl) (by decide) (by decide)
theorem tl_5 (hP : P = PySem.Challenge.pw_manybuilds_k06_errors_made_and_bases) (S : Says K) (X : K.In h) (G : h.Ns mainGlobals mg) : ∃ (fI : Addr) (fd : FuncData), Tl P w K mg base 1 "NotTold" "setting" (ga K "NotTold") fI fd := by
  subst hP
  have e : fnI K (He.ga K "NotTold") = hC "NotTold.__init__" 46 := by
    have z := congrArg (fun l : List FnI => l[5]?) S.fi
    exact Option.some.inj z
  obtain ⟨cc, c, fd, SC, hfd, hi, ht⟩ := supB_ok (S.su "NotTold" (by decide +kernel)) e
  have hno := S.no ("NotTold", "setting") (by decide +kernel)
  have hsup : mg "super" = none := He.free_ok X G (S.d.facts (f := .free "super") (by simp [hfa]))
  have hb : Binds K fd ["self", "setting"] [] := by
    obtain ⟨oc, od, doc, pm, ctv, osl, rfl, _⟩ := hfd
    exact .all fun us hl => match us, hl with | [_, _], _ => rfl
  have al := S.al "NotTold" (by decide +kernel)
  refine ⟨_, fd, He.glo_ok X G al.1, SC.T, hi, ht, ?_, hb, (isB_ok al.2).xf, hno⟩
  have zs : SupS PySem.Challenge.pw_manybuilds_k06_errors_made_and_bases (defScope (inClass (hS 46) 0)) ((defArgs (inClass (hS 46) 0)).args.headD ⟨"", none, default⟩) := ⟨by decide +kernel, by decide +kernel, by decide +kernel, by decide +kernel⟩
  have zn : NScope ["self", "setting", "__class__"] ["self", "setting"] ["__class__"] (defScope (inClass (hS 46) 0)) := nscope_by (by decide +kernel)
  exact ok_init (N := ["self", "setting", "__class__"]) (ar := (defArgs (inClass (hS 46) 0)).args.headD ⟨"", none, default⟩) (plf := L2.plainOf (.Call (.Name "super" _) [] [] _)) SC zs ⟨zn, rfl, rfl, rfl, rfl⟩ hsup hno hfd rfl
    (fun X _ => pa_cons pe_str pa_nil) (fun σ H => ⟨rfl, by show 1 ≤ 1000; decide⟩) (fun L f => rfl) (fun env => rfl) (fun L f => rfl) (fun L f => rfl) (fun L f => rfl) (by decide) (by decide)
theorem tl_6 (hP : P = PySem.Challenge.pw_manybuilds_k06_errors_made_and_bases) (S : Says K) (X : K.In h) (G : h.Ns mainGlobals mg) : ∃ (fI : Addr) (fd : FuncData), Tl P w K mg base 1 "TooMany" "most" (ga K "TooMany") fI fd := by
  subst hP
  have e : fnI K (He.ga K "TooMany") = hC "TooMany.__init__" 49 := by
    have z := congrArg (fun l : List FnI => l[6]?) S.fi
    exact Option.some.inj z
  obtain ⟨cc, c, fd, SC, hfd, hi, ht⟩ := supB_ok (S.su "TooMany" (by decide +kernel)) e
  have hno := S.no ("TooMany", "most") (by decide +kernel)
  have hsup : mg "super" = none := He.free_ok X G (S.d.facts (f := .free "super") (by simp [hfa]))
  have hb : Binds K fd ["self", "most"] [] := by
    obtain ⟨oc, od, doc, pm, ctv, osl, rfl, _⟩ := hfd
    exact .all fun us hl => match us, hl with | [_, _], _ => rfl
  have al := S.al "TooMany" (by decide +kernel)
  refine ⟨_, fd, He.glo_ok X G al.1, SC.T, hi, ht, ?_, hb, (isB_ok al.2).xf, hno⟩
  have zs : SupS PySem.Challenge.pw_manybuilds_k06_errors_made_and_bases (defScope (inClass (hS 49) 0)) ((defArgs (inClass (hS 49) 0)).args.headD ⟨"", none, default⟩) := ⟨by decide +kernel, by decide +kernel, by decide +kernel, by decide +kernel⟩
  have zn : NScope ["self", "most", "__class__"] ["self", "most"] ["__class__"] (defScope (inClass (hS 49) 0)) := nscope_by (by decide +kernel)
  exact ok_init (N := ["self", "most", "__class__"]) (ar := (defArgs (inClass (hS 49) 0)).args.headD ⟨"", none, default⟩) (plf := L2.plainOf (.Call (.Name "super" _) [] [] _)) SC zs ⟨zn, rfl, rfl, rfl, rfl⟩ hsup hno hfd rfl
    (fun X _ => pa_cons pe_str pa_nil) (fun σ H => ⟨rfl, by show 1 ≤ 1000; decide⟩) (fun L f => rfl) (fun env => rfl) (fun L f => rfl) (fun L f => rfl) (fun L f => rfl) (by decide) (by decide)
theorem facts {f : Addr} (hP : P = PySem.Challenge.pw_manybuilds_k06_errors_made_and_bases) (X : K.In h) (G : h.Ns mainGlobals mg) (hfa' : mg ("law" : Str) = some (.ref f)) (c : obsI hfa hfn hex htold K = valI hfn hvs) :
    ∃ fd : FuncData, (∀ (s : Shared) (v : Value), BindsTo s fd ⟨[v], []⟩ [("script", v)]) ∧ ∀ base : Heap, K.In base → base.Ns mainGlobals mg → RunG P w K mg base 4 f fd ["script"] (spLaw K) := by
  have S := says_of c
  have fr : ∀ x : Str, He.Fa.free x ∈ hfa → mg x = none := fun x hx => He.free_ok X G (S.d.facts hx)
  have gl : ∀ x : Str, He.Fa.glo x ∈ hfa → mg x = some (.ref (He.ga K x)) := fun x hx => He.glo_ok X G (S.d.facts hx)
  obtain ⟨dB, FB⟩ := S.d.def_ 0 (d := hD "_law_begun" 52) rfl
  obtain ⟨dM, FM⟩ := S.d.def_ 1 (d := hD "_law_mixed" 53) rfl
  obtain ⟨dK, FK⟩ := S.d.def_ 2 (d := hD "_law_take" 54) rfl
  obtain ⟨dP, FP⟩ := S.d.def_ 3 (d := hD "_law_pick" 55) rfl
  obtain ⟨dE, FE⟩ := S.d.def_ 4 (d := hD "_law_plain_errors" 56) rfl
  obtain ⟨dT, FT⟩ := S.d.def_ 5 (d := hD "_law_told_errors" 57) rfl
  obtain ⟨dC, FC⟩ := S.d.def_ 6 (d := hD "_law_classes" 58) rfl
  obtain ⟨dL, FL⟩ := S.d.def_ 7 (d := hD "law" 59) rfl
  have e := hfa'.symm.trans (gl "law" (by simp [hfa]))
  cases e
  have b := FunD.bindsA (ps := ["script"]) FL fun _ _ _ _ _ _ us hl => match us, hl with | [_], _ => rfl
  refine ⟨dL, fun s v => b s [v] rfl, fun base Xb Gb => ?_⟩
  have mi := fr "int" (by simp [hfa])
  have OM : FnOk P w K mg base CX0 1 _ dM ["draw"] spMixed := ok_mixed (fun_of (st := hS 53) FM) mi
  have bM : Binds K dM ["draw"] [] := FM.bindsN fun _ _ _ _ _ _ us hl => match us, hl with | [_], _ => rfl
  have OK : FnOk P w K mg base CX0 2 _ dK ["draw", "many"] spTake := ok_take (fun_of (st := hS 54) FK) OM bM FM.kp (gl "_law_mixed" (by simp [hfa])) mi
  have bK : Binds K dK ["draw", "many"] [] := FK.bindsN fun _ _ _ _ _ _ us hl => match us, hl with | [_, _], _ => rfl
  have OP : FnOk P w K mg base CX0 3 _ dP ["draw", "some"] (spPick K) := ok_pick (fun_of (st := hS 55) FP) OK bK FK.kp (gl "_law_take" (by simp [hfa])) (fr "len" (by simp [hfa]))
  have bP : Binds K dP ["draw", "some"] [] := FP.bindsN fun _ _ _ _ _ _ us hl => match us, hl with | [_, _], _ => rfl
  have OB : FnOk P w K mg base CX0 1 _ dB ["script"] (spBegun K) := ok_begun (fun_of (st := hS 52) FB) mi (fr "abs" (by simp [hfa]))
  have bB : Binds K dB ["script"] [] := FB.bindsN fun _ _ _ _ _ _ us hl => match us, hl with | [_], _ => rfl
  have OE : FnOk P w K mg base CX0 1 _ dE [] (spPlain K) := ok_plain (fun_of (st := hS 56) FE) fun x hx => by
    obtain ⟨q1, q2, q3, q4⟩ := He.exc_ok (S.pl x (hplain_names x hx))
    have hx' : x ∈ hall := by
      have z : ∀ y, y ∈ plainNames → y ∈ hall := by decide +kernel
      exact z x hx
    exact ⟨He.glo_ok X G (S.al x hx').1, q1, q2⟩
  have bE : Binds K dE [] [] := FE.bindsN fun _ _ _ _ _ _ us hl => match us, hl with | [], _ => rfl
  obtain ⟨i0, g0, T0⟩ := tl_0 (w := w) (base := base) hP S X G
  obtain ⟨i1, g1, T1⟩ := tl_1 (w := w) (base := base) hP S X G
  obtain ⟨i2, g2, T2⟩ := tl_2 (w := w) (base := base) hP S X G
  obtain ⟨i3, g3, T3⟩ := tl_3 (w := w) (base := base) hP S X G
  obtain ⟨i4, g4, T4⟩ := tl_4 (w := w) (base := base) hP S X G
  obtain ⟨i5, g5, T5⟩ := tl_5 (w := w) (base := base) hP S X G
  obtain ⟨i6, g6, T6⟩ := tl_6 (w := w) (base := base) hP S X G
  have OT : FnOk P w K mg base CX0 3 _ dT ["one", "other"] (spTold K) := ok_told (fun_of (st := hS 57) FT) T0 T1 T2 T3 T4 T5 T6
  have bT : Binds K dT ["one", "other"] [] := FT.bindsN fun _ _ _ _ _ _ us hl => match us, hl with | [_, _], _ => rfl
  have Z : IsF K mg := isF_of S X G
  have ii := fr "isinstance" (by simp [hfa])
  have OC : FnOk P w K mg base CX0 1 _ dC ["error"] (spClasses K) := ok_classes (fun_of (st := hS 58) FC) Z ii (fr "enumerate" (by simp [hfa]))
  have bC : Binds K dC ["error"] [] := FC.bindsN fun _ _ _ _ _ _ us hl => match us, hl with | [_], _ => rfl
  exact ok_law (k := 3) (fun_of (st := hS 59) FL) ⟨OB.mono (by decide), bB, FB.kp, gl "_law_begun" (by simp [hfa])⟩ ⟨OP, bP, FP.kp, gl "_law_pick" (by simp [hfa])⟩ ⟨OT, bT, FT.kp, gl "_law_told_errors" (by simp [hfa])⟩ ⟨OE.mono (by decide), bE, FE.kp, gl "_law_plain_errors" (by simp [hfa])⟩ ⟨OC.mono (by decide), bC, FC.kp, gl "_law_classes" (by simp [hfa])⟩ Z
    (fr "len" (by simp [hfa])) (fr "set" (by simp [hfa])) (fr "repr" (by simp [hfa])) ii (fr "ValueError" (by simp [hfa])) (gl "BuildError" (by simp [hfa])) (kB_of S) (kV_of S)
end
end K06
open PySem PySem.W PySem.Calls PyProof.Rows
theorem PySem.Challenge.cw_manybuilds_k06_errors_made_and_bases_holds : PySem.Challenge.rw_manybuilds_k06_errors_made_and_bases.Holds := by
  w_on; o_law
  refine HandSHeadRun.head_any (r := OpenLaw.row PySem.Challenge.rw_manybuilds_k06_errors_made_and_bases) (q := view (OpenLaw.row PySem.Challenge.rw_manybuilds_k06_errors_made_and_bases).prog [59]) (H := K06.hk) (ob := K06.hob) (M := 12000) (loose := K06.hloose) (d := HandSHeadRun.topDef (OpenLaw.row PySem.Challenge.rw_manybuilds_k06_errors_made_and_bases).prog 59) (kwd := []) K06.hob_eq
    (by kernel_rfl) (fun s => by kernel_rfl) K06.hrun (by kernel_rfl) (by kernel_rfl) (by kernel_rfl) (by rfl) (by first | assumption | decide +kernel) (by decide +kernel) ⟨rfl, rfl, rfl, rfl, rfl, by decide +kernel⟩ ?hw ?hc
  case hw => w_witness2
  case hc =>
    refine Xs.walk_ofG (l := PySem.Challenge.rw_manybuilds_k06_errors_made_and_bases) (n := 63) (k := 4) (x := "script") rfl (by decide) (by kernel_rfl) ⟨rfl, by decide, by decide⟩ ?F
    intro w mg fa h Y G hmg0
    obtain ⟨K, KX, c⟩ := Y
    have hmg : mg ("law" : PySem.Str) = some (.ref fa) := by
      have e : (HandSHeadRun.topDef (OpenLaw.row PySem.Challenge.rw_manybuilds_k06_errors_made_and_bases).prog 59).name = ("law" : PySem.Str) := by kernel_rfl
      rw [← e]
      exact hmg0
    obtain ⟨fd, hb, hF⟩ := K06.facts (P := (PySem.Challenge.rw_manybuilds_k06_errors_made_and_bases).prog) (w := w) rfl KX G hmg c
    exact ⟨K, fd, K06.spLaw K, KX, hb, fun H a ns hl _ hS => ⟨a, ns, rfl, hS, by omega, fun _ => rfl⟩, hF⟩
