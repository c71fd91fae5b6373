import PyProof.Rows.All
import Wide.All
import OpenK.AllK
import Wide.FinOn
import HandS.ForSpec
import HandS.TryMany
import HandS.ExcBuiltin
import KE.KExcSuper
import HandS.ForMost
import HandS.ForExc
import HandS.IsInst
import HandS.StrMore
import HandS.TupAny
import HandS.Style
import HandS.Evl
import HandS.Conv
import HandS.More
import HandS.SetFor
import HandS.Strs
import KE.DatumOrd
import HandS.ExcInit
import HandS.ExcField
import HandS.ExcIs
import KE.KExcIs
import HandS.TupMul
import PySem.Challenge.RW_wholewalks_k16_programs_judged
set_option Elab.async false
set_option linter.all false
set_option maxRecDepth 100000
set_option maxHeartbeats 4000000
set_option maxRecDepth 100000
set_option maxHeartbeats 4000000
/-! ### an own exception over ValueError whose __init__ takes nothing and says super().__init__() -/
namespace PySem
namespace NoX
open PySem.W PySem.Calls PyProof.Rows PySem.HandSPX
def nA (p : Pos) : Arguments := { posonlyargs := [], args := [{ arg := "self", annotation := none, pos := p }], vararg := none, kwonlyargs := [], kw_defaults := [], kwarg := none, defaults := [] }
def nB (q1 q2 q3 q4 q5 : Pos) : List Stmt := [.Expr (.Call (.Attribute (.Call (.Name "super" q1) [] [] q2) "__init__" q3) [] [] q4) q5]
def nS : Scope := { kind := .function, names := [(PySem.Str.ofString "self", .local), (PySem.Str.ofString "__class__", .free), (PySem.Str.ofString "super", .globalImplicit)], isGenerator := false, isCoroutine := false, more := [] }
/-- super().__init__() is a method's call (at its written places) -/
def SupEq (q1 q2 q3 q4 : Pos) : Prop := ∃ pl : Env → Sem Bool, ∀ env : Env, eval (.Call (.Attribute (.Call (.Name "super" q1) [] [] q2) "__init__" q3) [] [] q4) env = (do
      let ov ← attributeBase (.Call (.Name "super" q1) [] [] q2) "__init__" env (eval (.Call (.Name "super" q1) [] [] q2) env)
      standAt q3.atName
      let (f, first) ← holding [ov] (getMethod ov "__init__" (pl env))
      callWith q4 f first (backTo q4 (starEach [] env)) [])
structure NoTxt (P : Program) (K : Frag) (mg : Str → Option Value) (x : Str) (C : Addr) : Prop where
  gC : mg x = some (.ref C)
  cls : ∃ nm q N bs bm sn sub ab col dd k0 k1 k2 k3 k5, K.lookup C = some (excClassObj nm q C N bs bm true sn sub ab col dd k0 k1 k2 k3 k5 "ValueError.__new__") ∧ refsVE bm = true
  kC : keepIn K (.ref C) = true
  exC : subIn K (.ref C) (.type "BaseException") = some true
  tyC : typeIn K (.ref C) = some (.type "type")
  hm : ks_superIn K C C "__init__" = some (some (.builtin "ValueError.__init__"))
  veC : subIn K (.ref C) (.type "ValueError") = some true
  sub : mroIn K C (.ref C) = some true
  sup : mg "super" = none
  top : (P.main.scope.names.lookup ("super" : Str)).isSome = false
  any : nsIn K cStatics "thirdparty.any" = some none
  fn : ∃ (fI : Addr) (oc : Value) (od : Option Addr) (qn : Str) (kV doc pm : Value) (an : Option Addr) (cda : Addr) (ct : Value) (cc : Addr) (osl : Array (Option Value)) (p0 q1 q2 q3 q4 q5 : Pos),
    findIn K (.ref C) "__init__" = some (some (.ref fI)) ∧ typeIn K (.ref fI) = some (.type "function") ∧
    K.lookup fI = some ⟨oc, od, .func (ksFn "__init__" qn (nA p0) (nB q1 q2 q3 q4 q5) nS .none kV doc pm an (.ref cda) ct cc), osl⟩ ∧ codeIn K (.ref cda) qn = true ∧
    (∃ (ccl : Value) (cdd : Option Addr) (vs : Array Value) (ccs : Array (Option Value)) (file : Str) (tf : Tok), K.lookup cda = some ⟨ccl, cdd, .fields vs, ccs⟩ ∧ vs[2]? = some (.str file tf) ∧ ((P.main.file : Str) == file) = true) ∧
    (∃ (cl : Value) (cld : Option Addr) (csl : Array (Option Value)), K.lookup cc = some ⟨cl, cld, .cell (some (.ref C)), csl⟩) ∧ SupEq q1 q2 q3 q4
section
variable {prog : Program} {w : World} {M : Model} {A : Around} {E : Value → Shared → Prop} {h : Heap} {g : Array GenState} {d : Drawn} {t : Nat} {os : OsState}
variable {nm q : Str} {C N : Addr} {bs bm : List Value} {hdct : Bool} {sn : List Str} {sub : List Value} {ab : Bool} {col : Option Bool} {dd : Option Addr} {k0 k1 k2 k3 k5 : Option Value}
theorem call_bwV {u e t0 : Addr} {Q : Value → Shared → Prop}
    (hC : h.get? C = some (excClassObj nm q C N bs bm hdct sn sub ab col dd k0 k1 k2 k3 k5 "ValueError.__new__")) (he : h.get? e = some (excO C t0)) (hu : h.get? u = some (kxs_mw "ValueError.__init__" e))
    (hq : ∀ h' t1, (∀ b o, b ≠ e → h.get? b = some o → h'.get? b = some o) → h'.get? e = some (excO C t1) → Q .none ⟨h', g, d, t, os⟩) :
    wpAny (model prog w) A (call (.ref u) []) Q E ⟨h, g, d, t, os⟩ := by
  refine wpAny_call (codeAny_of_tree ?_)
  show wpAny _ A.in1 (callAny (.ref u) ⟨[], []⟩) _ _ _
  simp only [callAny]
  refine wpAny_bind (wpAny_load hu ?_)
  simp only [kxs_mw, show (Value.type "method-wrapper" == Value.type "method" || Value.type "method-wrapper" == Value.type "builtin_function_or_method" || Value.type "method-wrapper" == Value.type "method-wrapper") = true by decide, if_true]
  refine W.KFB.if_so (by decide) ?_
  refine wpAny_bind (check_bound_init F.excBase_ValueError.toExcCallFacts hC he rfl ?_)
  refine wpAny_bind (wpAny_pure (wpAny_pure ?_))
  refine ⟨Code.quiet_builtin _ (by decide +kernel), codeAny_builtin F.excBase_ValueError.initEntry ?_⟩
  rw [Around.under_plainId F.excBase_ValueError.init.plain _]
  wp_walk
  refine hq _ h.objs.size (fun b o hb ho => ?_) ?_
  · rw [Heap.get?_update_other _ _ (Ne.symm hb)]
    exact Heap.get?_push_of_some _ ho
  · rw [Heap.get?_update_self _ (Heap.get?_push_of_some _ he) rfl]
    rfl
end
section
variable {prog : Program} {w : World} {A : Around} {E : Value → Shared → Prop} {R : Result → Shared → Prop} {s : Shared} {K : Frag} {mg : Str → Option Value} {base : Heap} {x : Str} {C : Addr}
theorem no_init (T : NoTxt prog K mg x C) (hM : L2.Mod K mg base) (kb : ∀ b o, base.get? b = some o → s.heap.get? b = some o) {fI e t0 : Addr} (hi : findIn K (.ref C) "__init__" = some (some (.ref fI))) (hx : s.heap.get? e = some (excO C t0)) (hroom : A.depth < recursionLimit)
    (hq : ∀ h' tk t1, (∀ b o, b ≠ e → s.heap.get? b = some o → h'.get? b = some o) → h'.get? e = some (excO C t1) → R (.ok (.ret .none)) { s with heap := h', toks := tk }) :
    codeAny (model prog w) A (.call (.ref fI) ⟨[.ref e], []⟩) R s := by
  obtain ⟨nm, q, N, bs, bm, sn, sub, ab, col, dd, k0, k1, k2, k3, k5, hC, hbm⟩ := T.cls
  obtain ⟨fI', oc, od, qn, kV, doc, pm, an, cda, ct, cc, osl, p0, q1, q2, q3, q4, q5, hi', tI, lk, hcd, ⟨ccl, cdd, vs, ccs, file, tf, hcode, hvs, hfile⟩, ⟨cl, cld, csl, hcell⟩, pl, hpl⟩ := T.fn
  have e1 : fI' = fI := by
    rw [hi'] at hi
    injection hi with hi
    injection hi with hi
    injection hi
  subst e1
  have X : K.In s.heap := hM.kin.keeps kb
  have hcl : clsIn K C = some { name := nm, bases := bs, mro := .ref C :: bm, ns := N, qualname := q, hasDict := true, slotNames := sn, subclasses := sub, abstract := ab, collection := col, hasDel := false } := by unfold clsIn; rw [hC] <;> rfl
  refine ks_codeAny_call_defAt (fd := ksFn "__init__" qn (nA p0) (nB q1 q2 q3 q4 q5) nS .none kV doc pm an (.ref cda) ct cc) (body := nB q1 q2 q3 q4 q5) (binds := [("self", .ref e)]) hroom (X _ _ lk) rfl (hM.nolimit.keeps kb) (codeRec_of X hcd) rfl (BindsTo.of_eq rfl) (show ∀ x ∈ nS.names, x.2 ≠ .cell by decide) (locs rfl) (fun h₁ hns hk₁ => ?_) rfl rfl rfl
  have X₁ : K.In h₁ := X.keeps hk₁
  have kb₁ : ∀ b o, base.get? b = some o → h₁.get? b = some o := fun b o z => hk₁ b o (kb b o z)
  have hx₁ := hk₁ _ _ hx
  obtain ⟨oD, hD1, hD2⟩ : ∃ oD, h₁.get? C = some oD ∧ oD.data = .cls { name := nm, bases := bs, mro := .ref C :: bm, ns := N, qualname := q, hasDict := true, slotNames := sn, subclasses := sub, abstract := ab, collection := col, hasDel := false } := ⟨_, X₁ _ _ hC, rfl⟩
  obtain ⟨mb, hb1, hb2⟩ := hM.blt
  have I : InstAt h₁ e (excO C t0) C none := ⟨hx₁, rfl, rfl, trivial⟩
  refine ks_wpAt_execs_cons (ks_wpAt_Expr_any (ks_wpAt_MethodCall ?_ (hpl _)))
  refine ks_wpAt_super_base (env := callEnv (ksFn "__init__" qn (nA p0) (nB q1 q2 q3 q4 q5) nS .none kV doc pm an (.ref cda) ct cc) s.heap.objs.size fI') rfl rfl rfl rfl (X₁ _ _ lk) rfl rfl rfl (X₁ _ _ hcode) rfl hvs hfile T.top ?_
  refine ks_loadName_global rfl rfl (loadGlobal_builtin (hM.glob.keeps kb₁) T.sup (hb1.keeps kb₁) ((hb2 _ (by decide +kernel)).trans (by first | boot_by_name | rfl | kernel_rfl)) ⟨rfl, ?_⟩)
  refine wpAny_loadName_free rfl rfl rfl ⟨_, X₁ _ _ hcell, rfl⟩ ?_
  refine wpAny_loadName_local rfl rfl hns (v := .ref e) rfl ?_
  refine ks_wpAny_isType_cls hD1 hD2 ⟨rfl, ?_⟩
  refine ks_wpAny_call_super hD1 hD2 I.at_ I.cls (fun c z => ?_) (looks_mroIn X₁ T.sub) (fun h₂ e₂ k₂ => ?_)
  · have := I.no
    unfold notCls at this
    rw [z] at this
    exact Bool.noConfusion this
  have X₂ : K.In h₂ := X₁.keeps k₂
  have hx₂ := k₂ _ _ hx₁
  have I₂ : InstAt h₂ e (excO C t0) C none := ⟨hx₂, rfl, rfl, trivial⟩
  have hm := T.hm
  unfold ks_superIn at hm
  rw [hcl] at hm
  refine kxs_getMethod kxs_ValueError e₂ (looks_opaque X₂ T.any) (l₀ := .ref C :: bm) ?_ rfl X₂ hm (I₂.type.andThen (looks_subIn X₂ T.veC)) (ks_ne X₂ I₂ hcl) rfl ?_
  · exact fun A Q E s k q => wpAny_bind ((looks_clsIn X₂ hcl) A _ E s k (wpAny_pure q))
  have k₃ : ∀ b o, h₂.get? b = some o → (h₂.push (kxs_mw "ValueError.__init__" e)).get? b = some o := fun b o z => Heap.get?_push_of_some _ z
  refine kxs_callWith (i := "ValueError.__init__") (x := e) rfl (evalArgs_empty ⟨Heap.get?_push_at rfl rfl, ?_⟩)
  refine call_bwV (k₃ _ _ (X₂ _ _ hC)) (k₃ _ _ hx₂) (Heap.get?_push_at rfl rfl) fun h' t1 k' hx' => ?_
  refine wpAt_of_wpAny (wpAny_execs_nil ?_)
  exact hq h' _ t1 (fun b o hb z => k' b o hb (k₃ b o (k₂ b o (hk₁ b o z)))) hx'
end
end NoX
end PySem

set_option maxRecDepth 100000
set_option maxHeartbeats 4000000
namespace L2
open PySem PySem.Spec PyProof.Rows
section
variable {X : Cx} {x : Str} {C : Addr}
/-- X() of a class of NoX -/
theorem pmk_no {p pos : Pos} {k : Nat} (T : PySem.NoX.NoTxt X.prog X.K X.mg x C) (hr : Room k X.A) (hg : Gl X x := by rfl) (hd : (x == ("__debug__" : Str)) = false := by decide) :
    PMk X (.Call (.Name x p) [] [] pos) (fun _ H Q => Q (.ref C) none H) := by
  intro pins s σ H Q I h
  obtain ⟨nm, q, N, bs, bm, sn, sub, ab, col, dd, k0, k1, k2, k3, k5, hC, hbm⟩ := T.cls
  obtain ⟨fI, _, _, _, _, _, _, _, _, _, _, _, _, _, _, _, _, _, hi, tI, _⟩ := T.fn
  refine wpAny_Call_Name_kw (ld_glob I hg T.gC ?_ hd)
  refine PySem.W.callWith_K0 I.kIn T.kC ?_
  show wpAny _ _ (call (.ref C) []) _ _ _
  have kb := I.bk
  have X0 := I.kIn
  obtain ⟨hp, g, dr, tk, os⟩ := s
  have kk : ∀ b o, hp.get? b = some o → ((hp.push (PySem.W.kdv_tup [])).push (PySem.HandSPX.excO C hp.objs.size)).get? b = some o := fun b o e => Heap.get?_push_of_some _ (Heap.get?_push_of_some _ e)
  have hget : ((hp.push (PySem.W.kdv_tup [])).push (PySem.HandSPX.excO C hp.objs.size)).get? (hp.objs.size + 1) = some (PySem.HandSPX.excO C hp.objs.size) := by heap_get
  refine wpAny_call (PySem.HandSPX.call_own F.excBase_ValueError (fun Y => PySem.HandSPX.refsVE_contains Y bm hbm) (X0 _ _ hC) (PySem.W.looks_findIn X0 hi) (fun self => PySem.W.bind_fn X0 self tI) (Nat.zero_le _) ?_)
  refine PySem.NoX.no_init (s := ⟨(hp.push (PySem.W.kdv_tup [])).push (PySem.HandSPX.excO C hp.objs.size), g, dr, tk, os⟩) T I.ok.mod (fun b o z => kk b o (kb b o z)) hi hget ?_ fun h' tk' t1 k' hx => ⟨rfl, ?_⟩
  · have := hr.dp
    show X.A.depth + 1 < recursionLimit
    omega
  · obtain ⟨G', g1, g2⟩ := restrict h' fun b => decide (b ≠ hp.objs.size + 1)
    have gk : ∀ b, b ≠ hp.objs.size + 1 → G'.get? b = h'.get? b := fun b hb => g1 b (decide_eq_true hb)
    have ge : G'.get? (hp.objs.size + 1) = none := g2 _ (by simp)
    have old : ∀ b o, hp.get? b = some o → G'.get? b = some o := fun b o z => by
      have hb : b ≠ hp.objs.size + 1 := Nat.ne_of_lt (Nat.lt_succ_of_lt (Heap.lt_size z))
      exact (gk b hb).trans (k' b o hb (kk b o z))
    have J : Inv X pins σ H ⟨G', g, dr, tk', os⟩ := I.kept (t' := tk') old
    refine ⟨hp.objs.size + 1, _, _, ⟨G', g, dr, tk', os⟩, H, .ref C, none, rfl, J, fun b o z => ?_, ge, hx, ⟨rfl, rfl⟩, rfl, rfl, I.hok.fresh (Nat.le_succ _), rfl, I.bare, raises_own T.exC T.tyC, h⟩
    by_cases hb : b = hp.objs.size + 1
    · have z' : G'.get? b = some o := z
      rw [hb, ge] at z'; cases z'
    · exact (gk b hb).symm.trans z
/-- raise X() -/
theorem ps_no {W : WX} {p pos pos' : Pos} {k : Nat} (hc : X.calm = true) (tk : Takes X W) (T : PySem.NoX.NoTxt X.prog X.K X.mg x C) (hr : Room k X.A) (hg : Gl X x := by rfl) (hd : (x == ("__debug__" : Str)) = false := by decide) :
    PS X (.Raise (some (.Call (.Name x p) [] [] pos)) none pos') (fun _ σ H => W (.ref C) none σ H) := ps_raise hc tk (pmk_no T hr hg hd)
end

/-! ### defs, bundled -/
structure DefOk (P : Program) (w : World) (K : PySem.W.Frag) (mg : Str → Option Value) (base : Heap) (x : Str) (k : Nat) (ps : List Str) (sp : Sp) : Prop where
  ex : ∃ (f : Addr) (fd : FuncData), mg x = some (.ref f) ∧ PySem.W.keepIn K (.ref f) = true ∧ Binds K fd ps [] ∧ FnOk P w K mg base (L2.CX P w) k f fd ps sp
theorem pass0S {X : Cx} (σ : St) : PassesAt (L2.CX X.prog X.w) X σ E0 := fun _ _ _ _ _ _ h => by
  obtain ⟨_, _, _, _, _, _, _, _, _, _, _, _, z⟩ := h
  exact z.elim
def tD (sp : Sp) (t : TA) : TE := fun σ H Q => t σ H fun vs H1 => sp vs H1 Q E0
theorem pe_d {X : Cx} {x : Str} {k j : Nat} {ps : List Str} {sp : Sp} {e : Expr} {es : List Expr} {p pos : Pos} {ta : TA} (G : DefOk X.prog X.w X.K X.mg X.base x k ps sp) (hr : Room j X.A) (hg : Gl X x) (ha : PA X (e :: es) ta) (hj : k ≤ j := by decide)
    (hdb : (x == ("__debug__" : Str)) = false := by decide) (he : starEach (e :: es) X.env = (false, eval e X.env) :: starEach es X.env := by rfl) (hpl : (backTo pos (starEach es X.env)).any (·.1) = false := by rfl) :
    PE X (.Call (.Name x p) (e :: es) [] pos) (tD sp ta) := by
  obtain ⟨f, fd, hm, hk, hb, F⟩ := G.ex
  exact pe_callS F (hr.mono hj) hg hm hk hb (fun σ => pass0S σ) ha hdb he hpl
def tDX (sp : Sp) (W : WX) (t : TA) : TE := fun σ H Q => t σ H fun vs H1 => sp vs H1 Q fun cls d H2 => W cls d σ H2
theorem pe_dX {X : Cx} {x : Str} {k j : Nat} {ps : List Str} {sp : Sp} {e : Expr} {es : List Expr} {p pos : Pos} {ta : TA} {W : WX} (tk : Takes X W) (G : DefOk X.prog X.w X.K X.mg X.base x k ps sp) (hr : Room j X.A) (hg : Gl X x) (ha : PA X (e :: es) ta) (hj : k ≤ j := by decide)
    (hdb : (x == ("__debug__" : Str)) = false := by decide) (he : starEach (e :: es) X.env = (false, eval e X.env) :: starEach es X.env := by rfl) (hpl : (backTo pos (starEach es X.env)).any (·.1) = false := by rfl) :
    PE X (.Call (.Name x p) (e :: es) [] pos) (tDX sp W ta) := by
  obtain ⟨f, fd, hm, hk, hb, F⟩ := G.ex
  exact pe_callS F (hr.mono hj) hg hm hk hb (fun σ => passAt tk σ) ha hdb he hpl
/-- from what the head finds of a def -/
theorem defOk_of {P : Program} {w : World} {K : PySem.W.Frag} {mg : Str → Option Value} {base : Heap} {x : Str} {f : Addr} {fd : FuncData} {k : Nat} {ps : List Str} {sp : Sp} (g : mg x = some (.ref f)) (kp : PySem.W.keepIn K (.ref f) = true) (b : Binds K fd ps []) (F : FnOk P w K mg base (L2.CX P w) k f fd ps sp) : DefOk P w K mg base x k ps sp := ⟨f, fd, g, kp, b, F⟩

/-! ### what stays -/
/-- all that was tracked, but at p and g, is as it was -/
def Sb (p g : Addr) (H H' : Hp) : Prop := ∀ b o, H b = some o → b ≠ p → b ≠ g → H' b = some o
theorem Sb.refl {p g : Addr} (H : Hp) : Sb p g H H := fun _ _ h _ _ => h
theorem Sb.trans {p g : Addr} {H H1 H2 : Hp} (a : Sb p g H H1) (b : Sb p g H1 H2) : Sb p g H H2 := fun c o h h1 h2 => b c o (a c o h h1 h2) h1 h2
theorem Same.sb {p g : Addr} {H H' : Hp} (a : Same H H') : Sb p g H H' := fun b o h _ _ => a b o h
theorem Sb.new {p g : Addr} {H : Hp} {a : Addr} {o : HO} (h : H a = none) : Sb p g H (upd H a o) := fun b u e _ _ => by
  rw [upd_ne (ne_of_none e h)]
  exact e
/-- an address that was free ahead of all this may be written -/
theorem Sb.mut {p g : Addr} {H H' : Hp} {a : Addr} {o : HO} (e : Sb p g H H') (h : H a = none) : Sb p g H (upd H' a o) := fun b u z h1 h2 => by
  rw [upd_ne (ne_of_none z h)]
  exact e b u z h1 h2
theorem Same.new {H : Hp} {a : Addr} {o : HO} (h : H a = none) : Same H (upd H a o) := fun b u e => by
  rw [upd_ne (ne_of_none e h)]
  exact e
theorem Same.mut {H H' : Hp} {a : Addr} {o : HO} (e : Same H H') (h : H a = none) : Same H (upd H' a o) := fun b u z => by
  rw [upd_ne (ne_of_none z h)]
  exact e b u z
end L2

set_option maxRecDepth 100000
set_option maxHeartbeats 4000000
namespace L2
open PySem PySem.Spec PyProof.Rows
/-! ### what the laws draw from -/
def potL (g s : Addr) (t c : Int) : List V := [.ref g, .ref s, .int t, .int c]
structure PotAt (H : Hp) (p g s : Addr) : Prop where
  ex : ∃ (t c : Int) (gs ss : List Int), H p = some (.lst (potL g s t c)) ∧ H g = some (.lst (gs.map V.int)) ∧ H s = some (.lst (ss.map V.int)) ∧ ss ≠ [] ∧ p ≠ g ∧ p ≠ s ∧ g ≠ s ∧ ss.length ≤ 100
theorem PotAt.same {H H' : Hp} {p g s : Addr} (P : PotAt H p g s) (e1 : ∀ o, H p = some o → H' p = some o) (e2 : ∀ o, H g = some o → H' g = some o) (e3 : ∀ o, H s = some o → H' s = some o) : PotAt H' p g s := by
  obtain ⟨t, c, gs, ss, h1, h2, h3, r⟩ := P.ex
  exact ⟨t, c, gs, ss, e1 _ h1, e2 _ h2, e3 _ h3, r⟩
theorem PotAt.keep {H H' : Hp} {p g s : Addr} (P : PotAt H p g s) (e : Same H H') : PotAt H' p g s := P.same (fun _ h => e _ _ h) (fun _ h => e _ _ h) (fun _ h => e _ _ h)
/-- an object that is not the pot's may change -/
theorem PotAt.upd {H : Hp} {p g s a : Addr} {o : HO} (P : PotAt H p g s) (ha : H a = none) : PotAt (upd H a o) p g s := P.keep (Same.new ha)
theorem PotAt.put {H : Hp} {p g s a : Addr} {o : HO} (P : PotAt H p g s) (ha : p ≠ a ∧ g ≠ a ∧ s ≠ a) : PotAt (L2.upd H a o) p g s :=
  P.same (fun _ h => by rw [upd_ne ha.1]; exact h) (fun _ h => by rw [upd_ne ha.2.1]; exact h) (fun _ h => by rw [upd_ne ha.2.2]; exact h)
theorem PotAt.ne {H : Hp} {p g s a : Addr} (P : PotAt H p g s) (ha : H a = none) : p ≠ a ∧ g ≠ a ∧ s ≠ a := by
  obtain ⟨t, c, gs, ss, h1, h2, h3, r⟩ := P.ex
  exact ⟨ne_of_none h1 ha, ne_of_none h2 ha, ne_of_none h3 ha⟩
theorem PotAt.tup {H : Hp} {p g s a : Addr} {xs : List V} (P : PotAt H p g s) (ha : H a = some (.tup xs)) : a ≠ p ∧ a ≠ g := by
  obtain ⟨t, c, gs, ss, h1, h2, h3, r⟩ := P.ex
  exact ⟨ne_of ha h1 (by intro z; cases z), ne_of ha h2 (by intro z; cases z)⟩
theorem Sb.tup {H H' : Hp} {p g s a : Addr} {xs : List V} (e : Sb p g H H') (P : PotAt H p g s) (ha : H a = some (.tup xs)) : H' a = some (.tup xs) := e a _ ha (P.tup ha).1 (P.tup ha).2
/-- what was free behind is free ahead -/
theorem Sb.free {H H' : Hp} {p g s a : Addr} (e : Sb p g H H') (P' : PotAt H' p g s) (h : H' a = none) : H a = none := by
  cases q : H a with
  | none => rfl
  | some o =>
    have := e a o q (P'.ne h).1.symm (P'.ne h).2.1.symm
    rw [h] at this; cases this
theorem pot_set {g s : Addr} {t c t' : Int} : (potL g s t c).set 2 (.int t') = potL g s t' c := rfl
theorem fmod_lt {x m : Int} (h : 0 < m) : 0 ≤ x.fmod m ∧ x.fmod m < m := ⟨Int.fmod_nonneg_of_pos _ h, Int.fmod_lt_of_pos _ h⟩
theorem at_mod {α : Type} {xs : List α} (x : Int) (h : xs ≠ []) : ∃ v, atI xs (x.fmod xs.length) = some v ∧ v ∈ xs := by
  have hl : 0 < xs.length := List.length_pos_iff.mpr h
  obtain ⟨h0, h1⟩ := fmod_lt (x := x) (m := (xs.length : Int)) (by omega)
  obtain ⟨j, hj⟩ : ∃ j : Nat, x.fmod xs.length = (j : Int) := ⟨(x.fmod xs.length).toNat, by omega⟩
  have hj2 : j < xs.length := by omega
  refine ⟨xs[j], ?_, List.getElem_mem hj2⟩
  rw [hj]
  exact atI_nat (List.getElem?_eq_getElem hj2)
theorem at0 {α : Type} {v : α} {r : List α} : atI (v :: r) 0 = some v := atI_nat (xs := v :: r) (j := 0) rfl
theorem ixN0 {n : Nat} (h : 0 < n) : ixN n 0 = some 0 := by
  unfold ixN
  rw [if_pos (by decide), if_pos (by omega)]; rfl
theorem seqIx0 {n : Nat} (h : 0 < n) : seqIndex? 0 n = some 0 := (ixN_seq (ixN0 h)).1
theorem mem_int {ss : List Int} {v : V} (h : v ∈ ss.map V.int) : ∃ z, v = V.int z := by
  obtain ⟨z, _, e⟩ := List.mem_map.mp h
  exact ⟨z, e.symm⟩
/-- the pot is made of the script -/
def spPot (K : PySem.W.Frag) : Sp := fun vs H Q _ => ∃ (a : Addr) (ns : List Int), vs = [.ref a] ∧ SqL K H a (ns.map V.int) ∧ ns.length ≤ 63 ∧ ∀ p g s H', H p = none → H g = none → H s = none → PotAt H' p g s → Same H H' → Q (.ref p) H'
/-- a number is drawn -/
def spDraw : Sp := fun vs H Q _ => ∃ (p g s : Addr) (many : Int), vs = [.ref p, .int many] ∧ PotAt H p g s ∧ 0 < many ∧ many < 1073741824 ∧ ∀ r H', 0 ≤ r → r < many → PotAt H' p g s → Sb p g H H' → Q (.int r) H'
end L2

set_option maxRecDepth 100000
set_option maxHeartbeats 4000000
namespace L2
open PySem PySem.Spec PyProof.Rows
/-! ### strings stripped -/
theorem str_eq {a b : Str} : a = b ↔ a.cps.toList = b.cps.toList := by
  obtain ⟨a⟩ := a
  obtain ⟨b⟩ := b
  constructor
  · intro h; rw [h]
  · intro h
    have : a = b := Array.toList_inj.mp h
    rw [this]
theorem takeWhile_lt {α : Type} {p : α → Bool} : ∀ {l : List α}, l.all p = false → (l.takeWhile p).length < l.length
  | [], h => by simp at h
  | a :: r, h => by
    cases q : p a with
    | true =>
      rw [List.takeWhile_cons_of_pos q]
      have h' : r.all p = false := by simpa [q] using h
      have := takeWhile_lt h'
      simp only [List.length_cons]
      omega
    | false =>
      rw [List.takeWhile_cons_of_neg (by simp [q])]
      simp
theorem drop_not_all {α : Type} {p : α → Bool} : ∀ {l : List α}, l.all p = false → (l.drop (l.takeWhile p).length).all p = false
  | [], h => by simp at h
  | a :: r, h => by
    cases q : p a with
    | true =>
      rw [List.takeWhile_cons_of_pos q]
      have h' : r.all p = false := by simpa [q] using h
      simpa using drop_not_all h'
    | false =>
      rw [List.takeWhile_cons_of_neg (by simp [q])]
      simpa using h
theorem strip_empty (p : Nat → Bool) (x : Str) : Txt.stripBy p true true x = ("" : Str) ↔ x.cps.toList.all p = true := by
  have e0 : (("" : Str)).cps.toList = [] := by decide +kernel
  constructor
  · intro h
    cases q : x.cps.toList.all p with
    | true => rfl
    | false =>
      exfalso
      unfold Txt.stripBy at h
      have hlo := takeWhile_lt q
      have hd := drop_not_all q
      have hrev : ((x.cps.toList.drop (x.cps.toList.takeWhile p).length).reverse).all p = false := by rw [List.all_reverse]; exact hd
      have hk := takeWhile_lt hrev
      rw [List.length_reverse, List.length_drop] at hk
      split at h
      · rw [h, e0] at q
        simp at q
      · rw [str_eq, e0] at h
        have h2 := congrArg List.length h
        unfold PySem.stripped Builtin.Str.strSub PySem.stripHi PySem.stripLo at h2
        simp only [if_true, Array.toList_extract, List.extract_eq_drop_take, List.length_take, List.length_drop, List.length_nil, Str.length] at h2
        simp only [Array.length_toList] at *
        omega
  · intro h
    unfold Txt.stripBy
    have hlo : x.cps.toList.takeWhile p = x.cps.toList := by
      have key : ∀ l : List Nat, l.all p = true → l.takeWhile p = l := by
        intro l
        induction l with
        | nil => intro _; rfl
        | cons a r ih =>
          intro h
          simp only [List.all_cons, Bool.and_eq_true] at h
          rw [List.takeWhile_cons_of_pos h.1, ih h.2]
      exact key _ h
    split
    · rename_i hs
      unfold PySem.stripSame PySem.stripLo at hs
      simp only [if_true, hlo, Bool.and_eq_true, beq_iff_eq] at hs
      rw [str_eq, e0]
      exact List.length_eq_zero_iff.mp hs.1
    · rw [str_eq, e0]
      unfold PySem.stripped Builtin.Str.strSub PySem.stripHi PySem.stripLo
      simp only [if_true, hlo, Array.toList_extract, List.extract_eq_drop_take, Str.length]
      apply List.length_eq_zero_iff.mp
      simp only [List.length_take, List.length_drop, Array.length_toList]
      omega
end L2

set_option maxRecDepth 100000
set_option maxHeartbeats 4000000
namespace L2
open PySem PySem.Spec PyProof.Rows
/-! ### what kind a thing is -/
def TyIs (K : PySem.W.Frag) (H : Hp) (x : V) (s : String) (b : Bool) : Prop := ∃ t, TyX K H x (.type t) ∧ kitB t s = some b
section
variable {K : PySem.W.Frag} {H H' : Hp} {s : String} {b : Bool}
theorem tyis_non (h : kitB "NoneType" s = some b := by decide +kernel) : TyIs K H .non s b := ⟨_, .base .non, h⟩
theorem tyis_bl {c : Bool} (h : kitB "bool" s = some b := by decide +kernel) : TyIs K H (.bl c) s b := ⟨_, .base (.bl c), h⟩
theorem tyis_int {i : Int} (h : kitB "int" s = some b := by decide +kernel) : TyIs K H (.int i) s b := ⟨_, .base (.int i), h⟩
theorem tyis_str {x : Str} (h : kitB "str" s = some b := by decide +kernel) : TyIs K H (.str x) s b := ⟨_, .base (.str x), h⟩
theorem tyis_lst {a : Addr} {xs : List V} (e : H a = some (.lst xs)) (h : kitB "list" s = some b := by decide +kernel) : TyIs K H (.ref a) s b := ⟨_, .base (.lst e), h⟩
theorem tyis_tup {a : Addr} {xs : List V} (e : H a = some (.tup xs)) (h : kitB "tuple" s = some b := by decide +kernel) : TyIs K H (.ref a) s b := ⟨_, .base (.tup e), h⟩
theorem tyis_dK {a : Addr} {kvs : List (Key × V)} (e : H a = some (.dK kvs)) (h : kitB "dict" s = some b := by decide +kernel) : TyIs K H (.ref a) s b := ⟨_, .base (.dK e), h⟩
def IntIs (K : PySem.W.Frag) (H : Hp) (x : V) : Option Int → Prop
  | some i => x = .int i
  | none => ∃ b, TyIs K H x "int" b ∧ (b = true → TyIs K H x "bool" true)
def StrIs (K : PySem.W.Frag) (H : Hp) (x : V) : Option Str → Prop
  | some y => x = .str y ∧ y.length ≤ sizeLine
  | none => TyIs K H x "str" false
def TupIs (K : PySem.W.Frag) (H : Hp) (x : V) : Option (List V) → Prop
  | some xs => ∃ a, x = .ref a ∧ H a = some (.tup xs)
  | none => TyIs K H x "tuple" false
end
/-- letters of the first so many alone -/
def lettB (n : Int) (s : Str) : Bool := s.cps.toList.all fun c => decide (97 ≤ c ∧ (c : Int) < 97 + n)
def lettO (n : Int) : Option Str → Bool
  | some s => lettB n s
  | none => false
theorem cut_abc {n : Int} (h0 : 0 ≤ n) (h3 : n ≤ 3) (c : Nat) : (cutS ("abc" : Str) none (some n)).cps.contains c = decide (97 ≤ c ∧ (c : Int) < 97 + n) := by
  have q : n = 0 ∨ n = 1 ∨ n = 2 ∨ n = 3 := by omega
  rcases q with rfl | rfl | rfl | rfl
  · have e : cutS ("abc" : Str) none (some 0) = ⟨#[]⟩ := by decide +kernel
    rw [e]
    have : ¬ (97 ≤ c ∧ (c : Int) < 97 + 0) := by omega
    simp
    omega
  · have e : cutS ("abc" : Str) none (some 1) = ⟨#[97]⟩ := by decide +kernel
    rw [e]
    rw [Bool.eq_iff_iff]
    simp
    omega
  · have e : cutS ("abc" : Str) none (some 2) = ⟨#[97, 98]⟩ := by decide +kernel
    rw [e]
    rw [Bool.eq_iff_iff]
    simp
    omega
  · have e : cutS ("abc" : Str) none (some 3) = ⟨#[97, 98, 99]⟩ := by decide +kernel
    rw [e]
    rw [Bool.eq_iff_iff]
    simp
    omega
theorem strip_abc {n : Int} (h0 : 0 ≤ n) (h3 : n ≤ 3) (s : Str) : decide (V.str (Txt.stripChars s (cutS ("abc" : Str) none (some n))) = V.str "") = lettB n s := by
  unfold Txt.stripChars lettB
  rw [Bool.eq_iff_iff, decide_eq_true_iff]
  rw [show (V.str (Txt.stripBy (cutS ("abc" : Str) none (some n)).cps.contains true true s) = V.str "") ↔ Txt.stripBy (cutS ("abc" : Str) none (some n)).cps.contains true true s = "" from ⟨fun h => V.str.inj h, fun h => by rw [h]⟩]
  rw [strip_empty, List.all_eq_true, List.all_eq_true]
  constructor
  · intro h c hc
    rw [← cut_abc h0 h3]
    exact h c hc
  · intro h c hc
    rw [cut_abc h0 h3]
    exact h c hc
/-- a content's shape: b tells whether it is one of the first n letters -/
def ConIs (K : PySem.W.Frag) (H : Hp) (n : Int) (x : V) (b : Bool) : Prop :=
  ∃ o, TupIs K H x o ∧ match o with
    | none => b = false
    | some [y, z] => ∃ oy oz, StrIs K H y oy ∧ StrIs K H z oz ∧ b = (lettO n oy && lettO n oz)
    | some _ => b = false
/-! ### the sign at a place -/
def signS (h r : Str) (p : Int) : Str :=
  if p < (h.length : Int) then ⟨#[h.cps.toList.getD p.toNat 0]⟩ else if r.length = 0 then "end" else ⟨#[r.cps.toList.getD ((p - (h.length : Int)).fmod (r.length : Int)).toNat 0]⟩

/-! ### error classes by name in except clauses -/
theorem exm_by {K : PySem.W.Frag} {S : Value} {C : Addr} {b : Bool} (h1 : PySem.W.subIn K (.ref C) (.type "BaseException") = some true) (h2 : PySem.W.isClsIn K C = true) (h3 : PySem.W.typeIn K (.ref C) = some (.type "type")) (h4 : PySem.W.subIn K S (.ref C) = some b) :
    PySem.W.exmOne K S (.ref C) = some b := by
  have e1 : (PySem.W.subIn K (.ref C) (.type "BaseException") == some true) = true := by rw [h1] <;> rfl
  have e2 : ((PySem.W.clsIn K C).isSome && PySem.W.typeIn K (.ref C) == some (.type "type")) = true := by
    have h2' : (PySem.W.clsIn K C).isSome = true := h2
    rw [h2', h3] <;> rfl
  show (if (PySem.W.subIn K (.ref C) (.type "BaseException") == some true) = true then (if ((PySem.W.clsIn K C).isSome && PySem.W.typeIn K (.ref C) == some (.type "type")) = true then PySem.W.subIn K S (.ref C) else none) else none) = some b
  rw [if_pos e1, if_pos e2]
  exact h4
end L2

set_option maxRecDepth 100000
set_option maxHeartbeats 4000000
namespace L2
open PySem PySem.Spec PyProof.Rows
theorem decI {a b : Int} : decide (V.int a = V.int b) = decide (a = b) := by
  rw [dec_int, Bool.eq_iff_iff]
  simp
theorem decS {a b : Str} : decide (V.str a = V.str b) = decide (a = b) := by
  rw [dec_str, Bool.eq_iff_iff]
  simp
theorem getD_app {l r : List Nat} {i : Nat} (h : i < l.length) : (l ++ r).getD i 0 = l.getD i 0 := by
  rw [List.getD_eq_getElem?_getD, List.getD_eq_getElem?_getD, List.getElem?_append_left h]
theorem getD_app2 {l r : List Nat} {i : Nat} (h : l.length ≤ i) : (l ++ r).getD i 0 = r.getD (i - l.length) 0 := by
  rw [List.getD_eq_getElem?_getD, List.getD_eq_getElem?_getD, List.getElem?_append_right h]
theorem at_some {α : Type} {xs : List α} {i : Int} (h0 : 0 ≤ i) (h1 : i < (xs.length : Int)) : ∃ v, atI xs i = some v ∧ v ∈ xs := by
  obtain ⟨j, rfl⟩ : ∃ j : Nat, i = (j : Int) := ⟨i.toNat, by omega⟩
  have hj : j < xs.length := by omega
  exact ⟨xs[j], atI_nat (List.getElem?_eq_getElem hj), List.getElem_mem hj⟩
theorem at_getD {z : Str} {i : Int} (h0 : 0 ≤ i) (h1 : i < (z.length : Int)) : atI z.cps.toList i = some (z.cps.toList.getD i.toNat 0) := by
  obtain ⟨j, rfl⟩ : ∃ j : Nat, i = (j : Int) := ⟨i.toNat, by omega⟩
  have hl : z.length = z.cps.toList.length := by simp [Str.length]
  have hj : j < z.cps.toList.length := by omega
  refine atI_nat ?_
  rw [List.getElem?_eq_getElem hj, Int.toNat_natCast, List.getD_eq_getElem?_getD, List.getElem?_eq_getElem hj]
  rfl
theorem str_len (z : Str) : z.length = z.cps.toList.length := by simp [Str.length]
theorem str_empty {r : Str} : V.str r = V.str "" ↔ r.length = 0 := by
  have e0 : (("" : Str)).cps.toList = [] := by decide +kernel
  constructor
  · intro h
    have := V.str.inj h
    rw [str_len, this, e0]
    rfl
  · intro h
    rw [str_len] at h
    have : r = "" := str_eq.mpr (by rw [e0]; exact List.length_eq_zero_iff.mp h)
    rw [this]
section
variable {X : Cx}
/-- a text times a number -/
theorem op_mulS : OpR X (binaryOp .Mult) (fun x y H Q => ∃ (z : Str) (n : Int), x = .str z ∧ y = .int n ∧ MulOk z n ∧ Q (.str (Txt.mul z n)) H) := by
  intro pins s σ H x y v u Q I rx ry h
  obtain ⟨z, n, rfl, rfl, hz, q⟩ := h
  obtain ⟨t, rfl⟩ := rx
  obtain ⟨t', rfl⟩ := ry
  exact SB.mul hz fun t' k => ⟨.str _, H, I.tok _, ⟨_, rfl⟩, q⟩
end
theorem mulOk_small {z : Str} {n : Int} (h0 : 0 ≤ n) (h1 : n ≤ 1000) (hz : z.length ≤ 10000) : MulOk z n := by
  refine ⟨?_, fun h _ => ?_, fun h _ => ?_⟩
  · rw [Bool.or_eq_false_iff]
    exact ⟨decide_eq_false (by omega), decide_eq_false (by omega)⟩
  · have e : (2 ^ 63 - 1 : Int) = 9223372036854775807 := by decide
    rw [e]
    have hn : 0 < n := by omega
    have : (10000 : Int) ≤ 9223372036854775807 / n := (Int.le_ediv_iff_mul_le hn).mpr (by have : 10000 * n ≤ 10000 * 1000 := Int.mul_le_mul_of_nonneg_left h1 (by decide); omega)
    omega
  · have q : z.length * n.toNat ≤ 10000 * 1000 := Nat.mul_le_mul hz (by omega)
    unfold Builtin.Str.tooLong
    rw [decide_eq_false_iff_not, sizeLine_eq]
    omega
theorem tl_mul (z : Str) {n : Int} (h : 0 ≤ n) : (Txt.mul z n).cps.toList = (List.replicate n.toNat z.cps.toList).flatten := by
  have key : ∀ (k : Nat) (acc : Array Nat), ((List.replicate k z.cps).foldl (· ++ ·) acc).toList = acc.toList ++ (List.replicate k z.cps.toList).flatten := by
    intro k
    induction k with
    | zero => intro acc; simp
    | succ k ih =>
      intro acc
      rw [List.replicate_succ, List.foldl_cons, ih, List.replicate_succ, List.flatten_cons, Array.toList_append, List.append_assoc]
  unfold Txt.mul
  split
  · have : n.toNat = 0 := by omega
    rw [this]; rfl
  split
  · rename_i h1 h2
    rw [Bool.or_eq_true] at h2
    rcases h2 with h2 | h2
    · have : n = 1 := by simpa using h2
      subst this
      simp
    · have : z.length = 0 := by simpa using h2
      rw [str_len] at this
      have e := List.length_eq_zero_iff.mp this
      rw [e]
      simp
  · rw [key]; simp
/-- an item of a list again and again -/
theorem get_rep {l : List Nat} (hl : 0 < l.length) : ∀ (k i : Nat), i < k * l.length → ((List.replicate k l).flatten).getD i 0 = l.getD (i % l.length) 0
  | 0, i, h => by omega
  | k + 1, i, h => by
    rw [List.replicate_succ, List.flatten_cons]
    by_cases hi : i < l.length
    · rw [getD_app hi, Nat.mod_eq_of_lt hi]
    · have hi : l.length ≤ i := by omega
      rw [getD_app2 hi, get_rep hl k (i - l.length) (by rw [Nat.add_mul] at h; omega), Nat.mod_eq_sub_mod hi]
theorem len_rep (l : List Nat) (k : Nat) : ((List.replicate k l).flatten).length = k * l.length := by
  simp
theorem tl_app (a b : Str) : (a ++ b).cps.toList = a.cps.toList ++ b.cps.toList := by
  obtain ⟨a⟩ := a; obtain ⟨b⟩ := b
  show (a ++ b).toList = _
  simp
/-- the head, and the round twelve times -/
theorem sign_whole {u r : Str} {p : Int} {n : Nat} (hp : 0 ≤ p) (h : p < ((u ++ Txt.mul r (n : Int)).length : Int)) : (⟨#[(u ++ Txt.mul r (n : Int)).cps.toList.getD p.toNat 0]⟩ : Str) = signS u r p := by
  rw [str_len, tl_app, List.length_append, tl_mul r (by omega), len_rep, Int.toNat_natCast] at h
  rw [tl_app, tl_mul r (by omega), Int.toNat_natCast]
  unfold signS
  split
  · rename_i h1
    rw [str_len] at h1
    rw [getD_app (by omega)]
  · rename_i h1
    rw [str_len] at h1
    have h1 : u.cps.toList.length ≤ p.toNat := by omega
    have hr : ¬ r.length = 0 := by
      rw [str_len]
      intro z
      rw [z] at h
      omega
    rw [if_neg hr, getD_app2 h1]
    rw [str_len] at hr
    have hr2 : 0 < r.cps.toList.length := by omega
    rw [get_rep hr2 n _ (by omega)]
    have e : ((p - (u.length : Int)).fmod (r.length : Int)).toNat = (p.toNat - u.cps.toList.length) % r.cps.toList.length := by
      rw [str_len, str_len, Int.fmod_eq_emod_of_nonneg _ (by omega)]
      have e2 : p - (u.cps.toList.length : Int) = ((p.toNat - u.cps.toList.length : Nat) : Int) := by omega
      rw [e2]
      omega
    rw [e]
theorem tl_join0 (ys : List Str) : (Txt.join "" ys).cps.toList = (ys.map (·.cps.toList)).flatten := by
  have e0 : TL.tl ("" : Str) = [] := by decide +kernel
  have key : ∀ l : List (List Nat), TL.joinL [] l = l.flatten := by
    intro l
    induction l with
    | nil => rfl
    | cons a r ih =>
      cases r with
      | nil => simp [TL.joinL]
      | cons b q =>
        show a ++ ([] ++ TL.joinL [] (b :: q)) = _
        rw [ih]; simp
  show TL.tl (Txt.join "" ys) = _
  rw [TL.join_eq, TL.tl_join, e0, key]
/-- a right content at an address -/
def ConAt (H : Hp) (x : V) (h r : Str) : Prop := ∃ a, x = .ref a ∧ H a = some (.tup [.str h, .str r]) ∧ h.length ≤ 100000 ∧ r.length ≤ 100000 ∧ lettB 3 h = true ∧ lettB 3 r = true
theorem ConAt.is {K : PySem.W.Frag} {H : Hp} {x : V} {h r : Str} (c : ConAt H x h r) : ConIs K H 3 x true := by
  obtain ⟨a, rfl, ha, h1, h2, h3, h4⟩ := c
  exact ⟨some [.str h, .str r], ⟨a, rfl, ha⟩, some h, some r, ⟨rfl, Nat.le_trans h1 (by decide)⟩, ⟨rfl, Nat.le_trans h2 (by decide)⟩, by show true = (lettB 3 h && lettB 3 r); rw [h3, h4]; rfl⟩
section
variable {X : Cx}
/-- a word between an expression and what comes behind: shown once -/
def tMid (te : TE) : TE := fun σ H Q => ∃ Mid : V → Hp → Prop, te σ H Mid ∧ ∀ v H', Mid v H' → Q v H'
theorem pe_mid {e : Expr} {te : TE} (h : PE X e te) : PE X e (tMid te) := by
  refine ⟨fun pins s σ H Q I hq => ?_⟩
  obtain ⟨Mid, h1, h2⟩ := hq
  exact thn (h.run pins s σ H _ I h1) fun u s1 ⟨v, H', I', r, q⟩ => ⟨v, H', I', r, h2 v H' q⟩
/-- the same for a statement -/
def tMidS (t : TS) : TS := fun D σ H => ∃ Mid : St → Hp → Prop, t { D with nx := Mid } σ H ∧ ∀ σ' H', Mid σ' H' → D.nx σ' H'
theorem ps_mid {st : Stmt} {t : TS} (h : PS X st t) : PS X st (tMidS t) := by
  refine ⟨fun pins s σ H D I hq => ?_⟩
  obtain ⟨Mid, h1, h2⟩ := hq
  refine thn (h.run pins s σ H { D with nx := Mid } I h1) fun f s1 q => ?_
  cases f with
  | next =>
    obtain ⟨σ', H', I', q⟩ := q
    exact ⟨σ', H', I', h2 σ' H' q⟩
  | ret v => exact q
  | brk => exact q
  | cont => exact q
end
theorem signS_end {h r : Str} {p : Int} (h1 : (h.length : Int) ≤ p) (h2 : r.length = 0) : signS h r p = "end" := by
  unfold signS
  rw [if_neg (by omega), if_pos h2]
theorem lett_mono {n m : Int} {s : Str} (h : n ≤ m) (hs : lettB n s = true) : lettB m s = true := by
  unfold lettB at *
  rw [List.all_eq_true] at *
  intro c hc
  have := of_decide_eq_true (hs c hc)
  exact decide_eq_true ⟨this.1, by omega⟩
theorem lett_empty {n : Int} : lettB n "" = true := by
  have e0 : (("" : Str)).cps.toList = [] := by decide +kernel
  unfold lettB
  rw [e0]; rfl
theorem cutS_len (z : Str) (lo hi : Option Int) : (cutS z lo hi).length ≤ z.length := by
  rw [str_len, str_len]
  unfold cutS
  show (List.take _ (List.drop _ _)).length ≤ _
  rw [List.length_take, List.length_drop]
  omega
theorem tl_cut_from {z : Str} {c : Nat} : (cutS z (some (c : Int)) none).cps.toList = z.cps.toList.drop c := by
  unfold cutS
  show List.take _ (List.drop _ _) = _
  rw [HT.sIx_nat, HT.sIx_none, str_len]
  by_cases h : c ≤ z.cps.toList.length
  · rw [Nat.min_eq_left h, List.take_of_length_le (by rw [List.length_drop]; exact Nat.le_refl _)]
  · rw [List.drop_eq_nil_of_le (by omega : z.cps.toList.length ≤ c), List.drop_eq_nil_of_le (by omega), List.take_nil]
theorem tl_cut_to {z : Str} {c : Nat} : (cutS z none (some (c : Int))).cps.toList = z.cps.toList.take c := by
  unfold cutS
  show List.take _ (List.drop _ _) = _
  rw [HT.sIx_nat, HT.sIx_none, str_len, List.drop_zero, Nat.sub_zero]
  by_cases h : c ≤ z.cps.toList.length
  · rw [Nat.min_eq_left h]
  · rw [Nat.min_eq_right (by omega), List.take_of_length_le (Nat.le_refl _), List.take_of_length_le (by omega)]
theorem ConAt.keep {H H' : Hp} {x : V} {h r : Str} (c : ConAt H x h r) (s : Same H H') : ConAt H' x h r := by
  obtain ⟨a, rfl, ha, q⟩ := c
  exact ⟨a, rfl, s _ _ ha, q⟩
theorem ConAt.of {H : Hp} {a : Addr} {u v : Str} (h : H a = some (.tup [.str u, .str v])) (hu : u.length ≤ 100000) (hv : v.length ≤ 100000) (lu : lettB 3 u = true) (lv : lettB 3 v = true) : ConAt H (.ref a) u v := ⟨a, rfl, h, hu, hv, lu, lv⟩
end L2

set_option maxRecDepth 100000
set_option maxHeartbeats 4000000
namespace L2
open PySem PySem.Spec PyProof.Rows
/-! ### the dice -/
def diceL (q : Addr) (a b c d : Int) : List V := [.ref q, .int a, .int b, .int c, .int d]
structure DiceAt (H : Hp) (p q : Addr) : Prop where
  ex : ∃ (a b c d : Int) (ns : List Int), H p = some (.lst (diceL q a b c d)) ∧ H q = some (.lst (ns.map V.int)) ∧ p ≠ q ∧ 0 ≤ a
theorem DiceAt.same {H H' : Hp} {p q : Addr} (P : DiceAt H p q) (e1 : ∀ o, H p = some o → H' p = some o) (e2 : ∀ o, H q = some o → H' q = some o) : DiceAt H' p q := by
  obtain ⟨a, b, c, d, ns, h1, h2, r⟩ := P.ex
  exact ⟨a, b, c, d, ns, e1 _ h1, e2 _ h2, r⟩
theorem DiceAt.keep {H H' : Hp} {p q : Addr} (P : DiceAt H p q) (e : Same H H') : DiceAt H' p q := P.same (fun _ h => e _ _ h) (fun _ h => e _ _ h)
theorem DiceAt.upd {H : Hp} {p q a : Addr} {o : HO} (P : DiceAt H p q) (ha : H a = none) : DiceAt (upd H a o) p q := P.keep (Same.new ha)
theorem DiceAt.put {H : Hp} {p q a : Addr} {o : HO} (P : DiceAt H p q) (ha : p ≠ a ∧ q ≠ a) : DiceAt (L2.upd H a o) p q := P.same (fun _ h => by rw [upd_ne ha.1]; exact h) (fun _ h => by rw [upd_ne ha.2]; exact h)
theorem DiceAt.ne {H : Hp} {p q a : Addr} (P : DiceAt H p q) (ha : H a = none) : p ≠ a ∧ q ≠ a := by
  obtain ⟨a, b, c, d, ns, h1, h2, r⟩ := P.ex
  exact ⟨ne_of_none h1 ha, ne_of_none h2 ha⟩
theorem DiceAt.tup {H : Hp} {p q a : Addr} {xs : List V} (P : DiceAt H p q) (ha : H a = some (.tup xs)) : a ≠ p := by
  obtain ⟨a, b, c, d, ns, h1, h2, r⟩ := P.ex
  exact ne_of ha h1 (by intro z; cases z)
theorem Sb.tupD {H H' : Hp} {p q a : Addr} {xs : List V} (e : Sb p p H H') (P : DiceAt H p q) (ha : H a = some (.tup xs)) : H' a = some (.tup xs) := e a _ ha (P.tup ha) (P.tup ha)
theorem Sb.freeD {H H' : Hp} {p q a : Addr} (e : Sb p p H H') (P' : DiceAt H' p q) (h : H' a = none) : H a = none := by
  cases z : H a with
  | none => rfl
  | some o =>
    have := e a o z (P'.ne h).1.symm (P'.ne h).1.symm
    rw [h] at this; cases this
theorem dice_set {q : Addr} {a b c d z : Int} : (diceL q a b c d).set 1 (.int z) = diceL q z b c d ∧ (diceL q a b c d).set 2 (.int z) = diceL q a z c d ∧ (diceL q a b c d).set 3 (.int z) = diceL q a b z d ∧ (diceL q a b c d).set 4 (.int z) = diceL q a b c z := ⟨rfl, rfl, rfl, rfl⟩
def spDice (K : PySem.W.Frag) : Sp := fun vs H Q _ => ∃ (a : Addr) (ns : List Int), vs = [.ref a] ∧ SqL K H a (ns.map V.int) ∧ ns.length ≤ 63 ∧ ∀ p q H', H p = none → H q = none → DiceAt H' p q → Same H H' → Q (.ref p) H'
def spDrawD : Sp := fun vs H Q _ => ∃ (p q : Addr) (many : Int), vs = [.ref p, .int many] ∧ DiceAt H p q ∧ 0 < many ∧ many < 1073741824 ∧ ∀ r H', 0 ≤ r → r < many → DiceAt H' p q → Sb p p H H' → Q (.int r) H'
theorem cut63 {ns : List Int} (hl : ns.length ≤ 63) : cutV (ns.map V.int) none (some 63) = ns.map V.int := by
  unfold cutV
  rw [HT.sIx_none, show (63 : Int) = ((63 : Nat) : Int) from rfl, HT.sIx_nat, List.length_map, List.drop_zero, Nat.min_eq_right hl, Nat.sub_zero]
  exact List.take_of_length_le (by rw [List.length_map]; exact Nat.le_refl _)
theorem at_int {ns : List Int} {i : Int} (h0 : 0 ≤ i) (h1 : i < (ns.length : Int)) : ∃ z, atI (ns.map V.int) i = some (.int z) := by
  obtain ⟨v, hv, hm⟩ := at_some (xs := ns.map V.int) h0 (by rw [List.length_map]; exact h1)
  obtain ⟨z, rfl⟩ := mem_int hm
  exact ⟨z, hv⟩
end L2

set_option maxRecDepth 100000
set_option maxHeartbeats 4000000
namespace L2
open PySem PySem.Spec PyProof.Rows
/-! ### a built-in's method within a comprehension: the fragment is the def's own -/
theorem pe_bmF {X : Cx} {K : PySem.W.Frag} (hK : X.K = K) {c : Expr} {to : TE} {t : TA} {T : String} {r : V → List V → Hp → VK → Prop} (h : PE X c (tBM X.K T r to t)) : PE X c (tBM K T r to t) := by
  subst hK
  exact h
section
variable {X : Cx} {K : PySem.W.Frag} (hK : X.K = K)
include hK
theorem len_seqF : CallR X (.builtin "len") (fun xs H Q => ∃ p ys, xs = [.ref p] ∧ (SqL K H p ys ∨ SqT K H p ys) ∧ Q (.int ys.length) H) := by subst hK; exact call_len_seq
theorem list_ofF : CallR X (.type "list") (fun xs H Q => ∃ p ys, xs = [.ref p] ∧ (SqL K H p ys ∨ SqT K H p ys) ∧ ∀ l, H l = none → Q (.ref l) (upd H l (.lst ys))) := by subst hK; exact call_list_of
theorem tuple_ofF : CallR X (.type "tuple") (fun xs H Q => ∃ p ys, xs = [.ref p] ∧ ((SqL K H p ys ∧ ∀ l, H l = none → Q (.ref l) (upd H l (.tup ys))) ∨ (SqT K H p ys ∧ Q (.ref p) H))) := by subst hK; exact call_tuple_of
theorem isiF : CallR X (.builtin "isinstance") (rIsi K) := by subst hK; exact call_isi
theorem all_F (hc : X.calm = true) : CallR X (.builtin "all") (rAll K) := by subst hK; exact cr_all hc
theorem ix_listF : IxR X (rIxL K) := by subst hK; exact ix_list
theorem ix_tupF : IxR X (rIxT K) := by subst hK; exact ix_tup
theorem ix_seqF : IxR X (rIx K) := by subst hK; exact ix_seq
theorem pe_fldF {e : Expr} {f : Str} {pos : Pos} {ta : TE} (h : PE X e ta) (hb : attributeBase e f X.env (eval e X.env) = eval e X.env) : PE X (e.Attribute f pos) (tFld K ta f) := by subst hK; exact pe_fld h hb
theorem pi_tupF {tg l : Expr} {tl : TE} (h : PE X l tl) : PI X tg l (iTup K tl) := by subst hK; exact pi_tup h
theorem pi_listF {tg l : Expr} {tl : TE} (h : PE X l tl) : PI X tg l (iList K tl) := by subst hK; exact pi_list h
end
/-! ### programs drawn -/
/-- each hand from 0 to the greatest one stands there -/
def Dealing (rows : Nat) (dl : List Int) (hands : Nat) : Prop := dl.length = rows ∧ 0 < hands ∧ hands ≤ rows ∧ (∀ h, h ∈ dl → 0 ≤ h ∧ h < (hands : Int)) ∧ ∀ k : Nat, k < hands → (k : Int) ∈ dl
theorem Dealing.max {rows : Nat} {dl : List Int} {hands : Nat} {m : Int} (d : Dealing rows dl hands) (h1 : m ∈ dl) (h2 : ∀ y, y ∈ dl → y ≤ m) : m = (hands : Int) - 1 := by
  obtain ⟨_, h0, _, hr, hs⟩ := d
  have a := hr m h1
  have b := h2 _ (hs (hands - 1) (by omega))
  omega
/-- a standing of a program -/
inductive Item where
  | begin (row : Nat) (nexts : List Nat)
  | on (hand : Nat) (nexts : List Nat)
  | leave (hand next : Nat)
  | say (w : Str) (next : Nat)
  | stop
def natV (n : Nat) : V := .int (n : Int)
def ItemAt (H : Hp) (v : V) : Item → Prop
  | .begin r ns => ∃ a n, v = .ref a ∧ H a = some (.tup [.str "begin", natV r, .ref n]) ∧ H n = some (.tup (ns.map natV))
  | .on r ns => ∃ a n, v = .ref a ∧ H a = some (.tup [.str "on", natV r, .ref n]) ∧ H n = some (.tup (ns.map natV))
  | .leave h n => ∃ a, v = .ref a ∧ H a = some (.tup [.str "leave", natV h, natV n])
  | .say w n => ∃ a, v = .ref a ∧ H a = some (.tup [.str "say", .str w, natV n])
  | .stop => ∃ a, v = .ref a ∧ H a = some (.tup [.str "stop"])
/-- tuples stay -/
def TupSame (H H' : Hp) : Prop := ∀ a xs, H a = some (.tup xs) → H' a = some (.tup xs)
theorem TupSame.refl (H : Hp) : TupSame H H := fun _ _ h => h
theorem TupSame.trans {H H1 H2 : Hp} (a : TupSame H H1) (b : TupSame H1 H2) : TupSame H H2 := fun c x h => b c x (a c x h)
theorem Same.tups {H H' : Hp} (s : Same H H') : TupSame H H' := fun a xs h => s a _ h
theorem Sb.tups {H H' : Hp} {p q : Addr} (e : Sb p p H H') (P : DiceAt H p q) : TupSame H H' := fun a xs h => e.tupD P h
theorem ItemAt.keep {H H' : Hp} {v : V} {i : Item} (h : ItemAt H v i) (s : TupSame H H') : ItemAt H' v i := by
  cases i with
  | begin r ns => obtain ⟨a, n, e, h1, h2⟩ := h; exact ⟨a, n, e, s _ _ h1, s _ _ h2⟩
  | on r ns => obtain ⟨a, n, e, h1, h2⟩ := h; exact ⟨a, n, e, s _ _ h1, s _ _ h2⟩
  | leave h' n => obtain ⟨a, e, h1⟩ := h; exact ⟨a, e, s _ _ h1⟩
  | say w n => obtain ⟨a, e, h1⟩ := h; exact ⟨a, e, s _ _ h1⟩
  | stop => obtain ⟨a, e, h1⟩ := h; exact ⟨a, e, s _ _ h1⟩
/-- what is right of a standing -/
def ItemOk (rows letters hands size : Nat) : Item → Prop
  | .begin r ns => r < rows ∧ ns.length = letters + 1 ∧ ∀ n ∈ ns, n < size
  | .on h ns => h < hands ∧ ns.length = letters + 1 ∧ ∀ n ∈ ns, n < size
  | .leave h n => h < hands ∧ n < size
  | .say w n => 0 < w.length ∧ w.length ≤ 8 ∧ lettB 26 w = true ∧ n < size
  | .stop => True
inductive All2 {α β : Type} (R : α → β → Prop) : List α → List β → Prop
  | nil : All2 R [] []
  | cons {a : α} {b : β} {l : List α} {m : List β} : R a b → All2 R l m → All2 R (a :: l) (b :: m)
theorem All2.imp {α β : Type} {R S : α → β → Prop} {l : List α} {m : List β} (h : All2 R l m) (i : ∀ a b, R a b → S a b) : All2 S l m := by
  induction h with
  | nil => exact .nil
  | cons a _ ih => exact .cons (i _ _ a) ih
theorem All2.len {α β : Type} {R : α → β → Prop} {l : List α} {m : List β} (h : All2 R l m) : l.length = m.length := by
  induction h with
  | nil => rfl
  | cons _ _ ih => simp [ih]
theorem All2.snoc {α β : Type} {R : α → β → Prop} {l : List α} {m : List β} {a : α} {b : β} (h : All2 R l m) (r : R a b) : All2 R (l ++ [a]) (m ++ [b]) := by
  induction h with
  | nil => exact .cons r .nil
  | cons x _ ih => exact .cons x ih
theorem All2.get {α β : Type} {R : α → β → Prop} {l : List α} {m : List β} (h : All2 R l m) : ∀ {i : Nat} {a : α}, l[i]? = some a → ∃ b, m[i]? = some b ∧ R a b := by
  induction h with
  | nil => intro i a e; simp at e
  | cons x _ ih =>
    intro i a e
    cases i with
    | zero => simp at e; subst e; exact ⟨_, rfl, x⟩
    | succ i => simpa using ih (by simpa using e)
theorem All2.get2 {α β : Type} {R : α → β → Prop} {l : List α} {m : List β} (h : All2 R l m) : ∀ {i : Nat} {b : β}, m[i]? = some b → ∃ a, l[i]? = some a ∧ R a b := by
  induction h with
  | nil => intro i a e; simp at e
  | cons x _ ih =>
    intro i a e
    cases i with
    | zero => simp at e; subst e; exact ⟨_, rfl, x⟩
    | succ i => simpa using ih (by simpa using e)
def TableAt (H : Hp) (t : Addr) (items : List Item) : Prop := ∃ vs, H t = some (.tup vs) ∧ All2 (ItemAt H) vs items
theorem TableAt.keep {H H' : Hp} {t : Addr} {items : List Item} (h : TableAt H t items) (s : TupSame H H') : TableAt H' t items := by
  obtain ⟨vs, h1, h2⟩ := h
  exact ⟨vs, s _ _ h1, h2.imp fun _ _ r => r.keep s⟩
/-- a right program's parts -/
structure PSpec where
  rows : Nat
  letters : Nat
  dealing : List Int
  hands : Nat
  depth : Option Nat
  table : List Item
structure PSpec.Ok (s : PSpec) : Prop where
  r1 : 1 ≤ s.rows
  r3 : s.rows ≤ 6
  l1 : 1 ≤ s.letters
  l3 : s.letters ≤ 3
  dl : Dealing s.rows s.dealing s.hands
  dp : ∀ d, s.depth = some d → 1 ≤ d ∧ d ≤ 60
  dn : s.depth = none → s.hands = 1
  tb : 1 ≤ s.table.length ∧ s.table.length ≤ 1000
  it : ∀ i ∈ s.table, ItemOk s.rows s.letters s.hands s.table.length i
def depthV : Option Nat → V
  | some d => natV d
  | none => .non
/-- the five parts in a tuple -/
def SpecAt (H : Hp) (a : Addr) (s : PSpec) : Prop := ∃ d t, H a = some (.tup [natV s.rows, natV s.letters, .ref d, depthV s.depth, .ref t]) ∧ H d = some (.tup (s.dealing.map V.int)) ∧ TableAt H t s.table
theorem SpecAt.keep {H H' : Hp} {a : Addr} {s : PSpec} (h : SpecAt H a s) (e : TupSame H H') : SpecAt H' a s := by
  obtain ⟨d, t, h1, h2, h3⟩ := h
  exact ⟨d, t, e _ _ h1, e _ _ h2, h3.keep e⟩
theorem map_natV (ns : List Nat) : ns.map natV = (ns.map fun n : Nat => (n : Int)).map V.int := by
  rw [List.map_map]; rfl
theorem nat_of {z : Int} (h : 0 ≤ z) : ∃ n : Nat, z = (n : Int) := ⟨z.toNat, by omega⟩
theorem mem_of_perm_pop {α : Type} {xs : List α} {k : Nat} {y : α} (h : xs[k]? = some y) : (y :: xs.eraseIdx k).Perm xs := by
  induction xs generalizing k with
  | nil => simp at h
  | cons a r ih =>
    cases k with
    | zero =>
      have : a = y := by simpa using h
      subst this
      exact List.Perm.refl _
    | succ k =>
      have := ih (by simpa using h)
      exact (List.Perm.swap a y _).trans (List.Perm.cons a this)
theorem pop_at {xs : List V} {i : Int} (h0 : 0 ≤ i) (h1 : i < (xs.length : Int)) : ∃ k y, seqIndex? i xs.length = some k ∧ xs[k]? = some y ∧ k < xs.length := by
  obtain ⟨j, rfl⟩ := nat_of h0
  have hj : j < xs.length := by omega
  refine ⟨j, xs[j], (ixN_seq (j := j) ?_).1, List.getElem?_eq_getElem hj, hj⟩
  unfold ixN
  rw [if_pos (by omega), if_pos (by omega)]
  simp
end L2

set_option maxRecDepth 100000
set_option maxHeartbeats 4000000
namespace L2
open PySem PySem.Spec PyProof.Rows
theorem op_in_seqF {X : Cx} {K : PySem.W.Frag} (hK : X.K = K) : OpR X (compareOp .In) (rIn K false) := by subst hK; exact op_in_seq
theorem maxF {X : Cx} {K : PySem.W.Frag} (hK : X.K = K) (hc : X.calm = true) : CallR X (.builtin "max") (rMax K) := by subst hK; exact cr_max hc
theorem minF {X : Cx} {K : PySem.W.Frag} (hK : X.K = K) (hc : X.calm = true) : CallR X (.builtin "min") (rMin K) := by subst hK; exact cr_min hc
theorem sumF {X : Cx} {K : PySem.W.Frag} (hK : X.K = K) (hc : X.calm = true) : CallR X (.builtin "sum") (rSum K) := by subst hK; exact cr_sum hc
theorem TupSame.putL {H : Hp} {c : Addr} {xs : List V} {o : HO} (h : H c = some (.lst xs)) : TupSame H (upd H c o) := fun a ys ha => by
  rw [upd_ne (fun e => by rw [e, h] at ha; cases ha)]
  exact ha
/-! ### a dealing drawn -/
/-- the values are just those below c -/
def Seg (fs : List Int) (c : Nat) : Prop := (∀ f, f ∈ fs → 0 ≤ f ∧ f < (c : Int)) ∧ ∀ k : Nat, k < c → (k : Int) ∈ fs
theorem Seg.nil : Seg [] 0 := ⟨by simp, by simp⟩
theorem Seg.snoc {fs : List Int} {c : Nat} {r : Int} (h : Seg fs c) (r0 : 0 ≤ r) (r1 : r < (c : Int) + 1) : ∃ c', Seg (fs ++ [r]) c' ∧ c ≤ c' ∧ c' ≤ c + 1 ∧ 0 < c' := by
  obtain ⟨n, rfl⟩ := nat_of r0
  by_cases hn : n < c
  · refine ⟨c, ⟨fun f hf => ?_, fun k hk => List.mem_append_left _ (h.2 k hk)⟩, Nat.le_refl _, by omega, by omega⟩
    rcases List.mem_append.mp hf with hf | hf
    · exact h.1 f hf
    · rw [List.mem_singleton] at hf; subst hf; omega
  · have : n = c := by omega
    subst this
    refine ⟨n + 1, ⟨fun f hf => ?_, fun k hk => ?_⟩, by omega, by omega, by omega⟩
    · rcases List.mem_append.mp hf with hf | hf
      · have := h.1 f hf; omega
      · rw [List.mem_singleton] at hf; subst hf; omega
    · by_cases hk2 : k < n
      · exact List.mem_append_left _ (h.2 k hk2)
      · have : k = n := by omega
        subst this
        exact List.mem_append_right _ (List.mem_singleton.mpr rfl)
theorem Seg.mem {fs : List Int} {c k : Nat} (h : Seg fs c) : ((k : Int) ∈ fs) ↔ k < c := ⟨fun m => by have := h.1 _ m; omega, h.2 k⟩
theorem inV_int {fs : List Int} {i : Int} : inV (.int i) (fs.map V.int) = decide (i ∈ fs) := by
  unfold inV
  induction fs with
  | nil => rfl
  | cons a r ih =>
    rw [List.map_cons, List.any_cons, ih]
    show (a == i || decide (i ∈ r)) = _
    by_cases e : a = i
    · subst e; simp
    · have : (a == i) = false := by simpa using e
      rw [this, Bool.false_or]
      have e2 : i ≠ a := fun h => e h.symm
      simp [e2]
theorem flat_int {fs : List Int} : (fs.map V.int).all flatV = true := by
  rw [List.all_map, List.all_eq_true]; intro x _; rfl
theorem perm_ints {L : List Int} {ys : List V} (h : ys.Perm (L.map V.int)) : ∃ zs : List Int, ys = zs.map V.int ∧ zs.Perm L := by
  let g : V → Int := fun v => match v with | .int i => i | _ => 0
  refine ⟨ys.map g, ?_, ?_⟩
  · rw [List.map_map]
    have : ∀ y, y ∈ ys → (V.int ∘ g) y = y := fun y hy => by
      obtain ⟨i, _, rfl⟩ := List.mem_map.mp (h.mem_iff.mp hy)
      rfl
    rw [List.map_congr_left this, List.map_id']
  · have := h.map g
    rw [List.map_map] at this
    have e : (L.map (g ∘ V.int)) = L := by rw [show (g ∘ V.int) = id from rfl, List.map_id]
    rw [e] at this
    exact this
theorem rgV_nat (n : Nat) : rgV 0 (n : Int) = ((List.range n).map fun i : Nat => (i : Int)).map V.int := by
  unfold rgV
  rw [List.map_map, show ((n : Int) - 0).toNat = n by omega]
  refine List.map_congr_left fun i _ => ?_
  simp
theorem cell_mem {zs : List Int} {j : Nat} (h : j < zs.length) : cellOf zs j ∈ zs ∧ zs[j]? = some (cellOf zs j) := by
  have e : cellOf zs j = zs[j] := by unfold cellOf; simp [h]
  rw [e]
  exact ⟨List.getElem_mem h, List.getElem?_eq_getElem h⟩
theorem dealing_of {rows c : Nat} {fs zs : List Int} (hl : fs.length = rows) (hs : Seg fs c) (h0 : 0 < c) (hc : c ≤ rows) (hp : zs.Perm ((List.range c).map fun i : Nat => (i : Int))) : Dealing rows (fs.map fun f => cellOf zs f.toNat) c := by
  have hz : zs.length = c := by rw [hp.length_eq, List.length_map, List.length_range]
  refine ⟨by rw [List.length_map, hl], h0, hc, fun x hx => ?_, fun k hk => ?_⟩
  · obtain ⟨f, hf, rfl⟩ := List.mem_map.mp hx
    have b := hs.1 f hf
    have m := hp.mem_iff.mp (cell_mem (zs := zs) (j := f.toNat) (by omega)).1
    obtain ⟨n, hn, e⟩ := List.mem_map.mp m
    rw [← e]
    have := List.mem_range.mp hn
    omega
  · have m : (k : Int) ∈ zs := hp.mem_iff.mpr (List.mem_map.mpr ⟨k, List.mem_range.mpr hk, rfl⟩)
    obtain ⟨j, hj, e⟩ := List.getElem_of_mem m
    refine List.mem_map.mpr ⟨(j : Int), hs.2 j (by omega), ?_⟩
    have := (cell_mem hj).2
    rw [List.getElem?_eq_getElem hj, e] at this
    simpa using this.symm
theorem seg_max {fs : List Int} {c : Nat} {m : Int} (h : Seg fs c) (h1 : m ∈ fs) (h2 : ∀ y, y ∈ fs → y ≤ m) : m = (c : Int) - 1 := by
  have a := h.1 m h1
  have b := h2 _ (h.2 (c - 1) (by omega))
  omega
/-! ### contents drawn -/
def ConsAt (H : Hp) (a : Addr) (n : Nat) (hs : List (Str × Str)) : Prop := ∃ vs, H a = some (.tup vs) ∧ All2 (fun v (h : Str × Str) => ConAt H v h.1 h.2 ∧ lettB n h.1 = true ∧ lettB n h.2 = true) vs hs
theorem ConAt.keepT {H H' : Hp} {x : V} {h r : Str} (c : ConAt H x h r) (s : TupSame H H') : ConAt H' x h r := by
  obtain ⟨a, e, ha, rest⟩ := c
  exact ⟨a, e, s _ _ ha, rest⟩
theorem ConsAt.keep {H H' : Hp} {a : Addr} {n : Nat} {hs : List (Str × Str)} (c : ConsAt H a n hs) (s : TupSame H H') : ConsAt H' a n hs := by
  obtain ⟨vs, h1, h2⟩ := c
  exact ⟨vs, s _ _ h1, h2.imp fun _ _ r => ⟨r.1.keepT s, r.2⟩⟩
theorem lettB_up {n m : Int} {z : Str} (h : lettB n z = true) (e : n ≤ m) : lettB m z = true := by
  unfold lettB at h ⊢
  rw [List.all_eq_true] at h ⊢
  intro c hc
  have := h c hc
  simp at this ⊢
  omega
end L2

set_option maxRecDepth 100000
set_option maxHeartbeats 4000000
namespace L2
open PySem PySem.Spec PyProof.Rows
/-! ### things of all kinds that a law makes -/
inductive Th where
  | non | bl (b : Bool) | int (i : Int) | str (z : Str) | tup (xs : List Th) | lst (xs : List Th) | dct
mutual
/-- the thing stands at v; its lists and dicts are neither p nor g, which alone change -/
inductive ThAt (p g : Addr) (H : Hp) : V → Th → Prop where
  | non : ThAt p g H .non .non
  | bl (b : Bool) : ThAt p g H (.bl b) (.bl b)
  | int (i : Int) : ThAt p g H (.int i) (.int i)
  | str {z : Str} (h : z.length ≤ 100000) : ThAt p g H (.str z) (.str z)
  | tup {a : Addr} {vs : List V} {xs : List Th} (h : H a = some (.tup vs)) (n : a ≠ p ∧ a ≠ g) (r : ThAts p g H vs xs) : ThAt p g H (.ref a) (.tup xs)
  | lst {a : Addr} {vs : List V} {xs : List Th} (h : H a = some (.lst vs)) (n : a ≠ p ∧ a ≠ g) (r : ThAts p g H vs xs) : ThAt p g H (.ref a) (.lst xs)
  | dct {a : Addr} (h : H a = some (.dK [])) (n : a ≠ p ∧ a ≠ g) : ThAt p g H (.ref a) .dct
inductive ThAts (p g : Addr) (H : Hp) : List V → List Th → Prop where
  | nil : ThAts p g H [] []
  | cons {v : V} {x : Th} {vs : List V} {xs : List Th} (h : ThAt p g H v x) (r : ThAts p g H vs xs) : ThAts p g H (v :: vs) (x :: xs)
end
section
variable {p g : Addr} {H H' : Hp}
mutual
theorem ThAt.keep {v : V} {x : Th} (h : ThAt p g H v x) (s : Sb p g H H') : ThAt p g H' v x := by
  cases h with
  | non => exact .non
  | bl b => exact .bl b
  | int i => exact .int i
  | str h => exact .str h
  | tup h n r => exact .tup (s _ _ h n.1 n.2) n (r.keep s)
  | lst h n r => exact .lst (s _ _ h n.1 n.2) n (r.keep s)
  | dct h n => exact .dct (s _ _ h n.1 n.2) n
theorem ThAts.keep {vs : List V} {xs : List Th} (h : ThAts p g H vs xs) (s : Sb p g H H') : ThAts p g H' vs xs := by
  cases h with
  | nil => exact .nil
  | cons a r => exact .cons (a.keep s) (r.keep s)
end
theorem ThAts.len {vs : List V} {xs : List Th} (h : ThAts p g H vs xs) : vs.length = xs.length := by
  induction vs generalizing xs with
  | nil => cases h; rfl
  | cons a r ih => cases h with | cons x y => simp [ih y]
theorem ThAts.get {vs : List V} {xs : List Th} (h : ThAts p g H vs xs) : ∀ {i : Nat} {v : V}, vs[i]? = some v → ∃ x, xs[i]? = some x ∧ ThAt p g H v x := by
  induction vs generalizing xs with
  | nil => intro i v e; simp at e
  | cons a r ih =>
    cases h with
    | cons x y =>
      intro i v e
      cases i with
      | zero => simp at e; subst e; exact ⟨_, rfl, x⟩
      | succ i => simpa using ih y (by simpa using e)
theorem ThAts.get2 {vs : List V} {xs : List Th} (h : ThAts p g H vs xs) : ∀ {i : Nat} {x : Th}, xs[i]? = some x → ∃ v, vs[i]? = some v ∧ ThAt p g H v x := by
  induction vs generalizing xs with
  | nil => cases h; intro i x e; simp at e
  | cons a r ih =>
    cases h with
    | cons x y =>
      intro i z e
      cases i with
      | zero => simp at e; subst e; exact ⟨_, rfl, x⟩
      | succ i => simpa using ih y (by simpa using e)
theorem ThAts.app {vs ws : List V} {xs ys : List Th} (h : ThAts p g H vs xs) (k : ThAts p g H ws ys) : ThAts p g H (vs ++ ws) (xs ++ ys) := by
  induction vs generalizing xs with
  | nil => cases h; exact k
  | cons a r ih => cases h with | cons x y => exact .cons x (ih y)
theorem ThAts.take {vs : List V} {xs : List Th} (h : ThAts p g H vs xs) (n : Nat) : ThAts p g H (vs.take n) (xs.take n) := by
  induction vs generalizing xs n with
  | nil => cases h; simp; exact .nil
  | cons a r ih =>
    cases h with
    | cons x y =>
      cases n with
      | zero => simp; exact .nil
      | succ n => simp; exact .cons x (ih y n)
theorem ThAts.drop {vs : List V} {xs : List Th} (h : ThAts p g H vs xs) (n : Nat) : ThAts p g H (vs.drop n) (xs.drop n) := by
  induction vs generalizing xs n with
  | nil => cases h; simp; exact .nil
  | cons a r ih =>
    cases h with
    | cons x y =>
      cases n with
      | zero => exact .cons x y
      | succ n => simp; exact ih y n
end

/-! ### kinds of such things -/
def Th.int? : Th → Option Int
  | .int i => some i
  | _ => none
def Th.str? : Th → Option Str
  | .str z => some z
  | _ => none
def Th.tup? : Th → Option (List Th)
  | .tup xs => some xs
  | _ => none
section
variable {p g : Addr} {H : Hp} {K : PySem.W.Frag} {v : V} {x : Th}
theorem ThAt.isInt (h : ThAt p g H v x) : IntIs K H v x.int? := by
  cases h with
  | non => exact ⟨false, tyis_non, fun h => (by cases h)⟩
  | bl b => exact ⟨true, tyis_bl, fun _ => tyis_bl⟩
  | int i => rfl
  | str h => exact ⟨false, tyis_str, fun h => (by cases h)⟩
  | tup h n r => exact ⟨false, tyis_tup h, fun h => (by cases h)⟩
  | lst h n r => exact ⟨false, tyis_lst h, fun h => (by cases h)⟩
  | dct h n => exact ⟨false, tyis_dK h, fun h => (by cases h)⟩
theorem ThAt.isStr (h : ThAt p g H v x) : StrIs K H v x.str? := by
  cases h with
  | non => exact tyis_non
  | bl b => exact tyis_bl
  | int i => exact tyis_int
  | str h => exact ⟨rfl, Nat.le_trans h (by decide)⟩
  | tup h n r => exact tyis_tup h
  | lst h n r => exact tyis_lst h
  | dct h n => exact tyis_dK h
theorem ThAt.isTup (h : ThAt p g H v x) : ∃ o, TupIs K H v o ∧ match x.tup?, o with
    | some xs, some vs => ThAts p g H vs xs
    | none, none => True
    | _, _ => False := by
  cases h with
  | non => exact ⟨none, tyis_non, trivial⟩
  | bl b => exact ⟨none, tyis_bl, trivial⟩
  | int i => exact ⟨none, tyis_int, trivial⟩
  | str h => exact ⟨none, tyis_str, trivial⟩
  | @tup a vs xs h n r => exact ⟨some vs, ⟨a, rfl, h⟩, r⟩
  | lst h n r => exact ⟨none, tyis_lst h, trivial⟩
  | dct h n => exact ⟨none, tyis_dK h, trivial⟩
theorem ThAt.tupAt {xs : List Th} (h : ThAt p g H v (.tup xs)) : ∃ a vs, v = .ref a ∧ H a = some (.tup vs) ∧ ThAts p g H vs xs := by
  cases h with
  | tup h n r => exact ⟨_, _, rfl, h, r⟩
theorem ThAt.notTup (h : ThAt p g H v x) (n : x.tup? = none) : TyIs K H v "tuple" false := by
  cases h with
  | non => exact tyis_non
  | bl b => exact tyis_bl
  | int i => exact tyis_int
  | str h => exact tyis_str
  | tup h m r => cases n
  | lst h m r => exact tyis_lst h
  | dct h m => exact tyis_dK h
theorem Th.tup_of {x : Th} : (∃ xs, x = .tup xs) ∨ x.tup? = none := by
  cases x with
  | tup xs => exact .inl ⟨xs, rfl⟩
  | _ => exact .inr rfl
end
/-! ### what is right of a program's parts -/
def btwO (lo hi : Int) : Option Int → Bool
  | some i => decide (lo ≤ i) && decide (i ≤ hi)
  | none => false
def btwT (lo hi : Int) (x : Th) : Bool := btwO lo hi x.int?
def wordO : Option Str → Bool
  | some z => decide (1 ≤ z.length ∧ z.length ≤ 8) && lettB 26 z
  | none => false
def nextsT (letters many : Int) (x : Th) : Bool := match x.tup? with
  | some xs => decide ((xs.length : Int) = letters + 1) && xs.all (btwT 0 (many - 1))
  | none => false
def headT (kind : Str) (xs : List Th) : Bool := match xs.head? with
  | some y => decide (y.str? = some kind)
  | none => false
def itemT (kind : Str) (size : Int) (x : Th) : Bool := match x.tup? with
  | some xs => decide ((xs.length : Int) = size) && headT kind xs
  | none => false
def Th.nth (x : Th) (i : Nat) : Th := match x.tup? with
  | some xs => xs.getD i .non
  | none => .non
def numberedT (kind : Str) (below letters many : Int) (x : Th) : Bool := itemT kind 3 x && btwT 0 (below - 1) (x.nth 1) && nextsT letters many (x.nth 2)
def leaveT (hands many : Int) (x : Th) : Bool := itemT "leave" 3 x && btwT 0 (hands - 1) (x.nth 1) && btwT 0 (many - 1) (x.nth 2)
def sayT (many : Int) (x : Th) : Bool := itemT "say" 3 x && wordO (x.nth 1).str? && btwT 0 (many - 1) (x.nth 2)
def stopT (x : Th) : Bool := itemT "stop" 1 x
def okItemT (rows letters hands many : Int) (x : Th) : Bool := numberedT "begin" rows letters many x || numberedT "on" hands letters many x || leaveT hands many x || sayT many x || stopT x
def tableT (rows letters hands : Int) (x : Th) : Bool := match x.tup? with
  | some xs => decide (1 ≤ xs.length ∧ xs.length ≤ 20000) && xs.all (okItemT rows letters hands xs.length)
  | none => false
def depthT (hands : Int) : Th → Bool
  | .non => decide (hands = 1)
  | x => btwT 1 60 x
theorem ThAt.three {p g : Addr} {H : Hp} {v : V} {x : Th} {kind : Str} {n : Nat} (h : ThAt p g H v x) (_ : 0 < 1) (e : itemT kind (n : Int) x = true) : ∃ a vs, v = .ref a ∧ H a = some (.tup vs) ∧ vs.length = n ∧ ∀ i : Nat, i < n → ∃ w, atI vs (i : Int) = some w ∧ ThAt p g H w (x.nth i) := by
  cases h with
  | @tup a vs xs h m r =>
    have e : (decide ((xs.length : Int) = n) && headT kind xs) = true := e
    rw [Bool.and_eq_true] at e
    have el := of_decide_eq_true e.1
    have hl := r.len
    refine ⟨a, vs, rfl, h, by omega, fun i hi => ?_⟩
    have hv : vs[i]? = some (vs[i]'(by omega)) := List.getElem?_eq_getElem _
    obtain ⟨y, hy, hh⟩ := r.get hv
    refine ⟨_, atI_nat hv, ?_⟩
    have : (Th.tup xs).nth i = y := by show xs.getD i .non = y; rw [List.getD_eq_getElem?_getD, hy]; rfl
    rw [this]
    exact hh
  | _ => cases e
theorem all_false {α : Type} {xs : List α} {f : α → Bool} {i : Nat} {x : α} (h : xs[i]? = some x) (n : f x = false) : xs.all f = false := by
  rw [Bool.eq_false_iff]
  intro a
  have := List.all_eq_true.mp a x (List.mem_of_getElem? h)
  rw [n] at this
  cases this
theorem all_of {α : Type} {xs : List α} {f : α → Bool} (h : ∀ i x, i < xs.length → xs[i]? = some x → f x = true) : xs.all f = true := by
  rw [List.all_eq_true]
  intro x hx
  obtain ⟨i, hi, e⟩ := List.getElem_of_mem hx
  exact h i x hi (by rw [List.getElem?_eq_getElem hi, e])
theorem str_letters {z : Str} : decide (V.str (Txt.stripChars z "abcdefghijklmnopqrstuvwxyz") = V.str "") = lettB 26 z := by
  have cut (c : Nat) : ("abcdefghijklmnopqrstuvwxyz" : Str).cps.contains c = decide (97 ≤ c ∧ (c : Int) < 97 + 26) := by
    have e : ("abcdefghijklmnopqrstuvwxyz" : Str) = ⟨#[97, 98, 99, 100, 101, 102, 103, 104, 105, 106, 107, 108, 109, 110, 111, 112, 113, 114, 115, 116, 117, 118, 119, 120, 121, 122]⟩ := by decide +kernel
    rw [e, Bool.eq_iff_iff]
    simp
    omega
  unfold Txt.stripChars lettB
  rw [Bool.eq_iff_iff, decide_eq_true_iff]
  rw [show (V.str (Txt.stripBy ("abcdefghijklmnopqrstuvwxyz" : Str).cps.contains true true z) = V.str "") ↔ Txt.stripBy ("abcdefghijklmnopqrstuvwxyz" : Str).cps.contains true true z = "" from ⟨fun h => V.str.inj h, fun h => by rw [h]⟩]
  rw [strip_empty, List.all_eq_true, List.all_eq_true]
  constructor
  · intro h c hc
    rw [← cut]
    exact h c hc
  · intro h c hc
    rw [cut]
    exact h c hc
end L2

set_option maxRecDepth 100000
set_option maxHeartbeats 4000000
namespace L2
open PySem PySem.Spec PyProof.Rows
/-! ### set(t) of a tuple of ints; its len -/
def Card (S : Int → Bool) (c : Nat) : Prop := ∃ ks : List Int, ks.Nodup ∧ ks.length = c ∧ ∀ k, S k = true ↔ k ∈ ks
section
variable {X : Cx}
def rSetI (K : PySem.W.Frag) (w : World) : List V → Hp → VK → Prop := fun xs H Q => ∃ (a : Addr) (ns : List Int), xs = [.ref a] ∧ SqT K H a (ns.map V.int) ∧ ns.length + 1 < scanBound ∧
  ∀ (p : Addr) (S : Int → Bool) (c : Nat), H p = none → (∀ k, S k = decide (k ∈ ns)) → Card S c → c ≤ ns.length → Q (.ref p) (upd H p (SetO w p S c))
theorem cr_setI (hc : X.calm = true) : CallR X (.type "set") (rSetI X.K X.w) := by
  intro pins s σ H xs us Q I r h
  obtain ⟨l, ns, rfl, hl, hb, q⟩ := h
  rw [Vals.ref1 r]
  obtain ⟨its, rv, pl, hz⟩ := I.tuple hl
  have hn : H s.heap.objs.size = none := I.hok.fresh (Nat.le_refl _)
  refine call_set_tupI (P := X.prog) (w := X.w) ns (I.ok.hd hc) pl (by simpa using ints_of_vals rv) hb fun h' tk c R hcl k => ?_
  refine ⟨.ref s.heap.objs.size, upd H s.heap.objs.size (SetO X.w s.heap.objs.size _ c), I.laid (t' := tk) k (Nat.le_refl _) (setO_new R), rfl, q _ _ c hn (fun _ => rfl) ?_ hcl⟩
  obtain ⟨o, es, ep, t, _, _, _, _, nd, mem, _, _, sz, _⟩ := R
  exact ⟨es.toList.map keyOf, nd, by rw [List.length_map, Array.length_toList, sz], mem⟩
def rLenSet (w : World) : List V → Hp → VK → Prop := fun xs H Q => ∃ (a : Addr) (S : Int → Bool) (n : Nat), xs = [.ref a] ∧ H a = some (SetO w a S n) ∧ Q (.int n) H
theorem cr_lenSet : CallR X (.builtin "len") (rLenSet X.w) := by
  intro pins s σ H xs us Q I r h
  obtain ⟨a, S, n, rfl, ha, q⟩ := h
  have R := setO_get I ha
  rw [Vals.ref1 r]
  obtain ⟨o, es, ep, t, ho, ex, hd, _, _, _, hsz, fits, sz, _⟩ := R
  have hb : scanBound < 2 ^ 63 := by decide
  refine call_len_set ho ex hd fits (by omega) ?_
  rw [sz]
  exact ⟨.int n, H, I.tok _, ⟨_, rfl⟩, q⟩
end
/-! ### a dealing -/
theorem nodup_len : ∀ (xs ys : List Int), xs.Nodup → (∀ k, k ∈ xs → k ∈ ys) → xs.length ≤ ys.length
  | [], _, _, _ => Nat.zero_le _
  | a :: r, ys, nd, s => by
    have ha : a ∈ ys := s a (List.mem_cons_self ..)
    have nd2 := List.nodup_cons.mp nd
    have := nodup_len r (ys.erase a) nd2.2 fun k hk => (List.mem_erase_of_ne (fun e => nd2.1 (by rw [← e]; exact hk))).mpr (s k (List.mem_cons_of_mem _ hk))
    rw [List.length_erase_of_mem ha] at this
    have : 0 < ys.length := List.length_pos_of_mem ha
    rw [List.length_cons]
    omega
def uptoI (n : Nat) : List Int := (List.range n).map fun i : Nat => (i : Int)
theorem mem_uptoI {n : Nat} {k : Int} : k ∈ uptoI n ↔ 0 ≤ k ∧ k < n := by
  unfold uptoI
  rw [List.mem_map]
  constructor
  · rintro ⟨i, hi, rfl⟩
    have := List.mem_range.mp hi
    omega
  · rintro ⟨h0, h1⟩
    exact ⟨k.toNat, List.mem_range.mpr (by omega), by omega⟩
theorem uptoI_len {n : Nat} : (uptoI n).length = n := by unfold uptoI; rw [List.length_map, List.length_range]
theorem uptoI_nodup : ∀ {n : Nat}, (uptoI n).Nodup
  | 0 => List.nodup_nil
  | n + 1 => by
    have e : uptoI (n + 1) = uptoI n ++ [(n : Int)] := by unfold uptoI; rw [List.range_succ, List.map_append]; rfl
    rw [e, List.nodup_append]
    refine ⟨uptoI_nodup, by simp, fun a ha b hb => ?_⟩
    rw [List.mem_singleton] at hb
    have := mem_uptoI.mp ha
    omega
/-- as many as there are numbers from 0 to the greatest: they are just these -/
theorem card_seg {ns : List Int} {m : Int} {S : Int → Bool} {c : Nat} (h0 : ∀ f, f ∈ ns → 0 ≤ f) (hm : m ∈ ns) (hx : ∀ y, y ∈ ns → y ≤ m) (hS : ∀ k, S k = decide (k ∈ ns)) (hc : Card S c) : (c : Int) = m + 1 ↔ ∃ n, Seg ns n := by
  obtain ⟨ks, nd, hl, hk⟩ := hc
  have hk2 : ∀ k, k ∈ ks ↔ k ∈ ns := fun k => by rw [← hk k, hS k, decide_eq_true_iff]
  have m0 := h0 m hm
  constructor
  · intro e
    refine ⟨c, fun f hf => ⟨h0 f hf, by have := hx f hf; omega⟩, fun k hk3 => ?_⟩
    by_cases hin : (k : Int) ∈ ns
    · exact hin
    · have nd2 : ((k : Int) :: ks).Nodup := List.nodup_cons.mpr ⟨fun h => hin ((hk2 _).mp h), nd⟩
      have := nodup_len _ (uptoI c) nd2 fun j hj => by
        rw [mem_uptoI]
        rcases List.mem_cons.mp hj with rfl | hj
        · omega
        · have a := h0 j ((hk2 j).mp hj)
          have b := hx j ((hk2 j).mp hj)
          omega
      rw [uptoI_len, List.length_cons] at this
      omega
  · rintro ⟨n, hr, ha⟩
    have e := seg_max ⟨hr, ha⟩ hm hx
    have l1 := nodup_len ks (uptoI n) nd fun j hj => mem_uptoI.mpr (hr j ((hk2 j).mp hj))
    have l2 := nodup_len (uptoI n) ks uptoI_nodup fun j hj => by
      have := mem_uptoI.mp hj
      have q := ha j.toNat (by omega)
      rw [Int.toNat_of_nonneg this.1] at q
      exact (hk2 j).mpr q
    rw [uptoI_len] at l1 l2
    omega
/-- a dealing of so many rows -/
def DealT (rows : Int) (x : Th) : Prop := ∃ ns : List Int, x = .tup (ns.map .int) ∧ (ns.length : Int) = rows ∧ (∀ f, f ∈ ns → 0 ≤ f ∧ f < rows) ∧ ∃ c, Seg ns c
theorem ints_of_btw {lo hi : Int} : ∀ {xs : List Th}, (∀ j y, j < xs.length → xs[j]? = some y → btwT lo hi y = true) → ∃ ns : List Int, xs = ns.map .int ∧ ∀ f, f ∈ ns → lo ≤ f ∧ f ≤ hi
  | [], _ => ⟨[], rfl, fun f h => (by cases h)⟩
  | x :: r, h => by
    obtain ⟨ns, e, hb⟩ := ints_of_btw (xs := r) fun j y hj hy => h (j + 1) y (by simp; omega) (by simpa using hy)
    have hx := h 0 x (by simp) rfl
    cases x with
    | int i =>
      have hx : (decide (lo ≤ i) && decide (i ≤ hi)) = true := hx
      rw [Bool.and_eq_true] at hx
      refine ⟨i :: ns, by rw [e]; rfl, fun f hf => ?_⟩
      rcases List.mem_cons.mp hf with rfl | hf
      · exact ⟨of_decide_eq_true hx.1, of_decide_eq_true hx.2⟩
      · exact hb f hf
    | _ => cases hx
theorem ThAts.ints {p g : Addr} {H : Hp} : ∀ {vs : List V} {ns : List Int}, ThAts p g H vs (ns.map .int) → vs = ns.map V.int
  | _, [], h => by cases h; rfl
  | _, n :: r, h => by
    cases h with
    | cons a b =>
      cases a
      rw [ThAts.ints b]
      rfl
theorem th_ints {ns ms : List Int} (h : ns.map Th.int = ms.map Th.int) : ns = ms := by
  induction ns generalizing ms with
  | nil => cases ms with | nil => rfl | cons a r => cases h
  | cons a r ih =>
    cases ms with
    | nil => cases h
    | cons b t =>
      rw [List.map_cons, List.map_cons] at h
      injection h with h1 h2
      injection h1 with h1
      rw [h1, ih h2]
/-! ### a comprehension over a text -/
theorem lc_str {z : Str} {g : TG} {tt : TT} {te : TE} {vs : List Nat} {σ : St} {H1 : Hp} {D : Addr} {Qd : Hp → Prop} (Pv : Nat → Hp → Prop) (h0 : Pv 0 (upd H1 D (.lst [])))
    (hs : ∀ i c H, z.cps[i]? = some c → Pv i H → g (.str ⟨#[c]⟩) (wipe σ vs) H fun σ2 H2 => wipe σ2 vs = wipe σ vs ∧ tt σ2 H2 fun b H3 =>
      if b = true then te σ2 H3 fun y H4 => ∃ acc, H4 D = some (.lst acc) ∧ acc.length < sizeLine ∧ Pv (i + 1) (upd H4 D (.lst (acc ++ [y]))) else Pv (i + 1) H3) (hd : ∀ H, Pv z.cps.size H → Qd H) :
    ∃ W : Nat → Nat → Hp → Prop, (∃ m, W 0 m (upd H1 D (.lst []))) ∧ ∀ i m H, W i m H →
      ((Its z).stop i H ∧ Qd H) ∨ ((Its z).go i H ∧ ∃ Nx : Hp → Prop, (∀ H', Nx H' → ∃ m', m' < m ∧ W (i + 1) m' H') ∧ ∀ x H', (Its z).yld i H x H' → g x (wipe σ vs) H' fun σ2 H2 => wipe σ2 vs = wipe σ vs ∧ tt σ2 H2 fun b H3 =>
        if b = true then te σ2 H3 fun y H4 => ∃ acc, H4 D = some (.lst acc) ∧ acc.length < sizeLine ∧ Nx (upd H4 D (.lst (acc ++ [y]))) else Nx H3) := by
  refine ⟨fun i m H => m = z.cps.size - i ∧ i ≤ z.cps.size ∧ Pv i H, ⟨z.cps.size, by simp, Nat.zero_le _, h0⟩, ?_⟩
  rintro i m H ⟨rfl, hi, p⟩
  by_cases hlt : i < z.cps.size
  · refine .inr ⟨hlt, Pv (i + 1), fun H' p' => ⟨z.cps.size - (i + 1), by omega, rfl, hlt, p'⟩, fun x H' y => ?_⟩
    obtain ⟨rfl, c, hc, rfl⟩ := y
    exact hs i c H' hc p
  · have e : i = z.cps.size := by omega
    subst e
    exact .inl ⟨Nat.le_refl _, hd H p⟩
theorem all_id_map {α : Type} {xs : List α} {f : α → Bool} : (xs.map f).all id = xs.all f := by rw [List.all_map]; rfl
/-! ### t == (w,) -/
section
variable {X : Cx} {pins : List (Addr × Obj)} {σ : St} {H : Hp} {s : Shared} {p g : Addr}
theorem str_dec {y z : Str} : (y == z) = decide (some y = some z) := by
  rw [Bool.eq_iff_iff, decide_eq_true_iff, beq_iff_eq]
  exact ⟨fun e => by rw [e], fun e => Option.some.inj e⟩
theorem eqAt_head {A : Around} {v : V} {u : Value} {x : Th} {w : Str} {t : Tok} (I : Inv X pins σ H s) (r : RelV v u) (h : ThAt p g H v x) (nd : x ≠ .dct) (hu : A.units < cLine) : SeqAt.EqAt A s u (.str w t) (decide (x.str? = some w)) := by
  cases h with
  | non => cases r; exact SeqAt.EqAt.none_str w t
  | bl b => cases r; exact SeqAt.EqAt.bool_str b w t
  | int i => obtain ⟨t', rfl⟩ := r; exact SeqAt.EqAt.int_str i t' w t
  | @str z hz =>
    obtain ⟨t', rfl⟩ := r
    have e : decide ((Th.str z).str? = some w) = (z == w) := str_dec.symm
    rw [e]
    exact SeqAt.EqAt.str_str z t' w t
  | @tup a vs xs h n r2 =>
    cases r
    obtain ⟨its, rv, pl, hz⟩ := I.tuple (SqT.of h)
    exact SeqAt.EqAt.tuple_str w t pl hu
  | @lst a vs xs h n r2 =>
    cases r
    obtain ⟨its, rv, pl, hz⟩ := I.list (SqL.of h)
    exact SeqAt.EqAt.list_str w t pl.isList hu
  | dct h n => exact (nd rfl).elim
end
def rEqOne : R2 := fun x y H Q => ∃ (p g a b : Addr) (vs : List V) (x0 : Th) (xs : List Th) (w : Str), x = .ref a ∧ y = .ref b ∧ H a = some (.tup vs) ∧ ThAts p g H vs (x0 :: xs) ∧ x0 ≠ .dct ∧ H b = some (.tup [.str w]) ∧ Q (.bl (decide (x0.str? = some w) && decide (xs.length = 0))) H
theorem op_eqStop {X : Cx} (hu : X.A.units + 64 < cLine) : OpR X (compareOp .Eq) rEqOne := by
  intro pins s σ H x y v u Q I rx ry h
  obtain ⟨p, g, a, b, vs, x0, xs, w, rfl, rfl, ha, r, nd, hb, q⟩ := h
  cases rx
  cases ry
  obtain ⟨its, rv, pl, hz⟩ := I.tuple (SqT.of ha)
  obtain ⟨its2, rv2, pl2, hz2⟩ := I.tuple (SqT.of hb)
  have hu1 : X.A.in1.units < cLine := by
    show X.A.units + 1 < cLine
    omega
  cases r with
  | @cons v0 _ vr _ h0 r0 =>
    have hl := r0.len
    cases rv with
    | @cons _ u0 _ ur ru rur =>
      cases rv2 with
      | @cons _ u1 _ ur1 ru1 rur1 =>
        cases rur1
        obtain ⟨t, rfl⟩ := ru1
        have hlr := rur.length
        refine SeqAt.eq_tupleAt (e := fun _ => decide (x0.str? = some w)) pl pl2 (by omega) (fun j h1 h2 => ?_) ?_
        · have hj : j = 0 := by simp at h2; exact h2
          subst hj
          exact eqAt_head I ru h0 nd hu1
        · have hm : min (u0 :: ur).toArray.size [Value.str w t].toArray.size = 1 := by simp
          rw [hm]
          have e : ((List.range 1).all (fun _ => decide (x0.str? = some w)) && (u0 :: ur).toArray.size == [Value.str w t].toArray.size) = (decide (x0.str? = some w) && decide (xs.length = 0)) := by
            have e1 : (List.range 1).all (fun _ => decide (x0.str? = some w)) = decide (x0.str? = some w) := by simp [List.range_succ]
            rw [e1]
            have e2 : ((u0 :: ur).toArray.size == [Value.str w t].toArray.size) = decide (xs.length = 0) := by
              rw [Bool.eq_iff_iff, decide_eq_true_iff, beq_iff_eq]
              simp
              rw [← List.length_eq_zero_iff, ← List.length_eq_zero_iff]
              omega
            rw [e2]
          rw [e]
          exact ⟨.bl _, H, I, rfl, q⟩
/-! ### a standing is right, by its head -/
def head0 (x : Th) : Prop := match x.tup? with
  | some (y :: _) => y ≠ .dct
  | _ => True
theorem ok_none {R L Hd M : Int} {x : Th} (h : x.tup? = none) : okItemT R L Hd M x = false := by
  unfold okItemT numberedT leaveT sayT stopT itemT
  rw [h]
  rfl
theorem ok_nil {R L Hd M : Int} : okItemT R L Hd M (.tup []) = false := rfl
theorem ok_stop {R L Hd M : Int} {x0 : Th} (h : x0.str? = some "stop") : okItemT R L Hd M (.tup [x0]) = true := by
  have e : stopT (.tup [x0]) = true := by
    show (decide (((1 : Nat) : Int) = 1) && decide (x0.str? = some "stop")) = true
    rw [h]
    rfl
  unfold okItemT
  rw [e, Bool.or_true]
theorem item_len {k : Str} {n : Int} {xs : List Th} (h : (xs.length : Int) ≠ n) : itemT k n (.tup xs) = false := by
  show (decide ((xs.length : Int) = n) && headT k xs) = false
  rw [decide_eq_false h, Bool.false_and]
theorem item_head {k : Str} {n : Int} {x0 : Th} {xs : List Th} (h : x0.str? ≠ some k) : itemT k n (.tup (x0 :: xs)) = false := by
  show (decide _ && decide (x0.str? = some k)) = false
  rw [decide_eq_false h, Bool.and_false]
theorem ok_len {R L Hd M : Int} {x0 : Th} {xs : List Th} (h : ¬ (x0.str? = some "stop" ∧ xs.length = 0)) (l : xs.length ≠ 2) : okItemT R L Hd M (.tup (x0 :: xs)) = false := by
  have e3 : ∀ k, itemT k 3 (.tup (x0 :: xs)) = false := fun k => item_len (by rw [List.length_cons]; omega)
  have e1 : itemT "stop" 1 (.tup (x0 :: xs)) = false := by
    by_cases e : xs.length = 0
    · exact item_head fun z => h ⟨z, e⟩
    · exact item_len (by rw [List.length_cons]; omega)
  unfold okItemT numberedT leaveT sayT stopT
  rw [e3, e3, e3, e3, e1]
  rfl
theorem ok_nostr {R L Hd M : Int} {x0 : Th} {xs : List Th} (h : x0.str? = none) : okItemT R L Hd M (.tup (x0 :: xs)) = false := by
  have e : ∀ k n, itemT k n (.tup (x0 :: xs)) = false := fun k n => item_head (by rw [h]; exact fun z => nomatch z)
  unfold okItemT numberedT leaveT sayT stopT
  rw [e, e, e, e, e]
  rfl
theorem ok_three {R L Hd M : Int} {x0 x1 x2 : Th} {z : Str} (h : x0.str? = some z) : okItemT R L Hd M (.tup [x0, x1, x2]) =
    if z = "begin" then btwT 0 (R - 1) x1 && nextsT L M x2 else if z = "on" then btwT 0 (Hd - 1) x1 && nextsT L M x2 else if z = "leave" then btwT 0 (Hd - 1) x1 && btwT 0 (M - 1) x2 else decide (z = "say") && (wordO x1.str? && btwT 0 (M - 1) x2) := by
  have e : ∀ k, itemT k 3 (.tup [x0, x1, x2]) = decide (z = k) := fun k => by
    show (decide (((3 : Nat) : Int) = 3) && decide (x0.str? = some k)) = _
    rw [h, Bool.eq_iff_iff, decide_eq_true_iff]
    simp
  have e1 : itemT "stop" 1 (.tup [x0, x1, x2]) = false := item_len (by simp)
  unfold okItemT numberedT leaveT sayT stopT
  rw [e, e, e, e, e1]
  show (decide (z = "begin") && btwT 0 (R - 1) x1 && nextsT L M x2 || decide (z = "on") && btwT 0 (Hd - 1) x1 && nextsT L M x2 || decide (z = "leave") && btwT 0 (Hd - 1) x1 && btwT 0 (M - 1) x2 || decide (z = "say") && wordO x1.str? && btwT 0 (M - 1) x2 || false) = _
  have n1 : ("begin" : Str) ≠ "on" := by decide
  have n2 : ("begin" : Str) ≠ "leave" := by decide
  have n3 : ("begin" : Str) ≠ "say" := by decide
  have n4 : ("on" : Str) ≠ "leave" := by decide
  have n5 : ("on" : Str) ≠ "say" := by decide
  have n6 : ("leave" : Str) ≠ "say" := by decide
  by_cases c1 : z = "begin"
  · subst c1
    rw [if_pos rfl, decide_eq_true rfl, decide_eq_false n1, decide_eq_false n2, decide_eq_false n3]
    simp
  rw [if_neg c1, decide_eq_false c1]
  by_cases c2 : z = "on"
  · subst c2
    rw [if_pos rfl, decide_eq_true rfl, decide_eq_false n4, decide_eq_false n5]
    simp
  rw [if_neg c2, decide_eq_false c2]
  by_cases c3 : z = "leave"
  · subst c3
    rw [if_pos rfl, decide_eq_true rfl, decide_eq_false n6]
    simp
  rw [if_neg c3, decide_eq_false c3]
  simp [Bool.and_assoc]
/-! ### two lists of ints, == -/
def rEqLI : R2 := fun x y H Q => ∃ (a b : Addr) (ns ms : List Int), x = .ref a ∧ y = .ref b ∧ H a = some (.lst (ns.map V.int)) ∧ H b = some (.lst (ms.map V.int)) ∧ Q (.bl (decide (ns = ms))) H
theorem all_same {ns ms : List Int} (h : ns.length = ms.length) : ((List.range ns.length).all fun j => decide (ns[j]? = ms[j]?)) = decide (ns = ms) := by
  rw [Bool.eq_iff_iff, List.all_eq_true, decide_eq_true_iff]
  constructor
  · intro a
    apply List.ext_getElem?
    intro j
    by_cases hj : j < ns.length
    · exact of_decide_eq_true (a j (List.mem_range.mpr hj))
    · rw [List.getElem?_eq_none (by omega), List.getElem?_eq_none (by omega)]
  · rintro rfl j _
    exact decide_eq_true rfl
theorem op_eqLI {X : Cx} (hu : X.A.units + 64 < cLine) : OpR X (compareOp .Eq) rEqLI := by
  intro pins s σ H x y v u Q I rx ry h
  obtain ⟨a, b, ns, ms, rfl, rfl, ha, hb, q⟩ := h
  cases rx
  cases ry
  obtain ⟨its, rv, pl, hz⟩ := I.list (SqL.of ha)
  obtain ⟨its2, rv2, pl2, hz2⟩ := I.list (SqL.of hb)
  have i1 := ints_of_vals rv
  have i2 := ints_of_vals rv2
  have l1 : its.length = ns.length := i1.length
  have l2 : its2.length = ms.length := i2.length
  by_cases hl : ns.length = ms.length
  · refine SeqAt.eq_listAt (e := fun j => decide (ns[j]? = ms[j]?)) pl.isList pl2.isList (by rw [List.size_toArray, List.size_toArray]; omega) (by omega) (fun j h1 h2 => ?_) ?_
    · rw [List.size_toArray] at h1 h2
      obtain ⟨t, e1⟩ := i1.get j (ns[j]'(by omega)) (List.getElem?_eq_getElem _)
      obtain ⟨t', e2⟩ := i2.get j (ms[j]'(by omega)) (List.getElem?_eq_getElem _)
      have q1 : its.toArray[j] = .int (ns[j]'(by omega)) t := by
        have := (List.getElem?_eq_some_iff.mp e1).2
        simpa using this
      have q2 : its2.toArray[j] = .int (ms[j]'(by omega)) t' := by
        have := (List.getElem?_eq_some_iff.mp e2).2
        simpa using this
      rw [q1, q2, List.getElem?_eq_getElem (by omega), List.getElem?_eq_getElem (by omega)]
      have e : decide (some (ns[j]'(by omega)) = some (ms[j]'(by omega))) = ((ns[j]'(by omega)) == (ms[j]'(by omega))) := by
        rw [Bool.eq_iff_iff, decide_eq_true_iff, beq_iff_eq]
        exact ⟨fun e => Option.some.inj e, fun e => by rw [e]⟩
      rw [e]
      exact SeqAt.EqAt.int_int _ _ _ _
    · rw [List.size_toArray, l1, all_same hl]
      exact ⟨.bl _, H, I, rfl, q⟩
  · refine SeqAt.eq_list_lengthsAt pl.isList pl2.isList (by rw [List.size_toArray, List.size_toArray, bne_iff_ne]; omega) (by omega) ?_
    rw [decide_eq_false (fun e => hl (by rw [e]))] at q
    exact ⟨.bl false, H, I, rfl, q⟩
/-- a rising list of what a tuple holds is 0, 1, .. to the greatest just where the tuple holds all these -/
theorem sorted_seg {ns ss : List Int} {m : Int} {S : Int → Bool} (h0 : ∀ f, f ∈ ns → 0 ≤ f) (hm : m ∈ ns) (hx : ∀ y, y ∈ ns → y ≤ m) (hS : ∀ k, S k = decide (k ∈ ns)) (hp : ss.Pairwise (· < ·)) (hk : ∀ k : Int, k ∈ ss ↔ S k = true) : ss = uptoI (1 + m).toNat ↔ ∃ n, Seg ns n := by
  have hk2 : ∀ k, k ∈ ss ↔ k ∈ ns := fun k => by rw [hk k, hS k, decide_eq_true_iff]
  have m0 := h0 m hm
  constructor
  · intro e
    refine ⟨(1 + m).toNat, fun f hf => ⟨h0 f hf, by have := hx f hf; omega⟩, fun k hk3 => ?_⟩
    rw [← hk2, e, mem_uptoI]
    omega
  · rintro ⟨n, hr, ha⟩
    have e := seg_max ⟨hr, ha⟩ hm hx
    have en : n = (1 + m).toNat := by omega
    subst en
    have hu : (uptoI (1 + m).toNat).Pairwise (· < ·) := by
      unfold uptoI
      rw [List.pairwise_map]
      exact List.Pairwise.imp (fun h => by omega) List.pairwise_lt_range
    have mem : ∀ k, k ∈ ss ↔ k ∈ uptoI (1 + m).toNat := fun k => by
      rw [hk2, mem_uptoI]
      constructor
      · intro h
        have a := h0 k h
        have b := hx k h
        omega
      · rintro ⟨a, b⟩
        have q := ha k.toNat (by omega)
        rwa [Int.toNat_of_nonneg a] at q
    have lin : ∀ (xs ys : List Int), xs.Pairwise (· < ·) → ys.Pairwise (· < ·) → (∀ k, k ∈ xs ↔ k ∈ ys) → xs = ys := by
      intro xs
      induction xs with
      | nil =>
        intro ys _ _ h
        cases ys with
        | nil => rfl
        | cons b t => exact absurd ((h b).mpr (List.mem_cons_self ..)) (by simp)
      | cons a r ih =>
        intro ys hx hy h
        cases ys with
        | nil => exact absurd ((h a).mp (List.mem_cons_self ..)) (by simp)
        | cons b t =>
          have hx2 := List.pairwise_cons.mp hx
          have hy2 := List.pairwise_cons.mp hy
          have eab : a = b := by
            rcases List.mem_cons.mp ((h a).mp (List.mem_cons_self ..)) with e | e
            · exact e
            · rcases List.mem_cons.mp ((h b).mpr (List.mem_cons_self ..)) with e2 | e2
              · exact e2.symm
              · have := hy2.1 a e
                have := hx2.1 b e2
                omega
          subst eab
          rw [ih t hx2.2 hy2.2 fun k => ?_]
          constructor
          · intro hk
            rcases List.mem_cons.mp ((h k).mp (List.mem_cons_of_mem _ hk)) with e | e
            · have := hx2.1 k hk; omega
            · exact e
          · intro hk
            rcases List.mem_cons.mp ((h k).mpr (List.mem_cons_of_mem _ hk)) with e | e
            · have := hy2.1 k hk; omega
            · exact e
    exact lin _ _ hp hu mem
/-! ### which part of a program is wrong -/
def handsT (d : Th) : Int := match d.tup? with
  | some xs => ((xs.map fun x => x.int?.getD 0).foldl max 0) + 1
  | none => 0
theorem fold_max {m : Int} : ∀ {ns : List Int} {a : Int}, a ≤ m → (∀ y, y ∈ ns → y ≤ m) → (a = m ∨ m ∈ ns) → ns.foldl max a = m
  | [], a, _, _, h => by
    rcases h with h | h
    · exact h
    · cases h
  | b :: r, a, ha, hx, h => by
    rw [List.foldl_cons]
    have hb := hx b (List.mem_cons_self ..)
    refine fold_max (by omega) (fun y hy => hx y (List.mem_cons_of_mem _ hy)) ?_
    rcases h with h | h
    · exact .inl (by omega)
    · rcases List.mem_cons.mp h with h | h
      · exact .inl (by omega)
      · exact .inr h
theorem handsT_of {ns : List Int} {m : Int} (hm : m ∈ ns) (hx : ∀ y, y ∈ ns → y ≤ m) (m0 : 0 ≤ m) : handsT (.tup (ns.map .int)) = m + 1 := by
  show (((ns.map Th.int).map fun x => x.int?.getD 0).foldl max 0) + 1 = m + 1
  have e : ((ns.map Th.int).map fun x => x.int?.getD 0) = ns := by
    rw [List.map_map]
    exact List.map_id'' (fun _ => rfl) ns
  rw [e, fold_max m0 hx (.inr hm)]
open Classical in
noncomputable def wrongT (r l d dp t : Th) : Option Str :=
  if btwT 1 6 r = false then some "rows" else if btwT 1 3 l = false then some "letters" else
  if ¬ DealT (r.int?.getD 0) d then some "dealing" else if depthT (handsT d) dp = false then some "depth" else
  if tableT (r.int?.getD 0) (l.int?.getD 0) (handsT d) t = false then some "table" else none
theorem wrongT_rows {r l d dp t : Th} (h : btwT 1 6 r = false) : wrongT r l d dp t = some ("rows" : Str) := by unfold wrongT; rw [if_pos h]
theorem wrongT_letters {r l d dp t : Th} (h : btwT 1 6 r = true) (h2 : btwT 1 3 l = false) : wrongT r l d dp t = some ("letters" : Str) := by unfold wrongT; rw [if_neg (by rw [h]; decide), if_pos h2]
theorem wrongT_dealing {R L : Int} {d dp t : Th} (h : btwT 1 6 (.int R) = true) (h2 : btwT 1 3 (.int L) = true) (nd : ¬ DealT R d) : wrongT (.int R) (.int L) d dp t = some ("dealing" : Str) := by
  unfold wrongT
  rw [if_neg (by rw [h]; decide), if_neg (by rw [h2]; decide)]
  exact if_pos nd
theorem wrongT_rest {R L c : Int} {d dp t : Th} (h : btwT 1 6 (.int R) = true) (h2 : btwT 1 3 (.int L) = true) (nd : DealT R d) (hc : handsT d = c) : wrongT (.int R) (.int L) d dp t = if depthT c dp = false then some ("depth" : Str) else if tableT R L c t = false then some ("table" : Str) else none := by
  unfold wrongT
  rw [if_neg (by rw [h]; decide), if_neg (by rw [h2]; decide), hc]
  exact if_neg fun z => z nd
def heads0 (t : Th) : Prop := match t.tup? with
  | some xs => ∀ x, x ∈ xs → head0 x
  | none => True
theorem btw_int {lo hi : Int} {x : Th} (h : btwT lo hi x = true) : ∃ i, x = .int i ∧ lo ≤ i ∧ i ≤ hi := by
  cases x with
  | int i =>
    have h : (decide (lo ≤ i) && decide (i ≤ hi)) = true := h
    rw [Bool.and_eq_true] at h
    exact ⟨i, rfl, of_decide_eq_true h.1, of_decide_eq_true h.2⟩
  | _ => cases h
theorem seg_top {ns : List Int} {c : Nat} (h : Seg ns c) (h0 : 0 < ns.length) : 0 < c ∧ ((c : Int) - 1) ∈ ns ∧ ∀ y, y ∈ ns → y ≤ (c : Int) - 1 := by
  cases ns with
  | nil => cases h0
  | cons a r =>
    have := h.1 a (List.mem_cons_self ..)
    have c0 : 0 < c := by omega
    have e : ((c - 1 : Nat) : Int) = (c : Int) - 1 := by omega
    refine ⟨c0, by rw [← e]; exact h.2 (c - 1) (by omega), fun y hy => by have := h.1 y hy; omega⟩
def optV : Option Str → V
  | some s => .str s
  | none => .non
end L2

set_option maxRecDepth 100000
set_option maxHeartbeats 4000000
namespace Dv
open PySem PySem.Spec PyProof.Rows L2
/-! ### values without addresses: tuples are their items, lists and the like are cells of a memory -/
inductive D where
  | non | bl (b : Bool) | int (i : Int) | str (z : Str) | tup (xs : List D) | cell (n : Nat) | scr (ns : List Int) | ty (n : String) | cref (a : Addr)
inductive C where
  | lst (xs : List D) | dK (kvs : List (L2.Key × D)) | ins (c : Addr) (fs : List (Str × D)) | set (ks : List Int)
abbrev Mem := List C
structure Exn where
  c : Addr
  fs : Option (List (Str × D))
/-- the written part, the world; within an except suite: the slot of its name, the exception's address, its dict, what it is -/
structure KW where
  K : PySem.W.Frag
  w : World
  xa : Option (Nat × Addr × Option Addr × Exn) := none
instance : Coe KW PySem.W.Frag := ⟨KW.K⟩
inductive R (α : Type) where
  | ok (a : α) (μ : Mem) | ex (x : Exn) (μ : Mem) | no
def R.bind {α β : Type} (r : R α) (k : α → Mem → R β) : R β := match r with
  | .ok a μ => k a μ
  | .ex x μ => .ex x μ
  | .no => .no
@[simp] theorem bind_ok {α β : Type} {a : α} {μ : Mem} {k : α → Mem → R β} : (R.ok a μ).bind k = k a μ := rfl
@[simp] theorem bind_ex {α β : Type} {x : Exn} {μ : Mem} {k : α → Mem → R β} : (R.ex x μ : R α).bind k = .ex x μ := rfl
@[simp] theorem bind_no {α β : Type} {k : α → Mem → R β} : (R.no : R α).bind k = .no := rfl

/-- a text as it may stand -/
def StrV (z : Str) : Prop := z.length ≤ sizeLine ∧ PyData.canLay0 (.str z) = true
instance (z : Str) : Decidable (StrV z) := by unfold StrV; exact inferInstance
/-- a list that is never written: the script -/
def Fz (K : KW) (H : Hp) (a : Addr) (xs : List V) : Prop := (∃ o, H a = some (.frz o (.lst xs))) ∨
    ∃ (o : Obj) (its : Array Value) (n : Nat), K.K.lookup a = some o ∧ o.cls = .type "list" ∧ o.dict = none ∧ o.data = .seq its n ∧ its.size ≤ sizeLine ∧ Vals xs its.toList
theorem Fz.sq {K : KW} {H : Hp} {a : Addr} {xs : List V} (h : Fz K H a xs) : SqL K H a xs := by
  rcases h with h | h
  · exact .inl (.inr h)
  · exact .inr h
section
variable (K : KW) (ρ : List Addr) (H : Hp)
mutual
inductive RV : V → D → Prop where
  | non : RV .non .non
  | bl (b : Bool) : RV (.bl b) (.bl b)
  | int (i : Int) : RV (.int i) (.int i)
  | str {z : Str} (h : StrV z) : RV (.str z) (.str z)
  | ty (n : String) : RV (.ty n) (.ty n)
  | cref (a : Addr) : RV (.ref a) (.cref a)
  | tup {a : Addr} {vs : List V} {ds : List D} (h : SqT K H a vs) (r : RVs vs ds) : RV (.ref a) (.tup ds)
  | cell {n : Nat} {a : Addr} (h : ρ[n]? = some a) : RV (.ref a) (.cell n)
  | scr {a : Addr} {ns : List Int} (h : Fz K H a (ns.map V.int)) : RV (.ref a) (.scr ns)
inductive RVs : List V → List D → Prop where
  | nil : RVs [] []
  | cons {v : V} {d : D} {vs : List V} {ds : List D} (h : RV v d) (r : RVs vs ds) : RVs (v :: vs) (d :: ds)
end
/-- pairs of a name, or a key, and a value -/
inductive RF {κ : Type} : List (κ × V) → List (κ × D) → Prop where
  | nil : RF [] []
  | cons {k : κ} {v : V} {d : D} {vs : List (κ × V)} {ds : List (κ × D)} (h : RV K ρ H v d) (r : RF vs ds) : RF ((k, v) :: vs) ((k, d) :: ds)
def RC (a : Addr) : C → Prop
  | .lst ds => ∃ vs, H a = some (.lst vs) ∧ RVs K ρ H vs ds
  | .dK kvs => ∃ vs, H a = some (.dK vs) ∧ RF K ρ H vs kvs
  | .ins c fs => ∃ dx vs, H a = some (.ins c dx vs) ∧ RF K ρ H vs fs
  | .set ks => ∃ S, H a = some (SetO K.w a S ks.length) ∧ ks.Nodup ∧ ∀ k, S k = true ↔ k ∈ ks
structure Rep (μ : Mem) : Prop where
  len : ρ.length = μ.length
  nd : ρ.Nodup
  at_ : ∀ (n : Nat) (c : C), μ[n]? = some c → ∃ a, ρ[n]? = some a ∧ RC K ρ H a c
end
structure Ext (K : KW) (ρ : List Addr) (H : Hp) (ρ' : List Addr) (H' : Hp) : Prop where
  pre : ∃ t, ρ' = ρ ++ t
  tup : ∀ a vs, SqT K H a vs → SqT K H' a vs
  fz : ∀ a vs, Fz K H a vs → Fz K H' a vs
  xd : ∀ a vs, H a = some (.xd vs) → H' a = some (.xd vs)
section
variable {K : KW} {ρ ρ' ρ1 : List Addr} {H H' H1 : Hp} {μ : Mem}
theorem Ext.refl : Ext K ρ H ρ H := ⟨⟨[], by simp⟩, fun _ _ h => h, fun _ _ h => h, fun _ _ h => h⟩
theorem Ext.trans (a : Ext K ρ H ρ1 H1) (b : Ext K ρ1 H1 ρ' H') : Ext K ρ H ρ' H' := by
  obtain ⟨s, e1⟩ := a.pre
  obtain ⟨t, e2⟩ := b.pre
  exact ⟨⟨s ++ t, by rw [e2, e1, List.append_assoc]⟩, fun _ _ h => b.tup _ _ (a.tup _ _ h), fun _ _ h => b.fz _ _ (a.fz _ _ h), fun _ _ h => b.xd _ _ (a.xd _ _ h)⟩
theorem Ext.get (e : Ext K ρ H ρ' H') {n : Nat} {a : Addr} (h : ρ[n]? = some a) : ρ'[n]? = some a := by
  obtain ⟨t, rfl⟩ := e.pre
  rw [List.getElem?_append_left (List.getElem?_eq_some_iff.mp h).1]
  exact h
mutual
theorem RV.ext (e : Ext K ρ H ρ' H') {v : V} {d : D} (h : RV K ρ H v d) : RV K ρ' H' v d := by
  cases h with
  | non => exact .non
  | bl b => exact .bl b
  | int i => exact .int i
  | str h => exact .str h
  | tup h r => exact .tup (e.tup _ _ h) (r.ext e)
  | cell h => exact .cell (e.get h)
  | scr h => exact .scr (e.fz _ _ h)
  | ty n => exact .ty n
  | cref a => exact .cref a
theorem RVs.ext (e : Ext K ρ H ρ' H') {vs : List V} {ds : List D} (h : RVs K ρ H vs ds) : RVs K ρ' H' vs ds := by
  cases h with
  | nil => exact .nil
  | cons h r => exact .cons (h.ext e) (r.ext e)
end
theorem RF.ext {κ : Type} (e : Ext K ρ H ρ' H') {vs : List (κ × V)} {ds : List (κ × D)} (h : RF K ρ H vs ds) : RF K ρ' H' vs ds := by
  induction h with
  | nil => exact .nil
  | cons h _ ih => exact .cons (h.ext e) ih
theorem RVs.len {vs : List V} {ds : List D} (h : RVs K ρ H vs ds) : vs.length = ds.length := by
  induction vs generalizing ds with
  | nil => cases h; rfl
  | cons v vs ih => cases h with | cons a r => simp [ih r]
theorem RVs.get {vs : List V} {ds : List D} (h : RVs K ρ H vs ds) : ∀ {i : Nat} {d : D}, ds[i]? = some d → ∃ v, vs[i]? = some v ∧ RV K ρ H v d := by
  induction vs generalizing ds with
  | nil => cases h; intro i d e; simp at e
  | cons v vs ih =>
    cases h with
    | cons a r =>
      intro i d e
      cases i with
      | zero => simp at e; subst e; exact ⟨_, rfl, a⟩
      | succ i => simpa using ih r (by simpa using e)
theorem RVs.get' {vs : List V} {ds : List D} (h : RVs K ρ H vs ds) : ∀ {i : Nat} {v : V}, vs[i]? = some v → ∃ d, ds[i]? = some d ∧ RV K ρ H v d := by
  induction vs generalizing ds with
  | nil => cases h; intro i d e; simp at e
  | cons v vs ih =>
    cases h with
    | cons a r =>
      intro i d e
      cases i with
      | zero => simp at e; subst e; exact ⟨_, rfl, a⟩
      | succ i => simpa using ih r (by simpa using e)
theorem RVs.app {vs ws : List V} {ds es : List D} (h : RVs K ρ H vs ds) (k : RVs K ρ H ws es) : RVs K ρ H (vs ++ ws) (ds ++ es) := by
  induction vs generalizing ds with
  | nil => cases h; exact k
  | cons v vs ih => cases h with | cons a r => exact .cons a (ih r)
theorem RVs.take {vs : List V} {ds : List D} (h : RVs K ρ H vs ds) (n : Nat) : RVs K ρ H (vs.take n) (ds.take n) := by
  induction vs generalizing ds n with
  | nil => cases h; simp; exact .nil
  | cons v vs ih =>
    cases h with
    | cons a r =>
      cases n with
      | zero => simp; exact .nil
      | succ n => simp; exact .cons a (ih r n)
theorem RVs.drop {vs : List V} {ds : List D} (h : RVs K ρ H vs ds) (n : Nat) : RVs K ρ H (vs.drop n) (ds.drop n) := by
  induction vs generalizing ds n with
  | nil => cases h; simp; exact .nil
  | cons v vs ih =>
    cases h with
    | cons a r =>
      cases n with
      | zero => exact .cons a r
      | succ n => simp; exact ih r n
theorem RVs.eraseIdx {vs : List V} {ds : List D} (h : RVs K ρ H vs ds) (n : Nat) : RVs K ρ H (vs.eraseIdx n) (ds.eraseIdx n) := by
  induction vs generalizing ds n with
  | nil => cases h; simp; exact .nil
  | cons v vs ih =>
    cases h with
    | cons a r =>
      cases n with
      | zero => exact r
      | succ n => simp; exact .cons a (ih r n)
theorem RVs.set {vs : List V} {ds : List D} (h : RVs K ρ H vs ds) {v : V} {d : D} (r : RV K ρ H v d) (n : Nat) : RVs K ρ H (vs.set n v) (ds.set n d) := by
  induction vs generalizing ds n with
  | nil => cases h; simp; exact .nil
  | cons v vs ih =>
    cases h with
    | cons a q =>
      cases n with
      | zero => exact .cons r q
      | succ n => simp; exact .cons a (ih q n)
theorem RVs.ints {ns : List Int} : RVs K ρ H (ns.map V.int) (ns.map D.int) := by
  induction ns with
  | nil => exact .nil
  | cons n ns ih => exact .cons (.int n) ih
theorem RVs.intsV {vs : List V} {ns : List Int} (h : RVs K ρ H vs (ns.map D.int)) : vs = ns.map V.int := by
  induction ns generalizing vs with
  | nil => cases h; rfl
  | cons n ns ih => cases h with | cons a r => cases a; rw [ih r]; rfl
theorem RVs.bls {vs : List V} {bs : List Bool} (h : RVs K ρ H vs (bs.map D.bl)) : vs = bs.map V.bl := by
  induction bs generalizing vs with
  | nil => cases h; rfl
  | cons n ns ih => cases h with | cons a r => cases a; rw [ih r]; rfl
theorem RC.ext_same (e : Ext K ρ H ρ' H') {a : Addr} (hs : H' a = H a) {c : C} (h : RC K ρ H a c) : RC K ρ' H' a c := by
  cases c with
  | lst ds => obtain ⟨vs, h1, h2⟩ := h; exact ⟨vs, hs.trans h1, h2.ext e⟩
  | dK kvs => obtain ⟨vs, h1, h2⟩ := h; exact ⟨vs, hs.trans h1, h2.ext e⟩
  | ins c fs => obtain ⟨dx, vs, h1, h2⟩ := h; exact ⟨dx, vs, hs.trans h1, h2.ext e⟩
  | set ks => obtain ⟨S, h1, h2⟩ := h; exact ⟨S, hs.trans h1, h2⟩
theorem RC.there {a : Addr} {c : C} (h : RC K ρ H a c) : H a ≠ none := by
  intro z
  cases c with
  | lst ds => obtain ⟨vs, h1, h2⟩ := h; rw [z] at h1; cases h1
  | dK kvs => obtain ⟨vs, h1, h2⟩ := h; rw [z] at h1; cases h1
  | ins c fs => obtain ⟨dx, vs, h1, h2⟩ := h; rw [z] at h1; cases h1
  | set ks => obtain ⟨S, h1, h2⟩ := h; rw [z] at h1; cases h1
theorem Rep.get (rp : Rep K ρ H μ) {n : Nat} {a : Addr} (h : ρ[n]? = some a) {c : C} (hc : μ[n]? = some c) : RC K ρ H a c := by
  obtain ⟨b, h1, h2⟩ := rp.at_ n c hc
  rw [h] at h1
  cases h1
  exact h2
theorem Rep.there (rp : Rep K ρ H μ) {a : Addr} (h : a ∈ ρ) : H a ≠ none := by
  obtain ⟨n, hn, e⟩ := List.getElem_of_mem h
  have hn2 : n < μ.length := by rw [← rp.len]; exact hn
  obtain ⟨b, h1, h2⟩ := rp.at_ n _ (List.getElem?_eq_getElem hn2)
  rw [List.getElem?_eq_getElem hn, e] at h1
  cases h1
  exact h2.there
/-- what is written there may be written over -/
def Wr (o : Option HO) : Prop := (∀ xs, o ≠ some (.tup xs) ∧ ∀ f u, o ≠ some (.frz f u)) ∧ ∀ ys, o ≠ some (.xd ys)
theorem ext_upd (ρ : List Addr) {p : Addr} {o : HO} (w : Wr (H p)) : Ext K ρ H ρ (upd H p o) := by
  refine ⟨⟨[], by simp⟩, fun a vs h => ?_, fun a vs h => ?_, fun a vs h => ?_⟩
  · rcases h with (h | ⟨f, h⟩) | h
    · refine .inl (.inl ?_)
      rw [upd_ne]
      · exact h
      · rintro rfl; exact (w.1 vs).1 h
    · refine .inl (.inr ⟨f, ?_⟩)
      rw [upd_ne]
      · exact h
      · rintro rfl; exact (w.1 vs).2 _ _ h
    · exact .inr h
  · rcases h with ⟨f, h⟩ | h
    · refine .inl ⟨f, ?_⟩
      rw [upd_ne]
      · exact h
      · rintro rfl; exact (w.1 vs).2 _ _ h
    · exact .inr h
  · rw [upd_ne]
    · exact h
    · rintro rfl; exact w.2 vs h
theorem Wr.none {o : Option HO} (h : o = Option.none) : Wr o := ⟨fun xs => by subst h; exact ⟨fun z => (by cases z), fun _ _ z => by cases z⟩, fun ys => by subst h; exact fun z => by cases z⟩
theorem Wr.lst {o : Option HO} {ys : List V} (h : o = some (.lst ys)) : Wr o := ⟨fun xs => by subst h; exact ⟨fun z => (by cases z), fun _ _ z => by cases z⟩, fun ys => by subst h; exact fun z => by cases z⟩
theorem Wr.dK {o : Option HO} {ys : List (L2.Key × V)} (h : o = some (.dK ys)) : Wr o := ⟨fun xs => by subst h; exact ⟨fun z => (by cases z), fun _ _ z => by cases z⟩, fun ys => by subst h; exact fun z => by cases z⟩
theorem Wr.ins {o : Option HO} {c dx : Addr} {ys : List (Str × V)} (h : o = some (.ins c dx ys)) : Wr o := ⟨fun xs => by subst h; exact ⟨fun z => (by cases z), fun _ _ z => by cases z⟩, fun ys => by subst h; exact fun z => by cases z⟩
/-- a new object that is no cell (a tuple) -/
theorem Rep.side (rp : Rep K ρ H μ) {p : Addr} {o : HO} (hp : H p = none) : Rep K ρ (upd H p o) μ :=
  ⟨rp.len, rp.nd, fun n c h => by
    obtain ⟨a, h1, h2⟩ := rp.at_ n c h
    refine ⟨a, h1, h2.ext_same (ext_upd ρ (Wr.none hp)) (upd_ne ?_)⟩
    rintro rfl
    exact h2.there hp⟩
/-- a new cell -/
theorem Rep.new (rp : Rep K ρ H μ) {p : Addr} {o : HO} (hp : H p = none) {c : C} (hc : RC K (ρ ++ [p]) (upd H p o) p c) : Rep K (ρ ++ [p]) (upd H p o) (μ ++ [c]) := by
  have e : Ext K ρ H (ρ ++ [p]) (upd H p o) := by
    have e0 := ext_upd (K := K) ρ (o := o) (Wr.none hp)
    exact ⟨⟨[p], rfl⟩, e0.tup, e0.fz, e0.xd⟩
  refine ⟨by simp [rp.len], ?_, fun n c' h => ?_⟩
  · rw [List.nodup_append]
    refine ⟨rp.nd, by simp, fun a ha b hb => ?_⟩
    simp at hb
    subst hb
    rintro rfl
    exact rp.there ha hp
  · by_cases hn : n < μ.length
    · rw [List.getElem?_append_left hn] at h
      obtain ⟨a, h1, h2⟩ := rp.at_ n c' h
      refine ⟨a, e.get h1, h2.ext_same e (upd_ne ?_)⟩
      rintro rfl
      exact h2.there hp
    · have hl : n = μ.length := by
        have := (List.getElem?_eq_some_iff.mp h).1
        simp at this
        omega
      subst hl
      simp at h
      subst h
      exact ⟨p, by rw [← rp.len]; simp, hc⟩
theorem ext_new (ρ : List Addr) {p : Addr} {o : HO} (hp : H p = none) : Ext K ρ H (ρ ++ [p]) (upd H p o) := by
  have e0 := ext_upd (K := K) ρ (o := o) (Wr.none hp)
  exact ⟨⟨[p], rfl⟩, e0.tup, e0.fz, e0.xd⟩
/-- a cell is written -/
theorem Rep.write (rp : Rep K ρ H μ) {n : Nat} {a : Addr} {o : HO} (h : ρ[n]? = some a) (w : Wr (H a)) {c : C} (hc : RC K ρ (upd H a o) a c) : Rep K ρ (upd H a o) (μ.set n c) := by
  refine ⟨by simp [rp.len], rp.nd, fun m c' hm => ?_⟩
  rw [List.getElem?_set] at hm
  by_cases e : n = m
  · subst e
    rw [if_pos rfl] at hm
    split at hm
    · cases hm
      exact ⟨a, h, hc⟩
    · cases hm
  · rw [if_neg e] at hm
    obtain ⟨b, h1, h2⟩ := rp.at_ m c' hm
    refine ⟨b, h1, h2.ext_same (ext_upd ρ w) (upd_ne ?_)⟩
    rintro rfl
    have i1 := List.getElem?_eq_some_iff.mp h
    have i2 := List.getElem?_eq_some_iff.mp h1
    exact e ((List.getElem_inj rp.nd).mp (i1.2.trans i2.2.symm))
end

/-! ### what is wanted of an outcome -/
/-- an exception's class and its dict, where it has one -/
def RX (K : KW) (ρ : List Addr) (H : Hp) (c : Value) (d : Option Addr) (x : Exn) : Prop := c = .ref x.c ∧ match x.fs with
  | none => d = none
  | some fs => ∃ dx vs, d = some dx ∧ H dx = some (.xd vs) ∧ RF K ρ H vs fs
theorem RF.ext' {κ : Type} {K : KW} {ρ ρ' : List Addr} {H H' : Hp} (e : Ext K ρ H ρ' H') {vs : List (κ × V)} {ds : List (κ × D)} (h : RF K ρ H vs ds) : RF K ρ' H' vs ds := h.ext e
theorem RX.ext {K : KW} {ρ ρ' : List Addr} {H H' : Hp} {c : Value} {d : Option Addr} {x : Exn} (e : Ext K ρ H ρ' H') (h : RX K ρ H c d x) : RX K ρ' H' c d x := by
  refine ⟨h.1, ?_⟩
  have h2 := h.2
  cases hx : x.fs with
  | none => rw [hx] at h2; exact h2
  | some fs =>
    rw [hx] at h2
    obtain ⟨dx, vs, a, b, r⟩ := h2
    exact ⟨dx, vs, a, e.xd _ _ b, r.ext e⟩
/-- of an outcome, R telling how values are held -/
def Pa {α β : Type} (K : KW) (rel : List Addr → Hp → β → α → Prop) (r : R α) (ρ : List Addr) (H : Hp) (Q : β → Hp → Prop) (E : XK) : Prop := match r with
  | .ok d μ => ∀ ρ' H' v, Ext K ρ H ρ' H' → Rep K ρ' H' μ → rel ρ' H' v d → Q v H'
  | .ex x μ => ∀ ρ' H' c d, Ext K ρ H ρ' H' → Rep K ρ' H' μ → RX K ρ' H' c d x → E c d H'
  | .no => False
abbrev Pd (K : KW) (r : R D) (ρ : List Addr) (H : Hp) (Q : VK) (E : XK) : Prop := Pa K (RV K) r ρ H Q E
abbrev Pds (K : KW) (r : R (List D)) (ρ : List Addr) (H : Hp) (Q : List V → Hp → Prop) (E : XK) : Prop := Pa K (RVs K) r ρ H Q E
abbrev Pb (K : KW) (r : R Bool) (ρ : List Addr) (H : Hp) (Q : Bool → Hp → Prop) (E : XK) : Prop := Pa K (fun _ _ (v : Bool) (d : Bool) => v = d) r ρ H Q E
section
variable {K : KW} {ρ ρ' : List Addr} {H H' : Hp} {α β : Type} {rel : List Addr → Hp → β → α → Prop} {E : XK}
theorem Pa.mono {r : R α} {Q : β → Hp → Prop} (e : Ext K ρ H ρ' H') (h : Pa K rel r ρ H Q E) : Pa K rel r ρ' H' Q E := by
  cases r with
  | ok d μ => exact fun ρ1 H1 v e1 => h ρ1 H1 v (e.trans e1)
  | ex x μ => exact fun ρ1 H1 c d e1 => h ρ1 H1 c d (e.trans e1)
  | no => exact h
theorem Pa.imp {r : R α} {Q Q' : β → Hp → Prop} {E' : XK} (h : Pa K rel r ρ H Q E) (i : ∀ v H', Q v H' → Q' v H') (j : ∀ c d H', E c d H' → E' c d H') : Pa K rel r ρ H Q' E' := by
  cases r with
  | ok d μ => exact fun ρ1 H1 v e1 r1 r2 => i _ _ (h ρ1 H1 v e1 r1 r2)
  | ex x μ => exact fun ρ1 H1 c d e1 r1 r2 => j _ _ _ (h ρ1 H1 c d e1 r1 r2)
  | no => exact h
/-- one outcome behind another -/
theorem Pa.bind {γ δ : Type} {rel2 : List Addr → Hp → δ → γ → Prop} {r : R α} {k : α → Mem → R γ} {Q : δ → Hp → Prop} (h : Pa K rel2 (r.bind k) ρ H Q E) :
    Pa K rel r ρ H (fun v H1 => ∃ ρ1 d μ, Ext K ρ H ρ1 H1 ∧ Rep K ρ1 H1 μ ∧ rel ρ1 H1 v d ∧ Pa K rel2 (k d μ) ρ1 H1 Q E) E := by
  cases r with
  | ok d μ => exact fun ρ1 H1 v e1 r1 r2 => ⟨ρ1, d, μ, e1, r1, r2, Pa.mono e1 h⟩
  | ex x μ => exact h
  | no => exact h
end
end Dv

set_option maxRecDepth 100000
set_option maxHeartbeats 4000000
namespace Dv
open PySem PySem.Spec PyProof.Rows L2
/-! ### expressions as functions of slots and memory -/
abbrev Env := List (Option D)
abbrev F := Env → Mem → R D
abbrev FA := Env → Mem → R (List D)
abbrev FB := Env → Mem → R Bool
abbrev FO := Env → Mem → R (Option Int)
structure EnvR (K : KW) (ρ : List Addr) (H : Hp) (σ : L2.St) (env : Env) : Prop where
  len : env.length = σ.length
  at_ : ∀ (i : Nat) (d : D), env[i]? = some (some d) → ∃ v, σ[i]? = some (some v) ∧ RV K ρ H v d
/-- the exception that is handled -/
def XaOk (K : KW) (ρ : List Addr) (H : Hp) (σ : L2.St) : Prop := ∀ i a d x, K.xa = some (i, a, d, x) → σ[i]? = some (some (.ref a)) ∧ RX K ρ H (.ref x.c) d x
structure At (K : KW) (ρ : List Addr) (H : Hp) (μ : Mem) (σ : L2.St) (env : Env) : Prop where
  rp : Rep K ρ H μ
  en : EnvR K ρ H σ env
  xa : XaOk K ρ H σ
/-- a slot that is not the handled exception's -/
def Fr (K : KW) (i : Nat) : Prop := ∀ a d x, K.xa ≠ some (i, a, d, x)
theorem XaOk.set {K : KW} {ρ : List Addr} {H : Hp} {σ : L2.St} (h : XaOk K ρ H σ) {i : Nat} (hf : Fr K i) (v : Option V) : XaOk K ρ H (σ.set i v) := fun j a d x e => by
  obtain ⟨h1, h2⟩ := h j a d x e
  refine ⟨?_, h2⟩
  rw [List.getElem?_set_ne]
  · exact h1
  · rintro rfl; exact hf _ _ _ e
theorem XaOk.ext {K : KW} {ρ ρ' : List Addr} {H H' : Hp} {σ : L2.St} (e : Ext K ρ H ρ' H') (h : XaOk K ρ H σ) : XaOk K ρ' H' σ := fun j a d x q => ⟨(h j a d x q).1, (h j a d x q).2.ext e⟩
section
variable {K : KW} {ρ ρ' : List Addr} {H H' : Hp} {μ μ' : Mem} {σ : L2.St} {env : Env}
theorem EnvR.ext (e : Ext K ρ H ρ' H') (h : EnvR K ρ H σ env) : EnvR K ρ' H' σ env :=
  ⟨h.len, fun i d q => let ⟨v, a, b⟩ := h.at_ i d q; ⟨v, a, b.ext e⟩⟩
theorem EnvR.set (h : EnvR K ρ H σ env) {v : V} {d : D} (r : RV K ρ H v d) (i : Nat) : EnvR K ρ H (σ.set i (some v)) (env.set i (some d)) := by
  refine ⟨by simp [h.len], fun j e q => ?_⟩
  rw [List.getElem?_set] at q
  by_cases z : i = j
  · subst z
    rw [if_pos rfl] at q
    split at q
    · cases q
      exact ⟨v, by rw [List.getElem?_set_self (by rw [← h.len]; assumption)], r⟩
    · cases q
  · rw [if_neg z] at q
    obtain ⟨w, a, b⟩ := h.at_ j e q
    exact ⟨w, by rw [List.getElem?_set_ne z]; exact a, b⟩
theorem At.ext (a : At K ρ H μ σ env) (e : Ext K ρ H ρ' H') (r : Rep K ρ' H' μ') : At K ρ' H' μ' σ env := ⟨r, a.en.ext e, a.xa.ext e⟩
end
def TEf (K : KW) (W : WX) (te : TE) (f : F) : Prop := ∀ (σ : L2.St) (H : Hp) (Q : VK) (env : Env) (μ : Mem) (ρ : List Addr), At K ρ H μ σ env → Pd K (f env μ) ρ H Q (fun c d H' => W c d σ H') → te σ H Q
def TAf (K : KW) (W : WX) (ta : TA) (f : FA) : Prop := ∀ (σ : L2.St) (H : Hp) (Q : List V → Hp → Prop) (env : Env) (μ : Mem) (ρ : List Addr), At K ρ H μ σ env → Pds K (f env μ) ρ H Q (fun c d H' => W c d σ H') → ta σ H Q
def TBf (K : KW) (W : WX) (tt : TT) (f : FB) : Prop := ∀ (σ : L2.St) (H : Hp) (Q : Bool → Hp → Prop) (env : Env) (μ : Mem) (ρ : List Addr), At K ρ H μ σ env → Pb K (f env μ) ρ H Q (fun c d H' => W c d σ H') → tt σ H Q
def TOf (K : KW) (W : WX) (to : TO) (f : FO) : Prop := ∀ (σ : L2.St) (H : Hp) (Q : Option Int → Hp → Prop) (env : Env) (μ : Mem) (ρ : List Addr), At K ρ H μ σ env → Pa K (fun _ _ (v : Option Int) (d : Option Int) => v = d) (f env μ) ρ H Q (fun c d H' => W c d σ H') → to σ H Q
/-- rules on values -/
def R2f (K : KW) (r : R2) (g : D → D → Mem → R D) : Prop := ∀ (x y : V) (a b : D) (μ : Mem) (ρ : List Addr) (H : Hp) (Q : VK) (E : XK), Rep K ρ H μ → RV K ρ H x a → RV K ρ H y b → Pd K (g a b μ) ρ H Q E → r x y H Q
def R1f (K : KW) (r : V → Hp → VK → Prop) (g : D → Mem → R D) : Prop := ∀ (x : V) (a : D) (μ : Mem) (ρ : List Addr) (H : Hp) (Q : VK) (E : XK), Rep K ρ H μ → RV K ρ H x a → Pd K (g a μ) ρ H Q E → r x H Q
def RLf (K : KW) (r : List V → Hp → VK → Prop) (g : List D → Mem → R D) : Prop := ∀ (xs : List V) (ds : List D) (μ : Mem) (ρ : List Addr) (H : Hp) (Q : VK) (E : XK), Rep K ρ H μ → RVs K ρ H xs ds → Pd K (g ds μ) ρ H Q E → r xs H Q
def RMf (K : KW) (T : String) (r : V → List V → Hp → VK → Prop) (g : D → List D → Mem → R D) : Prop := ∀ (x : V) (a : D) (xs : List V) (ds : List D) (μ : Mem) (ρ : List Addr) (H : Hp) (Q : VK) (E : XK), Rep K ρ H μ → RV K ρ H x a → RVs K ρ H xs ds → Pd K (g a ds μ) ρ H Q E → r x xs H Q
def RSf (K : KW) (r : V → Option Int → Option Int → Hp → VK → Prop) (g : D → Option Int → Option Int → Mem → R D) : Prop := ∀ (x : V) (a : D) (lo hi : Option Int) (μ : Mem) (ρ : List Addr) (H : Hp) (Q : VK) (E : XK), Rep K ρ H μ → RV K ρ H x a → Pd K (g a lo hi μ) ρ H Q E → r x lo hi H Q
/-- what a callee does: its promise by its function -/
def spD (K : KW) (n : Nat) (g : List D → Mem → R D) : Sp := fun vs H Q E => ∃ (ρ : List Addr) (μ : Mem) (ds : List D), Rep K ρ H μ ∧ RVs K ρ H vs ds ∧ ds.length = n ∧ Pd K (g ds μ) ρ H Q E

def fVar (i : Nat) : F := fun env μ => match env[i]? with
  | some (some d) => .ok d μ
  | _ => .no
def fCon (d : D) : F := fun _ μ => .ok d μ
def fOp (g : D → D → Mem → R D) (f1 f2 : F) : F := fun env μ => (f1 env μ).bind fun x μ1 => (f2 env μ1).bind fun y μ2 => g x y μ2
def fUn (g : D → Mem → R D) (f1 : F) : F := fun env μ => (f1 env μ).bind fun x μ1 => g x μ1
def fChain (g h : D → D → Mem → R D) (f1 f2 f3 : F) : F := fun env μ => (f1 env μ).bind fun x μ1 => (f2 env μ1).bind fun y μ2 => (g x y μ2).bind fun z μ3 => match z with
  | .bl b => if b = true then (f3 env μ3).bind fun w μ4 => h y w μ4 else .ok (.bl false) μ3
  | _ => .no
def fAnd (f1 f2 : F) : F := fun env μ => (f1 env μ).bind fun x μ1 => match x with
  | .bl b => if b = true then f2 env μ1 else .ok (.bl false) μ1
  | _ => .no
def fOr (f1 f2 : F) : F := fun env μ => (f1 env μ).bind fun x μ1 => match x with
  | .bl b => if b = true then .ok (.bl true) μ1 else f2 env μ1
  | _ => .no
def fNot (f1 : F) : F := fun env μ => (f1 env μ).bind fun x μ1 => match x with
  | .bl b => .ok (.bl (!b)) μ1
  | _ => .no
def fIf (c : FB) (f1 f2 : F) : F := fun env μ => (c env μ).bind fun b μ1 => if b = true then f1 env μ1 else f2 env μ1
def bTest (f1 : F) : FB := fun env μ => (f1 env μ).bind fun x μ1 => match x with
  | .bl b => .ok b μ1
  | _ => .no
def bAnd (c1 c2 : FB) : FB := fun env μ => (c1 env μ).bind fun b μ1 => if b = true then c2 env μ1 else .ok false μ1
def bOr (c1 c2 : FB) : FB := fun env μ => (c1 env μ).bind fun b μ1 => if b = true then .ok true μ1 else c2 env μ1
def bNot (c1 : FB) : FB := fun env μ => (c1 env μ).bind fun b μ1 => .ok (!b) μ1
def truD : D → Mem → R Bool
  | .non, μ => .ok false μ
  | .bl b, μ => .ok b μ
  | .int i, μ => .ok (i != 0) μ
  | .str z, μ => .ok ((z.length : Int) != 0) μ
  | .tup xs, μ => .ok (!xs.isEmpty) μ
  | .cell n, μ => match μ[n]? with
    | some (.lst xs) => .ok (!xs.isEmpty) μ
    | some (.dK kvs) => .ok (!kvs.isEmpty) μ
    | _ => .no
  | .scr ns, μ => .ok (!ns.isEmpty) μ
  | .ty _, _ => .no
  | .cref _, _ => .no
def bTru (f1 : F) : FB := fun env μ => (f1 env μ).bind truD
def aNil : FA := fun _ μ => .ok [] μ
def aCons (f : F) (fs : FA) : FA := fun env μ => (f env μ).bind fun x μ1 => (fs env μ1).bind fun xs μ2 => .ok (x :: xs) μ2
def fTup (fs : FA) : F := fun env μ => (fs env μ).bind fun xs μ1 => if xs.length ≤ sizeLine then .ok (.tup xs) μ1 else .no
def fLst (fs : FA) : F := fun env μ => (fs env μ).bind fun xs μ1 => if xs.length ≤ sizeLine then .ok (.cell μ1.length) (μ1 ++ [.lst xs]) else .no
def fDct : F := fun _ μ => .ok (.cell μ.length) (μ ++ [.dK []])
def fB (g : List D → Mem → R D) (fs : FA) : F := fun env μ => (fs env μ).bind g
def fM (g : D → List D → Mem → R D) (fo : F) (fs : FA) : F := fun env μ => (fo env μ).bind fun x μ1 => (fs env μ1).bind fun xs μ2 => g x xs μ2
def fSl (g : D → Option Int → Option Int → Mem → R D) (f : F) (lo hi : FO) : F := fun env μ => (f env μ).bind fun x μ1 => (lo env μ1).bind fun l μ2 => (hi env μ2).bind fun h μ3 => g x l h μ3
def oNo : FO := fun _ μ => .ok none μ
def oAt (f : F) : FO := fun env μ => (f env μ).bind fun x μ1 => match x with
  | .int i => .ok (some i) μ1
  | _ => .no
/-- a call that may raise; one that must not -/
def fCall (g : List D → Mem → R D) (fs : FA) : F := fun env μ => (fs env μ).bind g
def noEx {α : Type} : R α → R α
  | .ok a μ => .ok a μ
  | _ => .no
@[simp] theorem noEx_ok {α : Type} {a : α} {μ : Mem} : noEx (R.ok a μ) = .ok a μ := rfl
def fCall0 (g : List D → Mem → R D) (fs : FA) : F := fun env μ => (fs env μ).bind fun ds μ1 => noEx (g ds μ1)
/-- e.f -/
def fldD (f : Str) : D → Mem → R D
  | .cell n, μ => match μ[n]? with
    | some (.ins _ fs) => match fs.lookup f with
      | some d => .ok d μ
      | none => .no
    | _ => .no
  | _, _ => .no

section
variable {K : KW} {W : WX}
theorem Pa.ok {α β : Type} {rel : List Addr → Hp → β → α → Prop} {d : α} {μ : Mem} {ρ : List Addr} {H : Hp} {Q : β → Hp → Prop} {E : XK} {v : β} (h : Pa K rel (.ok d μ) ρ H Q E) (rp : Rep K ρ H μ) (r : rel ρ H v d) : Q v H := h ρ H v Ext.refl rp r
theorem tef_var {i : Nat} : TEf K W (tVar i) (fVar i) := by
  intro σ H Q env μ ρ at_ h
  unfold fVar at h
  split at h
  · rename_i d e
    obtain ⟨v, h1, h2⟩ := at_.en.at_ _ _ e
    exact ⟨v, h1, h.ok at_.rp h2⟩
  · exact h.elim
theorem tef_con {v : V} {d : D} (r : ∀ ρ H, RV K ρ H v d) : TEf K W (tC v) (fCon d) := fun σ H Q env μ ρ at_ h => Pa.ok (rel := RV K) h at_.rp (r _ _)
theorem tef_int {i : Int} : TEf K W (tC (.int i)) (fCon (.int i)) := tef_con fun _ _ => .int i
theorem tef_bl {b : Bool} : TEf K W (tC (.bl b)) (fCon (.bl b)) := tef_con fun _ _ => .bl b
theorem tef_non : TEf K W (tC .non) (fCon .non) := tef_con fun _ _ => .non
theorem tef_str {z : Str} (h : StrV z := by decide +kernel) : TEf K W (tC (.str z)) (fCon (.str z)) := tef_con fun _ _ => .str h
section
variable {ta tb tc : TE} {fa fb fc : F}
/-- the way through one part -/
theorem TEf.go {γ δ : Type} {rel2 : List Addr → Hp → δ → γ → Prop} (ha : TEf K W ta fa) {σ : L2.St} {H : Hp} {env : Env} {μ : Mem} {ρ : List Addr} (at_ : At K ρ H μ σ env) {k : D → Mem → R γ} {Q : δ → Hp → Prop} {Q' : VK} (h : Pa K rel2 ((fa env μ).bind k) ρ H Q (fun c d H' => W c d σ H'))
    (next : ∀ ρ1 H1 v d μ1, Ext K ρ H ρ1 H1 → At K ρ1 H1 μ1 σ env → RV K ρ1 H1 v d → Pa K rel2 (k d μ1) ρ1 H1 Q (fun c d H' => W c d σ H') → Q' v H1) : ta σ H Q' := by
  refine ha σ H _ env μ ρ at_ (Pa.imp (Pa.bind h) ?_ fun _ _ _ z => z)
  rintro v H1 ⟨ρ1, d, μ1, e1, r1, rv, h1⟩
  exact next ρ1 H1 v d μ1 e1 (at_.ext e1 r1) rv h1
theorem TAf.go {γ δ : Type} {rel2 : List Addr → Hp → δ → γ → Prop} {ta : TA} {fa : FA} (ha : TAf K W ta fa) {σ : L2.St} {H : Hp} {env : Env} {μ : Mem} {ρ : List Addr} (at_ : At K ρ H μ σ env) {k : List D → Mem → R γ} {Q : δ → Hp → Prop} {Q' : List V → Hp → Prop} (h : Pa K rel2 ((fa env μ).bind k) ρ H Q (fun c d H' => W c d σ H'))
    (next : ∀ ρ1 H1 v d μ1, Ext K ρ H ρ1 H1 → At K ρ1 H1 μ1 σ env → RVs K ρ1 H1 v d → Pa K rel2 (k d μ1) ρ1 H1 Q (fun c d H' => W c d σ H') → Q' v H1) : ta σ H Q' := by
  refine ha σ H _ env μ ρ at_ (Pa.imp (Pa.bind h) ?_ fun _ _ _ z => z)
  rintro v H1 ⟨ρ1, d, μ1, e1, r1, rv, h1⟩
  exact next ρ1 H1 v d μ1 e1 (at_.ext e1 r1) rv h1
theorem TBf.go {γ δ : Type} {rel2 : List Addr → Hp → δ → γ → Prop} {ta : TT} {fa : FB} (ha : TBf K W ta fa) {σ : L2.St} {H : Hp} {env : Env} {μ : Mem} {ρ : List Addr} (at_ : At K ρ H μ σ env) {k : Bool → Mem → R γ} {Q : δ → Hp → Prop} {Q' : Bool → Hp → Prop} (h : Pa K rel2 ((fa env μ).bind k) ρ H Q (fun c d H' => W c d σ H'))
    (next : ∀ ρ1 H1 v μ1, Ext K ρ H ρ1 H1 → At K ρ1 H1 μ1 σ env → Pa K rel2 (k v μ1) ρ1 H1 Q (fun c d H' => W c d σ H') → Q' v H1) : ta σ H Q' := by
  refine ha σ H _ env μ ρ at_ (Pa.imp (Pa.bind h) ?_ fun _ _ _ z => z)
  rintro v H1 ⟨ρ1, d, μ1, e1, r1, rfl, h1⟩
  exact next ρ1 H1 v μ1 e1 (at_.ext e1 r1) h1
theorem TOf.go {γ δ : Type} {rel2 : List Addr → Hp → δ → γ → Prop} {ta : TO} {fa : FO} (ha : TOf K W ta fa) {σ : L2.St} {H : Hp} {env : Env} {μ : Mem} {ρ : List Addr} (at_ : At K ρ H μ σ env) {k : Option Int → Mem → R γ} {Q : δ → Hp → Prop} {Q' : Option Int → Hp → Prop} (h : Pa K rel2 ((fa env μ).bind k) ρ H Q (fun c d H' => W c d σ H'))
    (next : ∀ ρ1 H1 v μ1, Ext K ρ H ρ1 H1 → At K ρ1 H1 μ1 σ env → Pa K rel2 (k v μ1) ρ1 H1 Q (fun c d H' => W c d σ H') → Q' v H1) : ta σ H Q' := by
  refine ha σ H _ env μ ρ at_ (Pa.imp (Pa.bind h) ?_ fun _ _ _ z => z)
  rintro v H1 ⟨ρ1, d, μ1, e1, r1, rfl, h1⟩
  exact next ρ1 H1 v μ1 e1 (at_.ext e1 r1) h1
theorem tef_op {r : R2} {g : D → D → Mem → R D} (hr : R2f K r g) (ha : TEf K W ta fa) (hb : TEf K W tb fb) : TEf K W (tOp r ta tb) (fOp g fa fb) := by
  intro σ H Q env μ ρ at_ h
  exact ha.go at_ h fun ρ1 H1 v d μ1 e1 a1 r1 h1 => hb.go a1 h1 fun ρ2 H2 w d2 μ2 e2 a2 r2 h2 => hr _ _ _ _ _ _ _ _ _ a2.rp (r1.ext e2) r2 h2
theorem tef_un {r : V → Hp → VK → Prop} {g : D → Mem → R D} (hr : R1f K r g) (ha : TEf K W ta fa) : TEf K W (tUn r ta) (fUn g fa) := by
  intro σ H Q env μ ρ at_ h
  exact ha.go at_ h fun ρ1 H1 v d μ1 e1 a1 r1 h1 => hr _ _ _ _ _ _ _ a1.rp r1 h1
theorem tef_chain {r s : R2} {g k : D → D → Mem → R D} (hr : R2f K r g) (hs : R2f K s k) (ha : TEf K W ta fa) (hb : TEf K W tb fb) (hc : TEf K W tc fc) : TEf K W (tChain r s ta tb tc) (fChain g k fa fb fc) := by
  intro σ H Q env μ ρ at_ h
  refine ha.go at_ h fun ρ1 H1 v d μ1 e1 a1 r1 h1 => hb.go a1 h1 fun ρ2 H2 w d2 μ2 e2 a2 r2 h2 => ?_
  refine hr _ _ _ _ _ _ _ _ (fun c d H' => W c d σ H') a2.rp (r1.ext e2) r2 (Pa.imp (Pa.bind h2) ?_ fun _ _ _ z => z)
  rintro z H3 ⟨ρ3, d3, μ3, e3, r3, rz, h3⟩
  cases rz with
  | bl b =>
    refine ⟨b, rfl, ?_⟩
    have h3 : Pa K (RV K) (if b = true then (fc env μ3).bind fun w μ4 => k d2 w μ4 else .ok (.bl false) μ3) ρ3 H3 Q (fun c d H' => W c d σ H') := h3
    cases b with
    | true => exact hc.go (a2.ext e3 r3) h3 fun ρ4 H4 u d4 μ4 e4 a4 r4 h4 => hs _ _ _ _ _ _ _ _ _ a4.rp (r2.ext (e3.trans e4)) r4 h4
    | false => exact Pa.ok (rel := RV K) h3 r3 (.bl false)
  | _ => exact h3.elim
theorem tef_and (ha : TEf K W ta fa) (hb : TEf K W tb fb) : TEf K W (tAndV ta tb) (fAnd fa fb) := by
  intro σ H Q env μ ρ at_ h
  refine ha.go at_ h fun ρ1 H1 v d μ1 e1 a1 r1 h1 => ?_
  cases r1 with
  | bl b =>
    refine ⟨b, rfl, ?_⟩
    have h1 : Pa K (RV K) (if b = true then fb env μ1 else .ok (.bl false) μ1) ρ1 H1 Q (fun c d H' => W c d σ H') := h1
    cases b with
    | true => exact hb _ _ _ _ _ _ a1 h1
    | false => exact Pa.ok (rel := RV K) h1 a1.rp (.bl false)
  | _ => exact h1.elim
theorem tef_or (ha : TEf K W ta fa) (hb : TEf K W tb fb) : TEf K W (tOrV ta tb) (fOr fa fb) := by
  intro σ H Q env μ ρ at_ h
  refine ha.go at_ h fun ρ1 H1 v d μ1 e1 a1 r1 h1 => ?_
  cases r1 with
  | bl b =>
    refine ⟨b, rfl, ?_⟩
    have h1 : Pa K (RV K) (if b = true then .ok (.bl true) μ1 else fb env μ1) ρ1 H1 Q (fun c d H' => W c d σ H') := h1
    cases b with
    | false => exact hb _ _ _ _ _ _ a1 h1
    | true => exact Pa.ok (rel := RV K) h1 a1.rp (.bl true)
  | _ => exact h1.elim
theorem tef_not (ha : TEf K W ta fa) : TEf K W (tNotV ta) (fNot fa) := by
  intro σ H Q env μ ρ at_ h
  refine ha.go at_ h fun ρ1 H1 v d μ1 e1 a1 r1 h1 => ?_
  cases r1 with
  | bl b => exact ⟨b, rfl, Pa.ok (rel := RV K) h1 a1.rp (.bl _)⟩
  | _ => exact h1.elim
theorem tef_if {tt : TT} {c : FB} (hc : TBf K W tt c) (ha : TEf K W ta fa) (hb : TEf K W tb fb) : TEf K W (tIf tt ta tb) (fIf c fa fb) := by
  intro σ H Q env μ ρ at_ h
  refine hc.go at_ h fun ρ1 H1 b μ1 e1 a1 h1 => ?_
  cases b with
  | true => exact ha _ _ _ _ _ _ a1 h1
  | false => exact hb _ _ _ _ _ _ a1 h1
/-! tests -/
theorem tbf_test (ha : TEf K W ta fa) : TBf K W (tTest ta) (bTest fa) := by
  intro σ H Q env μ ρ at_ h
  refine ha.go at_ h fun ρ1 H1 v d μ1 e1 a1 r1 h1 => ?_
  cases r1 with
  | bl b => exact ⟨b, rfl, h1.ok a1.rp rfl⟩
  | _ => exact h1.elim
theorem tbf_B (ha : TEf K W ta fa) : TBf K W (tB ta) (bTest fa) := by
  intro σ H Q env μ ρ at_ h
  refine ha.go at_ h fun ρ1 H1 v d μ1 e1 a1 r1 h1 => ?_
  cases r1 with
  | bl b => exact ⟨b, rfl, h1.ok a1.rp rfl⟩
  | _ => exact h1.elim
theorem tbf_and {t u : TT} {c1 c2 : FB} (h1 : TBf K W t c1) (h2 : TBf K W u c2) : TBf K W (tAnd t u) (bAnd c1 c2) := by
  intro σ H Q env μ ρ at_ h
  refine h1.go at_ h fun ρ1 H1 b μ1 e1 a1 q => ?_
  cases b with
  | true => exact h2 _ _ _ _ _ _ a1 q
  | false => exact Pa.ok q a1.rp rfl
theorem tbf_or {t u : TT} {c1 c2 : FB} (h1 : TBf K W t c1) (h2 : TBf K W u c2) : TBf K W (tOr t u) (bOr c1 c2) := by
  intro σ H Q env μ ρ at_ h
  refine h1.go at_ h fun ρ1 H1 b μ1 e1 a1 q => ?_
  cases b with
  | false => exact h2 _ _ _ _ _ _ a1 q
  | true => exact Pa.ok q a1.rp rfl
theorem tbf_not {t : TT} {c1 : FB} (h1 : TBf K W t c1) : TBf K W (tNot t) (bNot c1) := by
  intro σ H Q env μ ρ at_ h
  exact h1.go at_ h fun ρ1 H1 b μ1 e1 a1 q => q.ok a1.rp rfl
theorem nil_emp {vs : List V} {ds : List D} {ρ : List Addr} {H : Hp} (h : RVs K ρ H vs ds) : vs.isEmpty = ds.isEmpty := by cases h <;> rfl
theorem nilF_emp {κ : Type} {vs : List (κ × V)} {ds : List (κ × D)} {ρ : List Addr} {H : Hp} (h : RF K ρ H vs ds) : vs.isEmpty = ds.isEmpty := by cases h <;> rfl
theorem tbf_tru (ha : TEf K W ta fa) : TBf K W (fun σ H Q => ta σ H fun x H' => ∃ k, TruV K x H' k ∧ Q k H') (bTru fa) := by
  intro σ H Q env μ ρ at_ h
  refine ha.go at_ h fun ρ1 H1 v d μ1 e1 a1 r1 h1 => ?_
  cases r1 with
  | non => exact ⟨_, rfl, h1.ok a1.rp rfl⟩
  | bl b => exact ⟨_, rfl, h1.ok a1.rp rfl⟩
  | int i => exact ⟨_, rfl, h1.ok a1.rp rfl⟩
  | str z => exact ⟨_, ⟨z.1, rfl⟩, h1.ok a1.rp rfl⟩
  | ty _ => exact h1.elim
  | cref _ => exact h1.elim
  | tup s r => exact ⟨_, .inr (.inl ⟨_, s, rfl⟩), h1.ok a1.rp (by rw [nil_emp r])⟩
  | scr s => exact ⟨_, .inl ⟨_, s.sq, rfl⟩, h1.ok a1.rp (by cases ‹List Int› <;> rfl)⟩
  | @cell n a hn =>
    simp only [truD] at h1
    cases e : μ1[n]? with
    | none => rw [e] at h1; exact h1.elim
    | some c =>
      rw [e] at h1
      cases c with
      | lst xs =>
        obtain ⟨vs, q1, q2⟩ := a1.rp.get hn e
        exact ⟨_, .inl ⟨_, SqL.of q1, rfl⟩, h1.ok a1.rp (by rw [nil_emp q2])⟩
      | dK kvs =>
        obtain ⟨vs, q1, q2⟩ := a1.rp.get hn e
        exact ⟨_, .inr (.inr ⟨_, q1, rfl⟩), h1.ok a1.rp (by rw [nilF_emp q2])⟩
      | ins c fs => exact h1.elim
      | set _ => exact h1.elim
/-! lists of arguments -/
theorem taf_nil : TAf K W tNil aNil := fun σ H Q env μ ρ at_ h => Pa.ok (rel := RVs K) h at_.rp .nil
theorem taf_cons {tr : TA} {fr : FA} (ha : TEf K W ta fa) (hr : TAf K W tr fr) : TAf K W (tCons ta tr) (aCons fa fr) := by
  intro σ H Q env μ ρ at_ h
  refine ha.go at_ h fun ρ1 H1 v d μ1 e1 a1 r1 h1 => hr.go a1 h1 fun ρ2 H2 w d2 μ2 e2 a2 r2 h2 => ?_
  exact Pa.ok (rel := RVs K) h2 a2.rp (.cons (r1.ext e2) r2)
theorem tef_tup {tr : TA} {fr : FA} (hr : TAf K W tr fr) : TEf K W (tTup tr) (fTup fr) := by
  intro σ H Q env μ ρ at_ h
  refine hr.go at_ h fun ρ1 H1 vs ds μ1 e1 a1 r1 h1 => ?_
  by_cases hl : ds.length ≤ sizeLine
  · rw [if_pos hl] at h1
    refine ⟨by rw [r1.len]; exact hl, fun p hp => ?_⟩
    have ee := ext_upd (K := K) ρ1 (o := .tup vs) (Wr.none hp)
    exact h1 ρ1 _ _ ee (a1.rp.side hp) (.tup (SqT.of upd_same) (r1.ext ee))
  · rw [if_neg hl] at h1
    exact h1.elim
theorem tef_lst {tr : TA} {fr : FA} (hr : TAf K W tr fr) : TEf K W (tLst tr) (fLst fr) := by
  intro σ H Q env μ ρ at_ h
  refine hr.go at_ h fun ρ1 H1 vs ds μ1 e1 a1 r1 h1 => ?_
  by_cases hl : ds.length ≤ sizeLine
  · rw [if_pos hl] at h1
    refine ⟨by rw [r1.len]; exact hl, fun p hp => ?_⟩
    have ee := ext_new (K := K) ρ1 (o := .lst vs) hp
    exact h1 _ _ _ ee (a1.rp.new hp ⟨vs, upd_same, r1.ext ee⟩) (.cell (by rw [← a1.rp.len]; simp))
  · rw [if_neg hl] at h1
    exact h1.elim
theorem tef_dct : TEf K W tDNewK fDct := by
  intro σ H Q env μ ρ at_ h p hp
  have ee := ext_new (K := K) ρ (o := .dK []) hp
  exact h _ _ _ ee (at_.rp.new hp ⟨[], upd_same, .nil⟩) (.cell (by rw [← at_.rp.len]; simp))
theorem tef_B {r : List V → Hp → VK → Prop} {g : List D → Mem → R D} {tr : TA} {fr : FA} (hg : RLf K r g) (hr : TAf K W tr fr) : TEf K W (tCB r tr) (fB g fr) := by
  intro σ H Q env μ ρ at_ h
  exact hr.go at_ h fun ρ1 H1 vs ds μ1 e1 a1 r1 h1 => hg _ _ _ _ _ _ _ a1.rp r1 h1
theorem taf_len {tr : TA} {fr : FA} (_ : TAf K W tr fr) : True := trivial
theorem tof_no : TOf K W tNoPart oNo := fun σ H Q env μ ρ at_ h => h.ok at_.rp rfl
theorem tof_at (ha : TEf K W ta fa) : TOf K W (tPart ta) (oAt fa) := by
  intro σ H Q env μ ρ at_ h
  refine ha.go at_ h fun ρ1 H1 v d μ1 e1 a1 r1 h1 => ?_
  cases r1 with
  | int i => exact ⟨i, rfl, h1.ok a1.rp rfl⟩
  | _ => exact h1.elim
theorem tef_sl {r : V → Option Int → Option Int → Hp → VK → Prop} {g : D → Option Int → Option Int → Mem → R D} {tl th : TO} {fl fh : FO} (hr : RSf K r g) (ha : TEf K W ta fa) (hl : TOf K W tl fl) (hh : TOf K W th fh) : TEf K W (tSl r ta tl th) (fSl g fa fl fh) := by
  intro σ H Q env μ ρ at_ h
  exact ha.go at_ h fun ρ1 H1 v d μ1 e1 a1 r1 h1 => hl.go a1 h1 fun ρ2 H2 l μ2 e2 a2 h2 => hh.go a2 h2 fun ρ3 H3 u μ3 e3 a3 h3 => hr _ _ _ _ _ _ _ _ _ a3.rp (r1.ext (e2.trans e3)) h3
/-- calls -/
theorem tef_call {n : Nat} {g : List D → Mem → R D} {tr : TA} {fr : FA} (hr : TAf K W tr fr) : TEf K W (tDX (spD K n g) W tr) (fCall (fun ds μ => if ds.length = n then g ds μ else .no) fr) := by
  intro σ H Q env μ ρ at_ h
  refine hr.go at_ h fun ρ1 H1 vs ds μ1 e1 a1 r1 h1 => ?_
  have h1 : Pa K (RV K) (if ds.length = n then g ds μ1 else .no) ρ1 H1 Q (fun c d H' => W c d σ H') := h1
  by_cases hn : ds.length = n
  · rw [if_pos hn] at h1
    exact ⟨ρ1, μ1, ds, a1.rp, r1, hn, h1⟩
  · rw [if_neg hn] at h1
    exact h1.elim
theorem tef_call0 {n : Nat} {g : List D → Mem → R D} {tr : TA} {fr : FA} (hr : TAf K W tr fr) : TEf K W (tD (spD K n g) tr) (fCall0 (fun ds μ => if ds.length = n then g ds μ else .no) fr) := by
  intro σ H Q env μ ρ at_ h
  refine hr.go at_ h fun ρ1 H1 vs ds μ1 e1 a1 r1 h1 => ?_
  have h1 : Pa K (RV K) (noEx (if ds.length = n then g ds μ1 else .no)) ρ1 H1 Q (fun c d H' => W c d σ H') := h1
  by_cases hn : ds.length = n
  · rw [if_pos hn] at h1
    refine ⟨ρ1, μ1, ds, a1.rp, r1, hn, ?_⟩
    show Pa K (RV K) (g ds μ1) ρ1 H1 Q E0
    cases e : g ds μ1 with
    | ok d μ' => rw [e] at h1; exact h1
    | ex x μ' => rw [e] at h1; exact h1.elim
    | no => rw [e] at h1; exact h1.elim
  · rw [if_neg hn] at h1
    exact h1.elim
end
end
end Dv

set_option maxRecDepth 100000
set_option maxHeartbeats 4000000
namespace Dv
open PySem PySem.Spec PyProof.Rows L2
/-! ### statements -/
inductive RS where
  | nx (env : Env) (μ : Mem) | rt (d : D) (μ : Mem) | bk (env : Env) (μ : Mem) | ct (env : Env) (μ : Mem) | ex (x : Exn) (env : Env) (μ : Mem) | no
abbrev S := Env → Mem → RS
abbrev G := D → Env → Mem → Option (Env × Mem)
abbrev Gs := List D → Env → Mem → Option (Env × Mem)
def Ps (K : KW) (r : RS) (ρ : List Addr) (H : Hp) (D : Ends) (W : WX) : Prop := match r with
  | .nx env μ => ∀ ρ' H' σ', Ext K ρ H ρ' H' → At K ρ' H' μ σ' env → D.nx σ' H'
  | .rt d μ => ∀ ρ' H' v, Ext K ρ H ρ' H' → Rep K ρ' H' μ → RV K ρ' H' v d → D.rt v H'
  | .bk env μ => ∀ ρ' H' σ', Ext K ρ H ρ' H' → At K ρ' H' μ σ' env → D.bk σ' H'
  | .ct env μ => ∀ ρ' H' σ', Ext K ρ H ρ' H' → At K ρ' H' μ σ' env → D.ct σ' H'
  | .ex x env μ => ∀ ρ' H' σ' c d, Ext K ρ H ρ' H' → At K ρ' H' μ σ' env → RX K ρ' H' c d x → W c d σ' H'
  | .no => False
def TSf (K : KW) (W : WX) (ts : TS) (s : S) : Prop := ∀ (σ : L2.St) (H : Hp) (D : Ends) (env : Env) (μ : Mem) (ρ : List Addr), At K ρ H μ σ env → Ps K (s env μ) ρ H D W → ts D σ H
/-- behind a target -/
def Pg (K : KW) (r : Option (Env × Mem)) (ρ : List Addr) (H : Hp) (Q : L2.St → Hp → Prop) : Prop := match r with
  | some (env, μ) => ∀ ρ' H' σ', Ext K ρ H ρ' H' → At K ρ' H' μ σ' env → Q σ' H'
  | none => False
def TGf (K : KW) (g : TG) (t : G) : Prop := ∀ (v : V) (d : D) (σ : L2.St) (H : Hp) (Q : L2.St → Hp → Prop) (env : Env) (μ : Mem) (ρ : List Addr), At K ρ H μ σ env → RV K ρ H v d → Pg K (t d env μ) ρ H Q → g v σ H Q
def TGsf (K : KW) (g : TGs) (t : Gs) : Prop := ∀ (vs : List V) (ds : List D) (σ : L2.St) (H : Hp) (Q : L2.St → Hp → Prop) (env : Env) (μ : Mem) (ρ : List Addr), At K ρ H μ σ env → RVs K ρ H vs ds → Pg K (t ds env μ) ρ H Q → g vs σ H Q
theorem Pg.mono {K : KW} {r : Option (Env × Mem)} {ρ ρ' : List Addr} {H H' : Hp} {Q : L2.St → Hp → Prop} (e : Ext K ρ H ρ' H') (h : Pg K r ρ H Q) : Pg K r ρ' H' Q := by
  cases r with
  | none => exact h
  | some p => exact fun ρ1 H1 σ1 e1 => h ρ1 H1 σ1 (e.trans e1)
theorem Pg.bind {K : KW} {r : Option (Env × Mem)} {k : Env × Mem → Option (Env × Mem)} {ρ : List Addr} {H : Hp} {Q : L2.St → Hp → Prop} (h : Pg K (r.bind k) ρ H Q) : Pg K r ρ H fun σ' H' => ∃ ρ1 env μ, Ext K ρ H ρ1 H' ∧ At K ρ1 H' μ σ' env ∧ Pg K (k (env, μ)) ρ1 H' Q := by
  cases r with
  | none => exact h
  | some p => exact fun ρ1 H1 σ1 e1 a1 => ⟨ρ1, p.1, p.2, e1, a1, Pg.mono e1 h⟩
/-- a target ahead of a statement -/
def onG (r : Option (Env × Mem)) (k : Env → Mem → RS) : RS := match r with
  | some (env, μ) => k env μ
  | none => .no
@[simp] theorem onG_some {env : Env} {μ : Mem} {k : Env → Mem → RS} : onG (some (env, μ)) k = k env μ := rfl
@[simp] theorem onG_none {k : Env → Mem → RS} : onG none k = .no := rfl
def RS.then (r : RS) (k : Env → Mem → RS) : RS := match r with
  | .nx env μ => k env μ
  | r => r
@[simp] theorem then_nx {env : Env} {μ : Mem} {k : Env → Mem → RS} : (RS.nx env μ).then k = k env μ := rfl
@[simp] theorem then_rt {d : D} {μ : Mem} {k : Env → Mem → RS} : (RS.rt d μ).then k = .rt d μ := rfl
@[simp] theorem then_bk {env : Env} {μ : Mem} {k : Env → Mem → RS} : (RS.bk env μ).then k = .bk env μ := rfl
@[simp] theorem then_ct {env : Env} {μ : Mem} {k : Env → Mem → RS} : (RS.ct env μ).then k = .ct env μ := rfl
@[simp] theorem then_ex {x : Exn} {env : Env} {μ : Mem} {k : Env → Mem → RS} : (RS.ex x env μ).then k = .ex x env μ := rfl
@[simp] theorem then_no {k : Env → Mem → RS} : RS.no.then k = .no := rfl
def sNext : S := fun env μ => .nx env μ
def sSeq (s1 s2 : S) : S := fun env μ => (s1 env μ).then s2
def R.toS {α : Type} (r : R α) (env : Env) (k : α → Mem → RS) : RS := match r with
  | .ok a μ => k a μ
  | .ex x μ => .ex x env μ
  | .no => .no
@[simp] theorem toS_ok {α : Type} {a : α} {μ : Mem} {env : Env} {k : α → Mem → RS} : (R.ok a μ).toS env k = k a μ := rfl
@[simp] theorem toS_ex {α : Type} {x : Exn} {μ : Mem} {env : Env} {k : α → Mem → RS} : (R.ex x μ : R α).toS env k = .ex x env μ := rfl
@[simp] theorem toS_no {α : Type} {env : Env} {k : α → Mem → RS} : (R.no : R α).toS env k = .no := rfl
def sDrop (f : F) : S := fun env μ => (f env μ).toS env fun _ μ1 => .nx env μ1
def sRet (f : F) : S := fun env μ => (f env μ).toS env fun d μ1 => .rt d μ1
def sRetN : S := fun _ μ => .rt .non μ
def sBreak : S := fun env μ => .bk env μ
def sCont : S := fun env μ => .ct env μ
def sIf (c : FB) (s1 s2 : S) : S := fun env μ => (c env μ).toS env fun b μ1 => if b = true then s1 env μ1 else s2 env μ1
def gNm (i : Nat) : G := fun d env μ => some (env.set i (some d), μ)
def gsNil : Gs := fun ds env μ => match ds with
  | [] => some (env, μ)
  | _ => none
def gsCons (t : G) (u : Gs) : Gs := fun ds env μ => match ds with
  | d :: r => (t d env μ).bind fun p => u r p.1 p.2
  | [] => none
def gTupD (n : Nat) (t : Gs) : G := fun d env μ => match d with
  | .tup xs => if xs.length = n then t xs env μ else none
  | _ => none
def sAsg (f : F) (t : G) : S := fun env μ => (f env μ).toS env fun d μ1 => onG (t d env μ1) .nx
def sPar (i j : Nat) (fs : FA) : S := fun env μ => (fs env μ).toS env fun ds μ1 => match ds with
  | [a, b] => .nx ((env.set i (some a)).set j (some b)) μ1
  | _ => .no
def sAug (i : Nat) (g : D → D → Mem → R D) (f : F) : S := fun env μ => match env[i]? with
  | some (some x) => (f env μ).toS env fun y μ1 => (g x y μ1).toS env fun z μ2 => .nx (env.set i (some z)) μ2
  | _ => .no
/-- o[k] = d, o a list -/
def setL (o k d : D) (μ : Mem) : R Unit := match o, k with
  | .cell n, .int i => match μ[n]? with
    | some (.lst xs) => match ixN xs.length i with
      | some j => .ok () (μ.set n (.lst (xs.set j d)))
      | none => .no
    | _ => .no
  | _, _ => .no
/-- what an outcome is, if it is no exception -/
def R.get {α : Type} : R α → Option (α × Mem)
  | .ok a μ => some (a, μ)
  | _ => none
@[simp] theorem get_ok {α : Type} {a : α} {μ : Mem} : (R.ok a μ).get = some (a, μ) := rfl
def gSubD (fo fi : F) (st : D → D → D → Mem → R Unit) : G := fun d env μ => (fo env μ).get.bind fun o => (fi env o.2).get.bind fun i => (st o.1 i.1 d i.2).get.bind fun m => some (env, m.2)
section
variable {K : KW} {W : WX}
section
variable {ρ ρ' : List Addr} {H H' : Hp} {D : Ends}
theorem Ps.mono {r : RS} (e : Ext K ρ H ρ' H') (h : Ps K r ρ H D W) : Ps K r ρ' H' D W := by
  cases r with
  | nx env μ => exact fun ρ1 H1 σ1 e1 => h ρ1 H1 σ1 (e.trans e1)
  | rt d μ => exact fun ρ1 H1 σ1 e1 => h ρ1 H1 σ1 (e.trans e1)
  | bk env μ => exact fun ρ1 H1 σ1 e1 => h ρ1 H1 σ1 (e.trans e1)
  | ct env μ => exact fun ρ1 H1 σ1 e1 => h ρ1 H1 σ1 (e.trans e1)
  | ex x env μ => exact fun ρ1 H1 σ1 c d e1 => h ρ1 H1 σ1 c d (e.trans e1)
  | no => exact h
theorem Ps.nx {env : Env} {μ : Mem} {σ : L2.St} (h : Ps K (.nx env μ) ρ H D W) (a : At K ρ H μ σ env) : D.nx σ H := h ρ H σ Ext.refl a
theorem Ps.rt {d : Dv.D} {μ : Mem} {v : V} (h : Ps K (.rt d μ) ρ H D W) (a : Rep K ρ H μ) (r : RV K ρ H v d) : D.rt v H := h ρ H v Ext.refl a r
/-- the way on behind what falls through -/
theorem Ps.then {r : RS} {k : Env → Mem → RS} (h : Ps K (r.then k) ρ H D W) : Ps K r ρ H { D with nx := fun σ' H' => ∃ ρ1 env μ, Ext K ρ H ρ1 H' ∧ At K ρ1 H' μ σ' env ∧ Ps K (k env μ) ρ1 H' D W } W := by
  cases r with
  | nx env μ => exact fun ρ1 H1 σ1 e1 a1 => ⟨ρ1, env, μ, e1, a1, Ps.mono e1 h⟩
  | rt d μ => exact h
  | bk env μ => exact h
  | ct env μ => exact h
  | ex x env μ => exact h
  | no => exact h
theorem Ps.imp {r : RS} {D' : Ends} {W' : WX} (h : Ps K r ρ H D W) (h1 : ∀ σ H, D.nx σ H → D'.nx σ H) (h2 : ∀ v H, D.rt v H → D'.rt v H) (h3 : ∀ σ H, D.bk σ H → D'.bk σ H) (h4 : ∀ σ H, D.ct σ H → D'.ct σ H) (h5 : ∀ c d σ H, W c d σ H → W' c d σ H) : Ps K r ρ H D' W' := by
  cases r with
  | nx env μ => exact fun ρ1 H1 σ1 e1 a1 => h1 _ _ (h ρ1 H1 σ1 e1 a1)
  | rt d μ => exact fun ρ1 H1 σ1 e1 a1 r1 => h2 _ _ (h ρ1 H1 σ1 e1 a1 r1)
  | bk env μ => exact fun ρ1 H1 σ1 e1 a1 => h3 _ _ (h ρ1 H1 σ1 e1 a1)
  | ct env μ => exact fun ρ1 H1 σ1 e1 a1 => h4 _ _ (h ρ1 H1 σ1 e1 a1)
  | ex x env μ => exact fun ρ1 H1 σ1 c d e1 a1 r1 => h5 _ _ _ _ (h ρ1 H1 σ1 c d e1 a1 r1)
  | no => exact h
end
/-- an expression ahead of what a statement does with it -/
theorem TEf.goS {ta : TE} {fa : F} (ha : TEf K W ta fa) {σ : L2.St} {H : Hp} {env : Env} {μ : Mem} {ρ : List Addr} (at_ : At K ρ H μ σ env) {k : Dv.D → Mem → RS} {D : Ends} {Q' : VK} (h : Ps K ((fa env μ).toS env k) ρ H D W)
    (next : ∀ ρ1 H1 v d μ1, Ext K ρ H ρ1 H1 → At K ρ1 H1 μ1 σ env → RV K ρ1 H1 v d → Ps K (k d μ1) ρ1 H1 D W → Q' v H1) : ta σ H Q' := by
  refine ha σ H _ env μ ρ at_ ?_
  cases e : fa env μ with
  | ok d μ1 =>
    rw [e] at h
    exact fun ρ1 H1 v e1 r1 rv => next ρ1 H1 v d μ1 e1 (at_.ext e1 r1) rv (Ps.mono e1 h)
  | ex x μ1 =>
    rw [e] at h
    exact fun ρ1 H1 c d e1 r1 rx => h ρ1 H1 σ c d e1 (at_.ext e1 r1) rx
  | no => rw [e] at h; exact h
theorem TAf.goS {ta : TA} {fa : FA} (ha : TAf K W ta fa) {σ : L2.St} {H : Hp} {env : Env} {μ : Mem} {ρ : List Addr} (at_ : At K ρ H μ σ env) {k : List Dv.D → Mem → RS} {D : Ends} {Q' : List V → Hp → Prop} (h : Ps K ((fa env μ).toS env k) ρ H D W)
    (next : ∀ ρ1 H1 v d μ1, Ext K ρ H ρ1 H1 → At K ρ1 H1 μ1 σ env → RVs K ρ1 H1 v d → Ps K (k d μ1) ρ1 H1 D W → Q' v H1) : ta σ H Q' := by
  refine ha σ H _ env μ ρ at_ ?_
  cases e : fa env μ with
  | ok d μ1 =>
    rw [e] at h
    exact fun ρ1 H1 v e1 r1 rv => next ρ1 H1 v d μ1 e1 (at_.ext e1 r1) rv (Ps.mono e1 h)
  | ex x μ1 =>
    rw [e] at h
    exact fun ρ1 H1 c d e1 r1 rx => h ρ1 H1 σ c d e1 (at_.ext e1 r1) rx
  | no => rw [e] at h; exact h
theorem TBf.goS {ta : TT} {fa : FB} (ha : TBf K W ta fa) {σ : L2.St} {H : Hp} {env : Env} {μ : Mem} {ρ : List Addr} (at_ : At K ρ H μ σ env) {k : Bool → Mem → RS} {D : Ends} {Q' : Bool → Hp → Prop} (h : Ps K ((fa env μ).toS env k) ρ H D W)
    (next : ∀ ρ1 H1 v μ1, Ext K ρ H ρ1 H1 → At K ρ1 H1 μ1 σ env → Ps K (k v μ1) ρ1 H1 D W → Q' v H1) : ta σ H Q' := by
  refine ha σ H _ env μ ρ at_ ?_
  cases e : fa env μ with
  | ok d μ1 =>
    rw [e] at h
    rintro ρ1 H1 v e1 r1 rfl
    exact next ρ1 H1 v μ1 e1 (at_.ext e1 r1) (Ps.mono e1 h)
  | ex x μ1 =>
    rw [e] at h
    exact fun ρ1 H1 c d e1 r1 rx => h ρ1 H1 σ c d e1 (at_.ext e1 r1) rx
  | no => rw [e] at h; exact h
section
variable {t u : TS} {s1 s2 : S} {te : TE} {f : F}
theorem tsf_next : TSf K W tNext sNext := fun σ H D env μ ρ at_ h => h.nx at_
theorem tsf_seq (h1 : TSf K W t s1) (h2 : TSf K W u s2) : TSf K W (tSeq t u) (sSeq s1 s2) := by
  intro σ H D env μ ρ at_ h
  refine h1 σ H _ env μ ρ at_ (Ps.imp (Ps.then h) ?_ (fun _ _ z => z) (fun _ _ z => z) (fun _ _ z => z) fun _ _ _ _ z => z)
  rintro σ1 H1 ⟨ρ1, env1, μ1, e1, a1, q⟩
  exact h2 _ _ _ _ _ _ a1 q
theorem tsf_drop (hf : TEf K W te f) : TSf K W (tDrop te) (sDrop f) := fun σ H D env μ ρ at_ h => hf.goS at_ h fun ρ1 H1 v d μ1 e1 a1 r1 q => q.nx a1
theorem tsf_ret (hf : TEf K W te f) : TSf K W (tRet te) (sRet f) := fun σ H D env μ ρ at_ h => hf.goS at_ h fun ρ1 H1 v d μ1 e1 a1 r1 q => q.rt a1.rp r1
theorem tsf_retN : TSf K W tRetN sRetN := fun σ H D env μ ρ at_ h => Ps.rt (W := W) h at_.rp .non
theorem tsf_break : TSf K W tBreak sBreak := fun σ H D env μ ρ at_ h => h ρ H σ Ext.refl at_
theorem tsf_cont : TSf K W tCont sCont := fun σ H D env μ ρ at_ h => h ρ H σ Ext.refl at_
theorem tsf_if {tt : TT} {c : FB} (hc : TBf K W tt c) (h1 : TSf K W t s1) (h2 : TSf K W u s2) : TSf K W (tIfS tt t u) (sIf c s1 s2) := by
  intro σ H D env μ ρ at_ h
  refine hc.goS at_ h fun ρ1 H1 b μ1 e1 a1 q => ?_
  cases b with
  | true => exact h1 _ _ _ _ _ _ a1 q
  | false => exact h2 _ _ _ _ _ _ a1 q
theorem tgf_name {i : Nat} (hf : Fr K i := by intro _ _ _ h; first | cases h | simp at h) : TGf K (gName i) (gNm i) := fun v d σ H Q env μ ρ at_ r h => h ρ H _ Ext.refl ⟨at_.rp, at_.en.set r i, at_.xa.set hf _⟩
theorem tgsf_nil : TGsf K gNil gsNil := by
  intro vs ds σ H Q env μ ρ at_ r h
  cases r with
  | nil => exact ⟨rfl, h ρ H _ Ext.refl at_⟩
  | cons _ _ => exact h.elim
theorem tgsf_cons {g : TG} {gs : TGs} {t : G} {u : Gs} (h1 : TGf K g t) (h2 : TGsf K gs u) : TGsf K (gCons g gs) (gsCons t u) := by
  intro vs ds σ H Q env μ ρ at_ r h
  cases r with
  | nil => exact h.elim
  | @cons v d vs ds r rr =>
    refine ⟨v, vs, rfl, h1 _ _ _ _ _ _ _ _ at_ r ?_⟩
    have q := Pg.bind (show Pg K ((t d env μ).bind fun p => u ds p.1 p.2) ρ H Q from h)
    cases e : t d env μ with
    | none => rw [e] at q; exact q
    | some p =>
      rw [e] at q
      intro ρ1 H1 σ1 e1 a1
      obtain ⟨ρ2, env2, μ2, e2, a2, q2⟩ := q ρ1 H1 σ1 e1 a1
      exact h2 _ _ _ _ _ _ _ _ a2 (rr.ext e2) q2
theorem tgf_tup {n : Nat} {gs : TGs} {u : Gs} (h2 : TGsf K gs u) : TGf K (gTup K n gs) (gTupD n u) := by
  intro v d σ H Q env μ ρ at_ r h
  cases r with
  | @tup a vs ds hs rs =>
    have h : Pg K (if ds.length = n then u ds env μ else none) ρ H Q := h
    by_cases hn : ds.length = n
    · rw [if_pos hn] at h
      exact ⟨a, vs, rfl, hs, by rw [rs.len, hn], h2 _ _ _ _ _ _ _ _ at_ rs h⟩
    · rw [if_neg hn] at h
      exact h.elim
  | _ => exact h.elim
theorem Ps.onG {r : Option (Env × Mem)} {k : Env → Mem → RS} {ρ : List Addr} {H : Hp} {D : Ends} (h : Ps K (onG r k) ρ H D W) : Pg K r ρ H fun σ' H' => ∃ ρ1 env μ, Ext K ρ H ρ1 H' ∧ At K ρ1 H' μ σ' env ∧ Ps K (k env μ) ρ1 H' D W := by
  cases r with
  | none => exact h
  | some p => exact fun ρ1 H1 σ1 e1 a1 => ⟨ρ1, p.1, p.2, e1, a1, Ps.mono e1 h⟩
theorem Pg.imp {r : Option (Env × Mem)} {ρ : List Addr} {H : Hp} {Q Q' : L2.St → Hp → Prop} (h : Pg K r ρ H Q) (i : ∀ σ H, Q σ H → Q' σ H) : Pg K r ρ H Q' := by
  cases r with
  | none => exact h
  | some p => exact fun ρ1 H1 σ1 e1 a1 => i _ _ (h ρ1 H1 σ1 e1 a1)
theorem tsf_asg {g : TG} {t : G} (hf : TEf K W te f) (hg : TGf K g t) : TSf K W (tAsg te g) (sAsg f t) := by
  intro σ H D env μ ρ at_ h
  refine hf.goS at_ h fun ρ1 H1 v d μ1 e1 a1 r1 q => hg _ _ _ _ _ _ _ _ a1 r1 (Pg.imp (Ps.onG q) ?_)
  rintro σ2 H2 ⟨ρ2, env2, μ2, e2, a2, q2⟩
  exact q2.nx a2
theorem tsf_par {i j : Nat} {ta : TA} {fa : FA} (hf : TAf K W ta fa) (hi : Fr K i := by intro _ _ _ h; first | cases h | simp at h) (hj : Fr K j := by intro _ _ _ h; first | cases h | simp at h) : TSf K W (tPar i j ta) (sPar i j fa) := by
  intro σ H D env μ ρ at_ h
  refine hf.goS at_ h fun ρ1 H1 vs ds μ1 e1 a1 r1 q => ?_
  cases r1 with
  | nil => exact q.elim
  | cons r1 r2 =>
    cases r2 with
    | nil => exact q.elim
    | cons r2 r3 =>
      cases r3 with
      | cons _ _ => exact q.elim
      | nil => exact ⟨_, _, rfl, q _ _ _ Ext.refl ⟨a1.rp, (a1.en.set r1 i).set r2 j, (a1.xa.set hi _).set hj _⟩⟩
def RIf (K : KW) (r : TIp) (g : Dv.D → Dv.D → Mem → R Dv.D) : Prop := R2f K (fun x y H Q => r x y H Q) g
theorem tsf_aug {i : Nat} {r : TIp} {g : Dv.D → Dv.D → Mem → R Dv.D} (hr : RIf K r g) (hf : TEf K W te f) (hi : Fr K i := by intro _ _ _ h; first | cases h | simp at h) : TSf K W (tAug i te r) (sAug i g f) := by
  intro σ H D env μ ρ at_ h
  unfold sAug at h
  cases e : env[i]? with
  | none => rw [e] at h; exact h.elim
  | some o =>
    cases o with
    | none => rw [e] at h; exact h.elim
    | some x =>
      rw [e] at h
      obtain ⟨v, hv, rv⟩ := at_.en.at_ _ _ e
      refine ⟨v, hv, hf.goS at_ h fun ρ1 H1 w d μ1 e1 a1 r1 q => ?_⟩
      refine hr _ _ x d μ1 ρ1 H1 _ (fun c d H' => W c d σ H') a1.rp (rv.ext e1) r1 ?_
      cases e2 : g x d μ1 with
      | no => rw [e2] at q; exact q
      | ex x' μ2 => rw [e2] at q; exact fun ρ2 H2 c d' e3 r3 rx => q ρ2 H2 σ c d' e3 (a1.ext e3 r3) rx
      | ok z μ2 =>
        rw [e2] at q
        exact fun ρ2 H2 zv e3 r3 rz => q ρ2 H2 _ e3 ⟨r3, (a1.en.ext e3).set rz i, (a1.xa.ext e3).set hi _⟩
/-- a store into an object -/
def TStf (K : KW) (t : TSet) (st : Dv.D → Dv.D → Dv.D → Mem → R Unit) : Prop := ∀ (o i v : V) (a b c : Dv.D) (H : Hp) (Q : Hp → Prop) (μ : Mem) (ρ : List Addr), Rep K ρ H μ → RV K ρ H o a → RV K ρ H i b → RV K ρ H v c →
  (match st a b c μ with | .ok _ μ' => ∀ ρ' H', Ext K ρ H ρ' H' → Rep K ρ' H' μ' → Q H' | _ => False) → t o i v H Q
def W0 : WX := fun _ _ _ _ => False
theorem tgf_sub {to ti : TE} {fo fi : F} {t : TSet} {st : Dv.D → Dv.D → Dv.D → Mem → R Unit} (ho : TEf K W0 to fo) (hi : TEf K W0 ti fi) (hs : TStf K t st) : TGf K (gSub to ti t) (gSubD fo fi st) := by
  intro v d σ H Q env μ ρ at_ r h
  unfold gSubD at h
  cases e1 : fo env μ with
  | no => rw [e1] at h; exact h.elim
  | ex _ _ => rw [e1] at h; exact h.elim
  | ok o μ1 =>
    rw [e1] at h
    refine ho σ H _ env μ ρ at_ ?_
    rw [e1]
    intro ρ1 H1 ov x1 r1 ro
    have a1 := at_.ext x1 r1
    have h : Pg K ((fi env μ1).get.bind fun i => (st o i.1 d i.2).get.bind fun m => some (env, m.2)) ρ H Q := h
    cases e2 : fi env μ1 with
    | no => rw [e2] at h; exact h.elim
    | ex _ _ => rw [e2] at h; exact h.elim
    | ok i μ2 =>
      rw [e2] at h
      refine hi σ H1 _ env μ1 ρ1 a1 ?_
      rw [e2]
      intro ρ2 H2 iv x2 r2 ri
      have h : Pg K ((st o i d μ2).get.bind fun m => some (env, m.2)) ρ H Q := h
      refine hs _ _ _ o i d _ _ μ2 ρ2 r2 (ro.ext x2) ri (r.ext (x1.trans x2)) ?_
      cases e3 : st o i d μ2 with
      | no => rw [e3] at h; exact h.elim
      | ex _ _ => rw [e3] at h; exact h.elim
      | ok z μ3 =>
        rw [e3] at h
        exact fun ρ3 H3 x3 r3 => h ρ3 H3 σ ((x1.trans x2).trans x3) ((at_.ext ((x1.trans x2).trans x3)) r3)
theorem tst_list : TStf K rSetL setL := by
  intro o i v a b c H Q μ ρ rp ra rb rc h
  cases ra with
  | @cell n p hp =>
    cases rb with
    | int k =>
      simp only [setL] at h
      cases e : μ[n]? with
      | none => rw [e] at h; exact h.elim
      | some cc =>
        rw [e] at h
        cases cc with
        | lst xs =>
          cases e2 : ixN xs.length k with
          | none => simp only [e2] at h
          | some j =>
            simp only [e2] at h
            obtain ⟨vs, h1, h2⟩ := rp.get hp e
            refine ⟨p, vs, k, j, rfl, rfl, h1, by rw [h2.len]; exact e2, ?_⟩
            have ee := ext_upd (K := K) ρ (o := .lst (vs.set j v)) (Wr.lst h1)
            exact h _ _ ee (rp.write hp (Wr.lst h1) ⟨_, upd_same, (h2.ext ee).set (rc.ext ee) j⟩)
        | dK _ => exact h.elim
        | ins _ _ => exact h.elim
        | set _ => exact h.elim
    | _ => exact h.elim
  | _ => exact h.elim
end
end
end Dv

set_option maxRecDepth 100000
set_option maxHeartbeats 4000000
namespace Dv
open PySem PySem.Spec PyProof.Rows L2
/-! ### what is walked -/
/-- its items; the lists that must stay as they are -/
structure ItD where
  items : List D
  guard : List (Nat × List D)
def gok (g : List (Nat × List D)) (μ : Mem) : Prop := ∀ p ∈ g, μ[p.1]? = some (.lst p.2)
@[simp] theorem gok_nil {μ : Mem} : gok [] μ := fun p h => nomatch h
theorem gok_one {n : Nat} {xs : List D} {μ : Mem} : gok [(n, xs)] μ ↔ μ[n]? = some (.lst xs) := by
  unfold gok
  constructor
  · intro h; exact h _ (List.mem_singleton.mpr rfl)
  · intro h p hp; rw [List.mem_singleton.mp hp]; exact h
abbrev FI := Env → Mem → R ItD
def ItR (K : KW) (ρ : List Addr) (H : Hp) (J : It) (d : ItD) : Prop := ∀ (ρ' : List Addr) (H' : Hp) (μ' : Mem), Ext K ρ H ρ' H' → Rep K ρ' H' μ' → gok d.guard μ' → ∀ i : Nat,
  (d.items.length ≤ i → J.stop i H') ∧ ∀ x : D, d.items[i]? = some x → J.go i H' ∧ ∀ v H2, J.yld i H' v H2 → Ext K ρ' H' ρ' H2 ∧ Rep K ρ' H2 μ' ∧ RV K ρ' H2 v x
theorem ItR.ext {K : KW} {ρ ρ' : List Addr} {H H' : Hp} {J : It} {d : ItD} (e : Ext K ρ H ρ' H') (h : ItR K ρ H J d) : ItR K ρ' H' J d := fun ρ1 H1 μ1 e1 => h ρ1 H1 μ1 (e.trans e1)
def TIf (K : KW) (W : WX) (wi : TI) (f : FI) : Prop := ∀ (σ : L2.St) (H : Hp) (Q : It → Hp → Prop) (env : Env) (μ : Mem) (ρ : List Addr), At K ρ H μ σ env → Pa K (ItR K) (f env μ) ρ H Q (fun c d H' => W c d σ H') → wi σ H Q
open Classical in
noncomputable def forGo (t : G) (b : S) (g : List (Nat × List D)) : List D → Env → Mem → RS
  | [], env, μ => if gok g μ then .nx env μ else .no
  | x :: xs, env, μ => if gok g μ then onG (t x env μ) fun e1 μ1 => match b e1 μ1 with
    | .nx e2 μ2 => forGo t b g xs e2 μ2
    | .ct e2 μ2 => forGo t b g xs e2 μ2
    | .bk e2 μ2 => .nx e2 μ2
    | r => r
    else .no
noncomputable def sFor (f : FI) (t : G) (b : S) : S := fun env μ => (f env μ).toS env fun it μ1 => forGo t b it.guard it.items env μ1
def whGo (c : FB) (b : S) : Nat → Env → Mem → RS
  | 0, _, _ => .no
  | n + 1, env, μ => (c env μ).toS env fun k μ1 => if k = true then match b env μ1 with
    | .nx e2 μ2 => whGo c b n e2 μ2
    | .ct e2 μ2 => whGo c b n e2 μ2
    | .bk e2 μ2 => .nx e2 μ2
    | r => r
    else .nx env μ1
open Classical in
noncomputable def sWhile (c : FB) (b : S) : S := fun env μ => if h : ∃ n, whGo c b n env μ ≠ .no then whGo c b (Classical.choose h) env μ else .no
theorem whGo_mono {c : FB} {b : S} : ∀ {n m : Nat} {env : Env} {μ : Mem}, n ≤ m → whGo c b n env μ ≠ .no → whGo c b m env μ = whGo c b n env μ
  | 0, _, _, _, _, h => absurd rfl h
  | n + 1, 0, _, _, hm, _ => absurd hm (by omega)
  | n + 1, m + 1, env, μ, hm, h => by
    unfold whGo at h ⊢
    cases e : c env μ with
    | no => rfl
    | ex _ _ => rfl
    | ok k μ1 =>
      rw [e] at h
      cases k with
      | false => rfl
      | true =>
        simp only [toS_ok, if_true] at h ⊢
        cases e2 : b env μ1 with
        | nx e2' μ2 => rw [e2] at h; simp only at h ⊢; exact whGo_mono (by omega) h
        | ct e2' μ2 => rw [e2] at h; simp only at h ⊢; exact whGo_mono (by omega) h
        | _ => rfl
/-- so many turns are enough -/
theorem sWhile_of {c : FB} {b : S} {env : Env} {μ : Mem} {r : RS} (n : Nat) (h : whGo c b n env μ = r) (hr : r ≠ .no) : sWhile c b env μ = r := by
  have ex : ∃ n, whGo c b n env μ ≠ .no := ⟨n, by rw [h]; exact hr⟩
  unfold sWhile
  rw [dif_pos ex]
  have hs := Classical.choose_spec ex
  rcases Nat.le_total n (Classical.choose ex) with l | l
  · rw [whGo_mono l (by rw [h]; exact hr), h]
  · rw [← whGo_mono l hs, h]
/-! ### list comprehensions -/
open Classical in
noncomputable def lcGo (t : G) (c : FB) (e : F) (g : List (Nat × List D)) (n0 : Nat) (env0 : Env) : List D → Mem → Option Mem
  | [], μ => if gok g μ then some μ else none
  | x :: xs, μ => if gok g μ then (t x env0 μ).bind fun p => (c p.1 p.2).get.bind fun k => if k.1 = true then (e p.1 k.2).get.bind fun y => match y.2[n0]? with
    | some (.lst acc) => if acc.length < sizeLine then lcGo t c e g n0 env0 xs (y.2.set n0 (.lst (acc ++ [y.1]))) else none
    | _ => none
    else lcGo t c e g n0 env0 xs k.2
    else none
def wipeE (env : Env) : List Nat → Env
  | [] => env
  | v :: vs => (wipeE env vs).set v none
noncomputable def fLc (f : FI) (t : G) (c : FB) (e : F) (vs : List Nat) : F := fun env μ => (f env μ).bind fun it μ1 => match lcGo t c e it.guard μ1.length (wipeE env vs) it.items (μ1 ++ [.lst []]) with
  | some μ2 => .ok (.cell μ1.length) μ2
  | none => .no
def bYes : FB := fun _ μ => .ok true μ
/-- what a target stores lies in these slots -/
def Own (g : TG) (vs : List Nat) : Prop := ∀ v σ H Q, g v σ H Q → g v σ H fun σ2 H2 => wipe σ2 vs = wipe σ vs ∧ Q σ2 H2
section
variable {K : KW} {W : WX}
theorem wipe_set {σ : L2.St} {i : Nat} {o : Option V} : ∀ {vs : List Nat}, i ∈ vs → wipe (σ.set i o) vs = wipe σ vs
  | [], h => nomatch h
  | v :: vs, h => by
    unfold wipe
    by_cases hm : i ∈ vs
    · rw [wipe_set hm]
    · have e : i = v := by
        rcases List.mem_cons.mp h with z | z
        · exact z
        · exact absurd z hm
      subst e
      have : ∀ ws : List Nat, i ∉ ws → wipe (σ.set i o) ws = (wipe σ ws).set i o := by
        intro ws
        induction ws with
        | nil => intro _; rfl
        | cons w ws ih =>
          intro hw
          unfold wipe
          rw [ih (fun z => hw (List.mem_cons_of_mem _ z)), List.set_comm]
          exact fun z => hw (by rw [z]; exact List.mem_cons_self)
      rw [this vs hm, List.set_set]
theorem wipe_out {i : Nat} {o : Option V} {σ : L2.St} : ∀ ws : List Nat, i ∉ ws → wipe (σ.set i o) ws = (wipe σ ws).set i o
  | [], _ => rfl
  | w :: ws, hw => by
    unfold wipe
    rw [wipe_out ws (fun z => hw (List.mem_cons_of_mem _ z)), List.set_comm]
    exact fun z => hw (by rw [z]; exact List.mem_cons_self)
theorem wipe_wipe (σ : L2.St) : ∀ vs : List Nat, wipe (wipe σ vs) vs = wipe σ vs
  | [] => rfl
  | v :: vs => by
    show (wipe ((wipe σ vs).set v none) vs).set v none = (wipe σ vs).set v none
    by_cases hm : v ∈ vs
    · rw [wipe_set hm, wipe_wipe σ vs]
    · rw [wipe_out vs hm, wipe_wipe σ vs, List.set_set]
theorem own_name {i : Nat} {vs : List Nat} (h : i ∈ vs) : Own (gName i) vs := fun v σ H Q q => ⟨wipe_set h, q⟩
def Owns (g : TGs) (vs : List Nat) : Prop := ∀ xs σ H Q, g xs σ H Q → g xs σ H fun σ2 H2 => wipe σ2 vs = wipe σ vs ∧ Q σ2 H2
theorem owns_nil {vs : List Nat} : Owns gNil vs := fun xs σ H Q q => ⟨q.1, rfl, q.2⟩
/-- weaker wishes -/
def Mono (g : TG) : Prop := ∀ v σ H Q Q', (∀ σ H, Q σ H → Q' σ H) → g v σ H Q → g v σ H Q'
def Monos (g : TGs) : Prop := ∀ v σ H Q Q', (∀ σ H, Q σ H → Q' σ H) → g v σ H Q → g v σ H Q'
theorem mono_name {i : Nat} : Mono (gName i) := fun v σ H Q Q' i q => i _ _ q
theorem monos_nil : Monos gNil := fun v σ H Q Q' i q => ⟨q.1, i _ _ q.2⟩
theorem monos_cons {g : TG} {gs : TGs} (h1 : Mono g) (h2 : Monos gs) : Monos (gCons g gs) := fun v σ H Q Q' i q => by
  obtain ⟨x, r, e, q⟩ := q
  exact ⟨x, r, e, h1 _ _ _ _ _ (fun σ H z => h2 _ _ _ _ _ i z) q⟩
theorem mono_tup {n : Nat} {gs : TGs} (h2 : Monos gs) : Mono (gTup K n gs) := fun v σ H Q Q' i q => by
  obtain ⟨a, xs, e, h, l, q⟩ := q
  exact ⟨a, xs, e, h, l, h2 _ _ _ _ _ i q⟩
theorem owns_cons {g : TG} {gs : TGs} {vs : List Nat} (m1 : Mono g) (m2 : Monos gs) (h1 : Own g vs) (h2 : Owns gs vs) : Owns (gCons g gs) vs := fun xs σ H Q q => by
  obtain ⟨x, r, e, q⟩ := q
  refine ⟨x, r, e, m1 _ _ _ _ _ ?_ (h1 _ _ _ _ q)⟩
  rintro σ1 H1 ⟨e1, q1⟩
  exact m2 _ _ _ _ _ (fun σ2 H2 z => ⟨z.1.trans e1, z.2⟩) (h2 _ _ _ _ q1)
theorem own_tup {n : Nat} {gs : TGs} {vs : List Nat} (h2 : Owns gs vs) : Own (gTup K n gs) vs := fun v σ H Q q => by
  obtain ⟨a, xs, e, h, l, q⟩ := q
  exact ⟨a, xs, e, h, l, h2 _ _ _ _ q⟩
theorem EnvR.wipe {ρ : List Addr} {H : Hp} {σ : L2.St} {env : Env} (h : EnvR K ρ H σ env) : ∀ vs : List Nat, EnvR K ρ H (L2.wipe σ vs) (wipeE env vs)
  | [] => h
  | v :: vs => by
    have ih := EnvR.wipe h vs
    unfold L2.wipe wipeE
    refine ⟨by simp [ih.len], fun i d q => ?_⟩
    rw [List.getElem?_set] at q
    by_cases z : v = i
    · rw [if_pos z] at q
      split at q <;> cases q
    · rw [if_neg z] at q
      obtain ⟨w, a, b⟩ := ih.at_ i d q
      exact ⟨w, by rw [List.getElem?_set_ne z]; exact a, b⟩
theorem XaOk.wipe {ρ : List Addr} {H : Hp} {σ : L2.St} (h : XaOk K ρ H σ) : ∀ {vs : List Nat}, (∀ i ∈ vs, Fr K i) → XaOk K ρ H (L2.wipe σ vs)
  | [], _ => h
  | v :: vs, hf => (XaOk.wipe h fun i hi => hf i (List.mem_cons_of_mem _ hi)).set (hf v List.mem_cons_self) _
theorem TIf.goS {wi : TI} {fi : FI} (hi : TIf K W wi fi) {σ : L2.St} {H : Hp} {env : Env} {μ : Mem} {ρ : List Addr} (at_ : At K ρ H μ σ env) {k : ItD → Mem → RS} {D : Ends} {Q' : It → Hp → Prop} (h : Ps K ((fi env μ).toS env k) ρ H D W)
    (next : ∀ ρ1 H1 J d μ1, Ext K ρ H ρ1 H1 → At K ρ1 H1 μ1 σ env → ItR K ρ1 H1 J d → Ps K (k d μ1) ρ1 H1 D W → Q' J H1) : wi σ H Q' := by
  refine hi σ H _ env μ ρ at_ ?_
  cases e : fi env μ with
  | ok d μ1 =>
    rw [e] at h
    exact fun ρ1 H1 v e1 r1 rv => next ρ1 H1 v d μ1 e1 (at_.ext e1 r1) rv (Ps.mono e1 h)
  | ex x μ1 =>
    rw [e] at h
    exact fun ρ1 H1 c d e1 r1 rx => h ρ1 H1 σ c d e1 (at_.ext e1 r1) rx
  | no => rw [e] at h; exact h
theorem tsf_for {wi : TI} {fi : FI} {g : TG} {t : G} {tb : TS} {b : S} (hi : TIf K W wi fi) (hg : TGf K g t) (hb : TSf K W tb b) : TSf K W (tFor wi g tb) (sFor fi t b) := by
  intro σ H D env μ ρ at_ h
  refine hi.goS at_ h fun ρ1 H1 J d μ1 e1 a1 rJ q => ?_
  refine ⟨fun i m σ' H' => m = d.items.length - i ∧ i ≤ d.items.length ∧ ∃ env' μ' ρ', Ext K ρ1 H1 ρ' H' ∧ At K ρ' H' μ' σ' env' ∧ Ps K (forGo t b d.guard (d.items.drop i) env' μ') ρ' H' D W, ⟨_, rfl, Nat.zero_le _, env, μ1, ρ1, Ext.refl, a1, q⟩, ?_⟩
  rintro i m σ2 H2 ⟨rfl, hi2, env2, μ2, ρ2, e2, a2, q2⟩
  by_cases hl : i < d.items.length
  · have ex : d.items.drop i = d.items[i] :: d.items.drop (i + 1) := List.drop_eq_getElem_cons hl
    rw [ex] at q2
    unfold forGo at q2
    by_cases hk : gok d.guard μ2
    · rw [if_pos hk] at q2
      have st := (rJ ρ2 H2 μ2 e2 a2.rp hk i).2 d.items[i] (List.getElem?_eq_getElem hl)
      refine .inr ⟨st.1, fun σ' H' => ∃ m', m' < d.items.length - i ∧ (m' = d.items.length - (i + 1) ∧ i + 1 ≤ d.items.length ∧ ∃ env' μ' ρ', Ext K ρ1 H1 ρ' H' ∧ At K ρ' H' μ' σ' env' ∧ Ps K (forGo t b d.guard (d.items.drop (i + 1)) env' μ') ρ' H' D W), fun _ _ z => z, fun v H3 y => ?_⟩
      obtain ⟨e3, r3, rv⟩ := st.2 v H3 y
      have a3 : At K ρ2 H3 μ2 σ2 env2 := a2.ext e3 r3
      refine hg _ _ _ _ _ _ _ _ a3 rv (Pg.imp (Ps.onG (Ps.mono e3 q2)) ?_)
      rintro σ4 H4 ⟨ρ4, env4, μ4, e4, a4, q4⟩
      refine hb _ _ _ _ _ _ a4 ?_
      have again : ∀ {env5 : Env} {μ5 : Mem}, Ps K (forGo t b d.guard (d.items.drop (i + 1)) env5 μ5) ρ4 H4 D W → ∀ ρ' H' σ', Ext K ρ4 H4 ρ' H' → At K ρ' H' μ5 σ' env5 →
          ∃ m', m' < d.items.length - i ∧ (m' = d.items.length - (i + 1) ∧ i + 1 ≤ d.items.length ∧ ∃ env' μ' ρ', Ext K ρ1 H1 ρ' H' ∧ At K ρ' H' μ' σ' env' ∧ Ps K (forGo t b d.guard (d.items.drop (i + 1)) env' μ') ρ' H' D W) :=
        fun q5 ρ' H' σ' e5 a5 => ⟨d.items.length - (i + 1), by omega, rfl, hl, _, _, ρ', ((e2.trans e3).trans e4).trans e5, a5, Ps.mono e5 q5⟩
      cases e5 : b env4 μ4 with
      | nx env5 μ5 => rw [e5] at q4; exact again q4
      | ct env5 μ5 => rw [e5] at q4; exact again q4
      | bk env5 μ5 => rw [e5] at q4; exact q4
      | rt _ _ => rw [e5] at q4; exact q4
      | ex _ _ _ => rw [e5] at q4; exact q4
      | no => rw [e5] at q4; exact q4
    · rw [if_neg hk] at q2
      exact q2.elim
  · have e0 : i = d.items.length := by omega
    have ex : d.items.drop i = [] := by rw [e0]; exact List.drop_length
    rw [ex] at q2
    unfold forGo at q2
    by_cases hk : gok d.guard μ2
    · rw [if_pos hk] at q2
      exact .inl ⟨(rJ ρ2 H2 μ2 e2 a2.rp hk i).1 (by omega), q2.nx a2⟩
    · rw [if_neg hk] at q2
      exact q2.elim
theorem tsf_while {c : FB} {b : S} {tc : TT} {tb : TS} (hc : TBf K W tc c) (hb : TSf K W tb b) : TSf K W (tWhile tc tb) (sWhile c b) := by
  intro σ H D env μ ρ at_ h
  unfold sWhile at h
  by_cases hx : ∃ n, whGo c b n env μ ≠ .no
  · rw [dif_pos hx] at h
    generalize Classical.choose hx = n0 at h
    refine ⟨fun m σ' H' => ∃ env' μ' ρ', Ext K ρ H ρ' H' ∧ At K ρ' H' μ' σ' env' ∧ Ps K (whGo c b m env' μ') ρ' H' D W, ⟨n0, env, μ, ρ, Ext.refl, at_, h⟩, ?_⟩
    rintro m σ1 H1 ⟨env1, μ1, ρ1, e1, a1, q1⟩
    cases m with
    | zero => exact q1.elim
    | succ m =>
      unfold whGo at q1
      refine hc.goS a1 q1 fun ρ2 H2 k μ2 e2 a2 q2 => ?_
      cases k with
      | false => exact q2.nx a2
      | true =>
        rw [if_pos rfl] at q2
        refine ⟨fun σ' H' => ∃ m', m' < m + 1 ∧ ∃ env' μ' ρ', Ext K ρ H ρ' H' ∧ At K ρ' H' μ' σ' env' ∧ Ps K (whGo c b m' env' μ') ρ' H' D W, fun _ _ z => z, ?_⟩
        refine hb _ _ _ _ _ _ a2 ?_
        have again : ∀ {env5 : Env} {μ5 : Mem}, Ps K (whGo c b m env5 μ5) ρ2 H2 D W → ∀ ρ' H' σ', Ext K ρ2 H2 ρ' H' → At K ρ' H' μ5 σ' env5 →
            ∃ m', m' < m + 1 ∧ ∃ env' μ' ρ', Ext K ρ H ρ' H' ∧ At K ρ' H' μ' σ' env' ∧ Ps K (whGo c b m' env' μ') ρ' H' D W := fun q5 ρ' H' σ' e5 a5 => ⟨m, by omega, _, _, ρ', (e1.trans e2).trans e5, a5, Ps.mono e5 q5⟩
        cases e5 : b env1 μ2 with
        | nx env5 μ5 => rw [e5] at q2; exact again q2
        | ct env5 μ5 => rw [e5] at q2; exact again q2
        | bk env5 μ5 => rw [e5] at q2; exact q2
        | rt _ _ => rw [e5] at q2; exact q2
        | ex _ _ _ => rw [e5] at q2; exact q2
        | no => rw [e5] at q2; exact q2
  · rw [dif_neg hx] at h
    exact h.elim
theorem tbf_yes : TBf K W tYes bYes := fun σ H Q env μ ρ at_ h => h.ok at_.rp rfl
theorem tef_lc {wi : TI} {fi : FI} {g : TG} {t : G} {tt : TT} {c : FB} {te : TE} {e : F} {vs : List Nat} (hi : TIf K W wi fi) (hg : TGf K g t) (ho : Own g vs) (hc : TBf K W0 tt c) (he : TEf K W0 te e) (hfr : ∀ i ∈ vs, Fr K i := by intro i hi; simp at hi; intro _ _ _ h; first | cases h | (simp at h; omega)) : TEf K W (tLc wi g tt te vs) (fLc fi t c e vs) := by
  intro σ H Q env μ ρ at_ h
  have h : Pd K ((fi env μ).bind fun it μ1 => match lcGo t c e it.guard μ1.length (wipeE env vs) it.items (μ1 ++ [.lst []]) with
    | some μ2 => .ok (.cell μ1.length) μ2
    | none => .no) ρ H Q (fun c d H' => W c d σ H') := h
  refine hi σ H _ env μ ρ at_ (Pa.imp (Pa.bind h) ?_ fun _ _ _ z => z)
  rintro J H1 ⟨ρ1, d, μ1, e1, r1, rJ, h1⟩ A hA
  have a1 := at_.ext e1 r1
  have ea := ext_new (K := K) ρ1 (o := .lst []) hA
  have ra : Rep K (ρ1 ++ [A]) (upd H1 A (.lst [])) (μ1 ++ [.lst []]) := r1.new hA ⟨[], upd_same, .nil⟩
  have gA : (ρ1 ++ [A])[μ1.length]? = some A := by rw [← r1.len]; simp
  have h1 : Pd K (match lcGo t c e d.guard μ1.length (wipeE env vs) d.items (μ1 ++ [.lst []]) with
    | some μ2 => R.ok (.cell μ1.length) μ2
    | none => .no) (ρ1 ++ [A]) (upd H1 A (.lst [])) Q (fun c d H' => W c d σ H') := Pa.mono ea h1
  have en0 : EnvR K (ρ1 ++ [A]) (upd H1 A (.lst [])) (wipe σ vs) (wipeE env vs) := (a1.en.ext ea).wipe vs
  generalize hn0 : μ1.length = n0 at h1 gA
  have xa0 : XaOk K (ρ1 ++ [A]) (upd H1 A (.lst [])) (wipe σ vs) := (a1.xa.ext ea).wipe hfr
  refine ⟨fun i m H' => m = d.items.length - i ∧ i ≤ d.items.length ∧ ∃ μ' ρ', Ext K (ρ1 ++ [A]) (upd H1 A (.lst [])) ρ' H' ∧ Rep K ρ' H' μ' ∧ Pd K (match lcGo t c e d.guard n0 (wipeE env vs) (d.items.drop i) μ' with
    | some μ2 => R.ok (.cell n0) μ2
    | none => .no) ρ' H' Q (fun c d H' => W c d σ H'), ⟨_, rfl, Nat.zero_le _, _, _, Ext.refl, ra, h1⟩, ?_⟩
  rintro i m H2 ⟨rfl, hi2, μ2, ρ2, e2, r2, q2⟩
  have a2 : At K ρ2 H2 μ2 (wipe σ vs) (wipeE env vs) := ⟨r2, en0.ext e2, xa0.ext e2⟩
  by_cases hl : i < d.items.length
  · have ex : d.items.drop i = d.items[i] :: d.items.drop (i + 1) := List.drop_eq_getElem_cons hl
    rw [ex] at q2
    unfold lcGo at q2
    by_cases hk : gok d.guard μ2
    · rw [if_pos hk] at q2
      have st := (rJ ρ2 H2 μ2 (ea.trans e2) r2 hk i).2 d.items[i] (List.getElem?_eq_getElem hl)
      refine .inr ⟨st.1, fun H' => ∃ m', m' < d.items.length - i ∧ (m' = d.items.length - (i + 1) ∧ i + 1 ≤ d.items.length ∧ ∃ μ' ρ', Ext K (ρ1 ++ [A]) (upd H1 A (.lst [])) ρ' H' ∧ Rep K ρ' H' μ' ∧ Pd K (match lcGo t c e d.guard n0 (wipeE env vs) (d.items.drop (i + 1)) μ' with
        | some μ2 => R.ok (.cell n0) μ2
        | none => .no) ρ' H' Q (fun c d H' => W c d σ H')), fun _ z => z, fun v H3 y => ?_⟩
      obtain ⟨e3, r3, rv⟩ := st.2 v H3 y
      have a3 : At K ρ2 H3 μ2 (wipe σ vs) (wipeE env vs) := a2.ext e3 r3
      have key : ∀ Q, g v (wipe σ vs) H3 Q → g v (wipe σ vs) H3 fun σ2 H2 => wipe σ2 vs = wipe σ vs ∧ Q σ2 H2 := fun Q q => by
        have z := ho v _ H3 Q q
        rw [wipe_wipe] at z
        exact z
      refine key _ (hg _ _ _ _ _ _ _ _ a3 rv ?_)
      cases t4 : t d.items[i] (wipeE env vs) μ2 with
      | none => rw [t4] at q2; exact q2.elim
      | some p =>
        rw [t4] at q2
        intro ρ4 H4 σ4 e4 a4
        have q2 : Pd K (match ((c p.1 p.2).get.bind fun k => if k.1 = true then (e p.1 k.2).get.bind fun y => match y.2[n0]? with
            | some (.lst acc) => if acc.length < sizeLine then lcGo t c e d.guard n0 (wipeE env vs) (d.items.drop (i + 1)) (y.2.set n0 (.lst (acc ++ [y.1]))) else none
            | _ => none
            else lcGo t c e d.guard n0 (wipeE env vs) (d.items.drop (i + 1)) k.2) with
          | some μ2 => R.ok (.cell n0) μ2
          | none => .no) ρ2 H2 Q (fun c d H' => W c d σ H') := q2
        refine hc _ _ _ p.1 p.2 _ a4 ?_
        cases c5 : c p.1 p.2 with
        | no => rw [c5] at q2; exact q2.elim
        | ex _ _ => rw [c5] at q2; exact q2.elim
        | ok k μ5 =>
          rw [c5] at q2
          rintro ρ5 H5 b e5 r5 rfl
          have a5 := a4.ext e5 r5
          cases b with
          | false =>
            rw [if_neg (by decide)]
            exact ⟨d.items.length - (i + 1), by omega, rfl, hl, μ5, ρ5, ((e2.trans e3).trans e4).trans e5, r5, Pa.mono ((e3.trans e4).trans e5) q2⟩
          | true =>
            rw [if_pos rfl]
            have q2 : Pd K (match ((e p.1 μ5).get.bind fun y => match y.2[n0]? with
              | some (.lst acc) => if acc.length < sizeLine then lcGo t c e d.guard n0 (wipeE env vs) (d.items.drop (i + 1)) (y.2.set n0 (.lst (acc ++ [y.1]))) else none
              | _ => none) with
              | some μ2 => R.ok (.cell n0) μ2
              | none => .no) ρ2 H2 Q (fun c d H' => W c d σ H') := q2
            refine he _ _ _ p.1 μ5 _ a5 ?_
            cases c6 : e p.1 μ5 with
            | no => rw [c6] at q2; exact q2.elim
            | ex _ _ => rw [c6] at q2; exact q2.elim
            | ok y μ6 =>
              rw [c6] at q2
              intro ρ6 H6 yv e6 r6 ry
              have e26 := (((e2.trans e3).trans e4).trans e5).trans e6
              have gA6 := e26.get gA
              have q2 : Pd K (match (match μ6[n0]? with
                | some (.lst acc) => if acc.length < sizeLine then lcGo t c e d.guard n0 (wipeE env vs) (d.items.drop (i + 1)) (μ6.set n0 (.lst (acc ++ [y]))) else none
                | _ => none) with
                | some μ2 => R.ok (.cell n0) μ2
                | none => .no) ρ2 H2 Q (fun c d H' => W c d σ H') := q2
              cases m6 : μ6[n0]? with
              | none => rw [m6] at q2; exact q2.elim
              | some cc =>
                rw [m6] at q2
                cases cc with
                | dK _ => exact q2.elim
                | ins _ _ => exact q2.elim
                | set _ => exact q2.elim
                | lst acc =>
                  obtain ⟨vs6, g1, g2⟩ := r6.get gA6 m6
                  by_cases hz : acc.length < sizeLine
                  · have q2 : Pd K (match (if acc.length < sizeLine then lcGo t c e d.guard n0 (wipeE env vs) (d.items.drop (i + 1)) (μ6.set n0 (.lst (acc ++ [y]))) else none) with
                      | some μ2 => R.ok (.cell n0) μ2
                      | none => .no) ρ2 H2 Q (fun c d H' => W c d σ H') := q2
                    rw [if_pos hz] at q2
                    have ew := ext_upd (K := K) ρ6 (o := .lst (vs6 ++ [yv])) (Wr.lst g1)
                    exact ⟨vs6, g1, by rw [g2.len]; exact hz, d.items.length - (i + 1), by omega, rfl, hl, _, ρ6, e26.trans ew, r6.write gA6 (Wr.lst g1) (c := .lst (acc ++ [y])) ⟨_, upd_same, (g2.ext ew).app (.cons (ry.ext ew) .nil)⟩, Pa.mono ((((e3.trans e4).trans e5).trans e6).trans ew) q2⟩
                  · have q2 : Pd K (match (if acc.length < sizeLine then lcGo t c e d.guard n0 (wipeE env vs) (d.items.drop (i + 1)) (μ6.set n0 (.lst (acc ++ [y]))) else none) with
                      | some μ2 => R.ok (.cell n0) μ2
                      | none => .no) ρ2 H2 Q (fun c d H' => W c d σ H') := q2
                    rw [if_neg hz] at q2
                    exact q2.elim
    · rw [if_neg hk] at q2
      exact q2.elim
  · have e0 : i = d.items.length := by omega
    have ex : d.items.drop i = [] := by rw [e0]; exact List.drop_length
    rw [ex] at q2
    unfold lcGo at q2
    by_cases hk : gok d.guard μ2
    · rw [if_pos hk] at q2
      exact .inl ⟨(rJ ρ2 H2 μ2 (ea.trans e2) r2 hk i).1 (by omega), Pa.ok (rel := RV K) q2 r2 (.cell (e2.get gA))⟩
    · rw [if_neg hk] at q2
      exact q2.elim
/-! ### iterables -/
def iTupD (f : F) : FI := fun env μ => (f env μ).bind fun d μ1 => match d with
  | .tup xs => .ok ⟨xs, []⟩ μ1
  | _ => .no
def iLstD (f : F) : FI := fun env μ => (f env μ).bind fun d μ1 => match d with
  | .cell n => match μ1[n]? with
    | some (.lst xs) => .ok ⟨xs, [(n, xs)]⟩ μ1
    | _ => .no
  | .scr ns => .ok ⟨ns.map .int, []⟩ μ1
  | _ => .no
def rngD (lo : Int) (n : Nat) : List D := (List.range n).map fun (i : Nat) => D.int (lo + (i : Int))
def smallR (j : Int) : Prop := -(2 ^ 62) ≤ j ∧ j < 2 ^ 62
noncomputable instance (j : Int) : Decidable (smallR j) := Classical.propDecidable _
def idxOk (i : Int) : Prop := -(2 ^ 63) ≤ i ∧ i < 2 ^ 63
noncomputable instance (i : Int) : Decidable (idxOk i) := Classical.propDecidable _
noncomputable def iRng1D (fs : FA) : FI := fun env μ => (fs env μ).bind fun ds μ1 => match ds with
  | [.int j] => if smallR j then .ok ⟨rngD 0 j.toNat, []⟩ μ1 else .no
  | _ => .no
noncomputable def iRng2D (fs : FA) : FI := fun env μ => (fs env μ).bind fun ds μ1 => match ds with
  | [.int i, .int j] => if smallR i ∧ smallR j then .ok ⟨rngD i (j - i).toNat, []⟩ μ1 else .no
  | _ => .no
theorem itr_rng {ρ : List Addr} {H : Hp} {lo : Int} {n : Nat} : ItR K ρ H (Itr lo n) ⟨rngD lo n, []⟩ := by
  intro ρ' H' μ' e r g i
  have hl : (rngD lo n).length = n := by simp [rngD]
  refine ⟨fun h => ?_, fun x hx => ⟨?_, ?_⟩⟩
  · show n ≤ i
    rw [← hl]; exact h
  · have := (List.getElem?_eq_some_iff.mp hx).1
    show i < n
    rw [← hl]; exact this
  · rintro v H2 ⟨rfl, rfl⟩
    have hi := (List.getElem?_eq_some_iff.mp hx).1
    have : (rngD lo n)[i]? = some (.int (lo + (i : Int))) := by
      rw [hl] at hi
      simp [rngD, hi]
    have hx : (rngD lo n)[i]? = some x := hx
    rw [this] at hx
    cases hx
    exact ⟨Ext.refl, r, .int _⟩
theorem tif_tup {te : TE} {f : F} (hf : TEf K W te f) : TIf K W (iTup K te) (iTupD f) := by
  intro σ H Q env μ ρ at_ h
  refine hf.go at_ h fun ρ1 H1 v d μ1 e1 a1 r1 h1 => ?_
  cases r1 with
  | @tup a vs ds hs rs =>
    refine ⟨a, rfl, ⟨vs, hs⟩, Pa.ok (rel := ItR K) h1 a1.rp ?_⟩
    intro ρ' H' μ' e r g i
    have hs' := e.tup _ _ hs
    refine ⟨fun hi => ⟨vs, hs', by rw [rs.len]; exact hi⟩, fun x hx => ?_⟩
    obtain ⟨v, h1, h2⟩ := rs.get hx
    refine ⟨⟨vs, v, hs', h1⟩, ?_⟩
    rintro v' H2 ⟨rfl, hv⟩
    have := hv vs hs'
    rw [h1] at this
    cases this
    exact ⟨Ext.refl, r, h2.ext e⟩
  | _ => exact h1.elim
theorem tif_lst {te : TE} {f : F} (hf : TEf K W te f) : TIf K W (iList K te) (iLstD f) := by
  intro σ H Q env μ ρ at_ h
  refine hf.go at_ h fun ρ1 H1 v d μ1 e1 a1 r1 h1 => ?_
  cases r1 with
  | @cell n a hn =>
    simp only at h1
    cases e : μ1[n]? with
    | none => rw [e] at h1; exact h1.elim
    | some cc =>
      rw [e] at h1
      cases cc with
      | dK _ => exact h1.elim
      | ins _ _ => exact h1.elim
      | set _ => exact h1.elim
      | lst xs =>
        obtain ⟨vs, q1, q2⟩ := a1.rp.get hn e
        refine ⟨a, rfl, ⟨vs, SqL.of q1⟩, Pa.ok (rel := ItR K) h1 a1.rp ?_⟩
        intro ρ' H' μ' e' r g i
        have gk : μ'[n]? = some (.lst xs) := g (n, xs) (List.mem_singleton.mpr rfl)
        obtain ⟨ws, w1, w2⟩ := r.get (e'.get hn) gk
        refine ⟨fun hi => ⟨ws, SqL.of w1, by rw [w2.len]; exact hi⟩, fun x hx => ?_⟩
        obtain ⟨v, h1, h2⟩ := w2.get hx
        refine ⟨⟨ws, v, SqL.of w1, h1⟩, ?_⟩
        rintro v' H2 ⟨rfl, hv⟩
        have := hv ws (SqL.of w1)
        rw [h1] at this
        cases this
        exact ⟨Ext.refl, r, h2⟩
  | @scr a ns hs =>
    refine ⟨a, rfl, ⟨_, hs.sq⟩, Pa.ok (rel := ItR K) h1 a1.rp ?_⟩
    intro ρ' H' μ' e' r g i
    have hs' := (e'.fz _ _ hs).sq
    have rs : RVs K ρ' H' (ns.map V.int) (ns.map D.int) := .ints
    refine ⟨fun hi => ⟨_, hs', by rw [rs.len]; exact hi⟩, fun x hx => ?_⟩
    obtain ⟨v, h1, h2⟩ := rs.get hx
    refine ⟨⟨_, v, hs', h1⟩, ?_⟩
    rintro v' H2 ⟨rfl, hv⟩
    have := hv _ hs'
    rw [h1] at this
    cases this
    exact ⟨Ext.refl, r, h2⟩
  | _ => exact h1.elim
theorem tif_rng1 {ta : TA} {fs : FA} (hf : TAf K W ta fs) : TIf K W (iRng1 ta) (iRng1D fs) := by
  intro σ H Q env μ ρ at_ h
  refine hf.go at_ h fun ρ1 H1 v d μ1 e1 a1 r1 h1 => ?_
  cases r1 with
  | nil => exact h1.elim
  | cons q r =>
    cases r with
    | cons _ _ => cases q <;> exact h1.elim
    | nil =>
      cases q with
      | int j =>
        have h1 : Pa K (ItR K) (if smallR j then R.ok (⟨rngD 0 j.toNat, []⟩ : ItD) μ1 else .no) ρ1 H1 Q (fun c d H' => W c d σ H') := h1
        by_cases hj : smallR j
        · rw [if_pos hj] at h1
          exact ⟨j, rfl, hj.1, hj.2, Pa.ok (rel := ItR K) h1 a1.rp itr_rng⟩
        · rw [if_neg hj] at h1
          exact h1.elim
      | _ => exact h1.elim
theorem tif_rng2 {ta : TA} {fs : FA} (hf : TAf K W ta fs) : TIf K W (iRng2 ta) (iRng2D fs) := by
  intro σ H Q env μ ρ at_ h
  refine hf.go at_ h fun ρ1 H1 v d μ1 e1 a1 r1 h1 => ?_
  cases r1 with
  | nil => exact h1.elim
  | cons q r =>
    cases r with
    | nil => cases q <;> exact h1.elim
    | cons q2 r =>
      cases r with
      | cons _ _ => cases q <;> cases q2 <;> exact h1.elim
      | nil =>
        cases q with
        | int i =>
          cases q2 with
          | int j =>
            have h1 : Pa K (ItR K) (if smallR i ∧ smallR j then R.ok (⟨rngD i (j - i).toNat, []⟩ : ItD) μ1 else .no) ρ1 H1 Q (fun c d H' => W c d σ H') := h1
            by_cases hj : smallR i ∧ smallR j
            · rw [if_pos hj] at h1
              exact ⟨i, j, rfl, ⟨hj.1.1, hj.1.2, hj.2.1, hj.2.2⟩, Pa.ok (rel := ItR K) h1 a1.rp itr_rng⟩
            · rw [if_neg hj] at h1
              exact h1.elim
          | _ => exact h1.elim
        | _ => exact h1.elim
end
end Dv

set_option maxRecDepth 100000
set_option maxHeartbeats 4000000
namespace Dv
open PySem PySem.Spec PyProof.Rows L2
/-! ### operators on values -/
def dI0 (g : Int → Int → D) : D → D → Mem → R D
  | .int i, .int j, μ => .ok (g i j) μ
  | _, _, _ => .no
def dI (C : Int → Int → Prop) [∀ i j, Decidable (C i j)] (g : Int → Int → D) : D → D → Mem → R D
  | .int i, .int j, μ => if C i j then .ok (g i j) μ else .no
  | _, _, _ => .no
noncomputable instance (i j : Int) : Decidable (CMul i j) := Classical.propDecidable _
noncomputable instance (i j : Int) : Decidable (CDivN i j) := Classical.propDecidable _
noncomputable instance (i j : Int) : Decidable (CPow i j) := Classical.propDecidable _
@[simp] theorem dI0_int {g : Int → Int → D} {i j : Int} {μ : Mem} : dI0 g (.int i) (.int j) μ = .ok (g i j) μ := rfl
theorem dI_int {C : Int → Int → Prop} [∀ i j, Decidable (C i j)] {g : Int → Int → D} {i j : Int} {μ : Mem} (h : C i j) : dI C g (.int i) (.int j) μ = .ok (g i j) μ := if_pos h
section
variable {K : KW} {W : WX}
theorem r2_I0 {gv : Int → Int → V} {gd : Int → Int → D} (h : ∀ i j ρ H, RV K ρ H (gv i j) (gd i j)) : R2f K (rI0 gv) (dI0 gd) := by
  intro x y a b μ ρ H Q E rp ra rb q
  cases ra with
  | int i =>
    cases rb with
    | int j => exact ⟨i, j, rfl, rfl, Pa.ok (rel := RV K) q rp (h _ _ _ _)⟩
    | _ => exact q.elim
  | _ => exact q.elim
theorem r2_I {C : Int → Int → Prop} [∀ i j, Decidable (C i j)] {gv : Int → Int → V} {gd : Int → Int → D} (h : ∀ i j ρ H, RV K ρ H (gv i j) (gd i j)) : R2f K (rI C gv) (dI C gd) := by
  intro x y a b μ ρ H Q E rp ra rb q
  cases ra with
  | int i =>
    cases rb with
    | int j =>
      have q : Pd K (if C i j then R.ok (gd i j) μ else .no) ρ H Q E := q
      by_cases c : C i j
      · rw [if_pos c] at q
        exact ⟨i, j, rfl, rfl, c, Pa.ok (rel := RV K) q rp (h _ _ _ _)⟩
      · rw [if_neg c] at q
        exact q.elim
    | _ => exact q.elim
  | _ => exact q.elim
abbrev dAdd := dI0 fun i j => .int (i + j)
abbrev dSub := dI0 fun i j => .int (i - j)
noncomputable abbrev dMul := dI CMul fun i j => .int (i * j)
noncomputable abbrev dFdiv := dI CDivN fun i j => .int (i.fdiv j)
noncomputable abbrev dMod := dI (fun _ j => j ≠ 0) fun i j => .int (i.fmod j)
noncomputable abbrev dPow := dI CPow fun i j => .int (i ^ j.toNat)
noncomputable abbrev dShl := dI CPow fun i j => .int (i * 2 ^ j.toNat)
abbrev dShr := dI (fun _ j => 0 ≤ j) fun i j => .int (i / 2 ^ j.toNat)
abbrev dAndB := dI0 fun i j => .int (Builtin.bitAnd i j)
abbrev dOrB := dI0 fun i j => .int (Builtin.bitOr i j)
abbrev dLt := dI0 fun i j => .bl (decide (i < j))
abbrev dLe := dI0 fun i j => .bl (decide (i ≤ j))
abbrev dGt := dI0 fun i j => .bl (decide (j < i))
abbrev dGe := dI0 fun i j => .bl (decide (j ≤ i))
theorem r_add : R2f K (rI0 fun i j => .int (i + j)) dAdd := r2_I0 fun _ _ _ _ => .int _
theorem r_sub : R2f K (rI0 fun i j => .int (i - j)) dSub := r2_I0 fun _ _ _ _ => .int _
theorem r_mul : R2f K (rI CMul fun i j => .int (i * j)) dMul := r2_I fun _ _ _ _ => .int _
theorem r_fdiv : R2f K (rI CDivN fun i j => .int (i.fdiv j)) dFdiv := r2_I fun _ _ _ _ => .int _
theorem r_mod : R2f K (rI (fun _ j => j ≠ 0) fun i j => .int (i.fmod j)) dMod := r2_I fun _ _ _ _ => .int _
theorem r_pow : R2f K (rI CPow fun i j => .int (i ^ j.toNat)) dPow := r2_I fun _ _ _ _ => .int _
theorem r_shl : R2f K (rI CPow fun i j => .int (i * 2 ^ j.toNat)) dShl := r2_I fun _ _ _ _ => .int _
theorem r_shr : R2f K (rI (fun _ j => 0 ≤ j) fun i j => .int (i / 2 ^ j.toNat)) dShr := r2_I fun _ _ _ _ => .int _
theorem r_andB : R2f K (rI0 fun i j => .int (Builtin.bitAnd i j)) dAndB := r2_I0 fun _ _ _ _ => .int _
theorem r_orB : R2f K (rI0 fun i j => .int (Builtin.bitOr i j)) dOrB := r2_I0 fun _ _ _ _ => .int _
theorem r_lt : R2f K (rI0 fun i j => .bl (decide (i < j))) dLt := r2_I0 fun _ _ _ _ => .bl _
theorem r_le : R2f K (rI0 fun i j => .bl (decide (i ≤ j))) dLe := r2_I0 fun _ _ _ _ => .bl _
theorem r_gt : R2f K (rI0 fun i j => .bl (decide (j < i))) dGt := r2_I0 fun _ _ _ _ => .bl _
theorem r_ge : R2f K (rI0 fun i j => .bl (decide (j ≤ i))) dGe := r2_I0 fun _ _ _ _ => .bl _
theorem r_iadd : RIf K (ipI fun i j => i + j) dAdd := r_add
theorem r_isub : RIf K (ipI fun i j => i - j) dSub := r_sub
def dNeg : D → Mem → R D
  | .int i, μ => .ok (.int (-i)) μ
  | _, _ => .no
theorem r_neg : R1f K (rU fun i => .int (-i)) dNeg := by
  intro x a μ ρ H Q E rp ra q
  cases ra with
  | int i => exact ⟨i, rfl, Pa.ok (rel := RV K) q rp (.int _)⟩
  | _ => exact q.elim
/-! texts -/
theorem str_all {z : Str} : PyData.canLay0 (.str z) = z.cps.all (· < 0x110000) := by
  simp only [PyData.canLay0]; rfl
theorem strV_app {x y : Str} (hx : StrV x) (hy : StrV y) (h : x.length + y.length ≤ sizeLine) : StrV (x ++ y) := by
  refine ⟨by rw [str_len, (show (x ++ y : Str).cps = x.cps ++ y.cps from rfl)]; rw [str_len, str_len] at h; simpa using h, ?_⟩
  have h1 := hx.2
  have h2 := hy.2
  rw [str_all] at *
  show (x.cps ++ y.cps).all (· < 0x110000) = true
  rw [Array.all_append, h1, h2]
  rfl
theorem strV_of {z : Str} {l : List Nat} (e : z.cps.toList = l) (n : l.length ≤ sizeLine) (h : ∀ c ∈ l, c < 0x110000) : StrV z := by
  refine ⟨by rw [str_len, e]; exact n, ?_⟩
  rw [str_all, ← Array.all_toList, e, List.all_eq_true]
  intro c hc
  exact decide_eq_true (h c hc)
theorem strV_lt {z : Str} (h : StrV z) : ∀ c ∈ z.cps.toList, c < 0x110000 := by
  have h2 := h.2
  rw [str_all, ← Array.all_toList, List.all_eq_true] at h2
  intro c hc
  exact of_decide_eq_true (h2 c hc)
def dAddS : D → D → Mem → R D
  | .str x, .str y, μ => if x.length + y.length ≤ sizeLine then .ok (.str (x ++ y)) μ else .no
  | _, _, _ => .no
theorem r_addS : R2f K (fun x y H Q => ∃ i j, x = .str i ∧ y = .str j ∧ i.length + j.length ≤ sizeLine ∧ Q (.str (i ++ j)) H) dAddS := by
  intro x y a b μ ρ H Q E rp ra rb q
  cases ra with
  | @str i hi =>
    cases rb with
    | @str j hj =>
      have q : Pd K (if i.length + j.length ≤ sizeLine then R.ok (.str (i ++ j)) μ else .no) ρ H Q E := q
      by_cases c : i.length + j.length ≤ sizeLine
      · rw [if_pos c] at q
        exact ⟨i, j, rfl, rfl, c, Pa.ok (rel := RV K) q rp (.str (strV_app hi hj c))⟩
      · rw [if_neg c] at q
        exact q.elim
    | _ => exact q.elim
  | _ => exact q.elim
/-! lists and tuples put together -/
def lstOf (μ : Mem) : D → Option (List D)
  | .cell n => match μ[n]? with
    | some (.lst xs) => some xs
    | _ => none
  | _ => none
theorem lstOf_rep {μ : Mem} {ρ : List Addr} {H : Hp} {v : V} {d : D} {xs : List D} (rp : Rep K ρ H μ) (r : RV K ρ H v d) (h : lstOf μ d = some xs) : ∃ n a vs, d = .cell n ∧ v = .ref a ∧ ρ[n]? = some a ∧ μ[n]? = some (.lst xs) ∧ H a = some (.lst vs) ∧ RVs K ρ H vs xs := by
  cases r with
  | @cell n a hn =>
    simp only [lstOf] at h
    cases e : μ[n]? with
    | none => rw [e] at h; cases h
    | some c =>
      rw [e] at h
      cases c with
      | lst ys =>
        cases h
        obtain ⟨vs, q1, q2⟩ := rp.get hn e
        exact ⟨n, a, vs, rfl, rfl, hn, e, q1, q2⟩
      | _ => cases h
  | _ => cases h
def dCatL (a b : D) (μ : Mem) : R D := match lstOf μ a, lstOf μ b with
  | some xs, some ys => if xs.length + ys.length ≤ sizeLine then .ok (.cell μ.length) (μ ++ [.lst (xs ++ ys)]) else .no
  | _, _ => .no
theorem r_catL : R2f K rCat dCatL := by
  intro x y a b μ ρ H Q E rp ra rb q
  unfold dCatL at q
  cases e1 : lstOf μ a with
  | none => rw [e1] at q; exact q.elim
  | some xs =>
    cases e2 : lstOf μ b with
    | none => rw [e1, e2] at q; exact q.elim
    | some ys =>
      rw [e1, e2] at q
      have q : Pd K (if xs.length + ys.length ≤ sizeLine then R.ok (.cell μ.length) (μ ++ [.lst (xs ++ ys)]) else .no) ρ H Q E := q
      obtain ⟨n, p, vs, rfl, rfl, hn, _, h1, h2⟩ := lstOf_rep rp ra e1
      obtain ⟨m, p2, ws, rfl, rfl, hm, _, k1, k2⟩ := lstOf_rep rp rb e2
      by_cases c : xs.length + ys.length ≤ sizeLine
      · rw [if_pos c] at q
        refine ⟨p, p2, vs, ws, rfl, rfl, h1, k1, by rw [h2.len, k2.len]; exact c, fun l hl => ?_⟩
        have ee := ext_new (K := K) ρ (o := .lst (vs ++ ws)) hl
        exact q _ _ _ ee (rp.new hl (c := .lst (xs ++ ys)) ⟨_, upd_same, (h2.app k2).ext ee⟩) (.cell (by rw [← rp.len]; simp))
      · rw [if_neg c] at q
        exact q.elim
def dCatT : D → D → Mem → R D
  | .tup xs, .tup ys, μ => if xs.length + ys.length ≤ sizeLine then .ok (.tup (xs ++ ys)) μ else .no
  | _, _, _ => .no
theorem RVs.nil_iff {ρ : List Addr} {H : Hp} {vs : List V} {ds : List D} (h : RVs K ρ H vs ds) : vs = [] ↔ ds = [] := by cases h <;> simp
theorem r_catT : R2f K (rCatA K) dCatT := by
  intro x y a b μ ρ H Q E rp ra rb q
  cases ra with
  | @tup p vs xs h1 h2 =>
    cases rb with
    | @tup p2 ws ys k1 k2 =>
      have q : Pd K (if xs.length + ys.length ≤ sizeLine then R.ok (.tup (xs ++ ys)) μ else .no) ρ H Q E := q
      by_cases c : xs.length + ys.length ≤ sizeLine
      · rw [if_pos c] at q
        refine ⟨p, p2, vs, ws, rfl, rfl, h1, k1, by rw [h2.len, k2.len]; exact c, fun z => ?_, fun z z2 => ?_, fun z z2 l hl => ?_⟩
        · rw [h2.nil_iff] at z
          subst z
          exact Pa.ok (rel := RV K) q rp (.tup k1 k2)
        · rw [k2.nil_iff] at z2
          subst z2
          rw [List.append_nil] at q
          exact Pa.ok (rel := RV K) q rp (.tup h1 h2)
        · have ee := ext_upd (K := K) ρ (o := .tup (vs ++ ws)) (Wr.none hl)
          exact q ρ _ _ ee (rp.side hl) (.tup (SqT.of upd_same) ((h2.app k2).ext ee))
      · rw [if_neg c] at q
        exact q.elim
    | _ => exact q.elim
  | _ => exact q.elim
noncomputable def dRepL (a b : D) (μ : Mem) : R D := match lstOf μ a, b with
  | some xs, .int k => if idxOk k ∧ xs.length * k.toNat ≤ sizeLine then .ok (.cell μ.length) (μ ++ [.lst (List.replicate k.toNat xs).flatten]) else .no
  | _, _ => .no
theorem RVs.rep {ρ : List Addr} {H : Hp} {vs : List V} {ds : List D} (h : RVs K ρ H vs ds) : ∀ n : Nat, RVs K ρ H (List.replicate n vs).flatten (List.replicate n ds).flatten
  | 0 => .nil
  | n + 1 => by
    rw [List.replicate_succ, List.replicate_succ, List.flatten_cons, List.flatten_cons]
    exact h.app (RVs.rep h n)
theorem r_repL : R2f K rRep dRepL := by
  intro x y a b μ ρ H Q E rp ra rb q
  unfold dRepL at q
  cases e1 : lstOf μ a with
  | none => rw [e1] at q; exact q.elim
  | some xs =>
    rw [e1] at q
    cases rb with
    | int k =>
      have q : Pd K (if idxOk k ∧ xs.length * k.toNat ≤ sizeLine then R.ok (.cell μ.length) (μ ++ [.lst (List.replicate k.toNat xs).flatten]) else .no) ρ H Q E := q
      obtain ⟨n, p, vs, rfl, rfl, hn, _, h1, h2⟩ := lstOf_rep rp ra e1
      by_cases c : idxOk k ∧ xs.length * k.toNat ≤ sizeLine
      · rw [if_pos c] at q
        refine ⟨p, k, vs, rfl, rfl, h1, c.1.1, c.1.2, by rw [h2.len]; exact c.2, fun l hl => ?_⟩
        have ee := ext_new (K := K) ρ (o := .lst (List.replicate k.toNat vs).flatten) hl
        exact q _ _ _ ee (rp.new hl (c := .lst (List.replicate k.toNat xs).flatten) ⟨_, upd_same, (h2.rep k.toNat).ext ee⟩) (.cell (by rw [← rp.len]; simp))
      · rw [if_neg c] at q
        exact q.elim
    | _ => exact q.elim
/-! None, in -/
def isNon : D → Bool
  | .non => true
  | _ => false
def dIsN : D → D → Mem → R D
  | a, .non, μ => .ok (.bl (isNon a)) μ
  | _, _, _ => .no
def dNotN : D → D → Mem → R D
  | a, .non, μ => .ok (.bl (!isNon a)) μ
  | _, _, _ => .no
theorem non_iff {ρ : List Addr} {H : Hp} {v : V} {d : D} (r : RV K ρ H v d) : decide (v = .non) = isNon d := by cases r <;> simp [isNon]
theorem r_isN : R2f K (fun x y H Q => y = .non ∧ Q (.bl (decide (x = .non))) H) dIsN := by
  intro x y a b μ ρ H Q E rp ra rb q
  cases rb with
  | non => exact ⟨rfl, by rw [non_iff ra]; exact Pa.ok (rel := RV K) q rp (.bl _)⟩
  | _ => exact q.elim
theorem r_notN : R2f K (fun x y H Q => y = .non ∧ Q (.bl (!decide (x = .non))) H) dNotN := by
  intro x y a b μ ρ H Q E rp ra rb q
  cases rb with
  | non => exact ⟨rfl, by rw [non_iff ra]; exact Pa.ok (rel := RV K) q rp (.bl _)⟩
  | _ => exact q.elim
/-- items -/
def seqOf (μ : Mem) : D → Option (List D)
  | .cell n => match μ[n]? with
    | some (.lst xs) => some xs
    | _ => none
  | .tup xs => some xs
  | .scr ns => some (ns.map .int)
  | _ => none
theorem seqOf_rep {μ : Mem} {ρ : List Addr} {H : Hp} {v : V} {d : D} {xs : List D} (rp : Rep K ρ H μ) (r : RV K ρ H v d) (h : seqOf μ d = some xs) : ∃ a vs, v = .ref a ∧ (SqL K H a vs ∨ SqT K H a vs) ∧ RVs K ρ H vs xs := by
  cases r with
  | @cell n a hn =>
    simp only [seqOf] at h
    cases e : μ[n]? with
    | none => rw [e] at h; cases h
    | some c =>
      rw [e] at h
      cases c with
      | lst ys =>
        cases h
        obtain ⟨vs, q1, q2⟩ := rp.get hn e
        exact ⟨a, vs, rfl, .inl (SqL.of q1), q2⟩
      | _ => cases h
  | @tup a vs ds h1 h2 => cases h; exact ⟨a, vs, rfl, .inr h1, h2⟩
  | @scr a ns hs => cases h; exact ⟨a, _, rfl, .inl hs.sq, .ints⟩
  | _ => cases h
def flatD : D → Bool
  | .non => true | .bl _ => true | .int _ => true | .str _ => true | _ => false
def eqF : D → D → Bool
  | .non, .non => true
  | .bl a, .bl b => a == b
  | .bl a, .int b => (if a then 1 else 0) == b
  | .int a, .bl b => a == (if b then 1 else 0)
  | .int a, .int b => a == b
  | .str a, .str b => a == b
  | _, _ => false
theorem flat_of {ρ : List Addr} {H : Hp} {v : V} {d : D} (r : RV K ρ H v d) (h : flatD d = true) : flatV v = true := by
  cases r <;> first | rfl | (exact absurd h Bool.false_ne_true)
theorem eqF_of {ρ : List Addr} {H : Hp} {v w : V} {d e : D} (r : RV K ρ H v d) (s : RV K ρ H w e) (h : flatD d = true) (k : flatD e = true) : eqV v w = eqF d e := by
  cases r <;> first | (exact absurd h Bool.false_ne_true) | (cases s <;> first | rfl | exact absurd k Bool.false_ne_true)
theorem flats_of {ρ : List Addr} {H : Hp} {vs : List V} {ds : List D} (r : RVs K ρ H vs ds) (h : ds.all flatD = true) : vs.all flatV = true := by
  induction vs generalizing ds with
  | nil => rfl
  | cons v vs ih =>
    cases r with
    | cons a b =>
      rw [List.all_cons, Bool.and_eq_true] at h
      rw [List.all_cons, flat_of a h.1, ih b h.2]
      rfl
theorem inF_of {ρ : List Addr} {H : Hp} {x : V} {d : D} {vs : List V} {ds : List D} (rx : RV K ρ H x d) (fx : flatD d = true) (r : RVs K ρ H vs ds) (h : ds.all flatD = true) : inV x vs = ds.any fun y => eqF y d := by
  unfold inV
  induction vs generalizing ds with
  | nil => cases r; rfl
  | cons v vs ih =>
    cases r with
    | cons a b =>
      rw [List.all_cons, Bool.and_eq_true] at h
      rw [List.any_cons, List.any_cons, ih b h.2, eqF_of a rx h.1 fx]
def dIn (neg : Bool) (a b : D) (μ : Mem) : R D := match seqOf μ b with
  | some xs => if flatD a = true ∧ xs.all flatD = true then .ok (.bl (if neg then !xs.any fun y => eqF y a else xs.any fun y => eqF y a)) μ else .no
  | none => .no
theorem r_in {neg : Bool} : R2f K (rIn K neg) (dIn neg) := by
  intro x y a b μ ρ H Q E rp ra rb q
  unfold dIn at q
  cases e : seqOf μ b with
  | none => rw [e] at q; exact q.elim
  | some xs =>
    rw [e] at q
    have q : Pd K (if flatD a = true ∧ xs.all flatD = true then R.ok (.bl (if neg then !xs.any fun y => eqF y a else xs.any fun y => eqF y a)) μ else .no) ρ H Q E := q
    obtain ⟨p, vs, rfl, h1, h2⟩ := seqOf_rep rp rb e
    by_cases c : flatD a = true ∧ xs.all flatD = true
    · rw [if_pos c] at q
      refine ⟨p, vs, rfl, h1, flat_of ra c.1, flats_of h2 c.2, ?_⟩
      rw [inF_of ra c.1 h2 c.2]
      exact Pa.ok (rel := RV K) q rp (.bl _)
    · rw [if_neg c] at q
      exact q.elim
/-- one sign -/
def sgn (z : Str) : Option Nat := match z.cps.toList with
  | [c] => some c
  | _ => none
theorem sgn_eq {z : Str} {c : Nat} (h : sgn z = some c) : z = ⟨#[c]⟩ := by
  unfold sgn at h
  split at h
  · rename_i c' e
    cases h
    obtain ⟨a⟩ := z
    congr
    exact Array.toList_inj.mp e
  · cases h
def dInS (neg : Bool) : D → D → Mem → R D
  | .str x, .str z, μ => match sgn x with
    | some c => .ok (.bl (if neg then !decide (c ∈ z.cps.toList) else decide (c ∈ z.cps.toList))) μ
    | none => .no
  | _, _, _ => .no
theorem r_inS : R2f K (fun x y H Q => ∃ (c : Nat) (z : Str), x = .str ⟨#[c]⟩ ∧ y = .str z ∧ Q (.bl (decide (c ∈ z.cps.toList))) H) (dInS false) := by
  intro x y a b μ ρ H Q E rp ra rb q
  cases ra with
  | @str i hi =>
    cases rb with
    | @str j hj =>
      simp only [dInS] at q
      cases e : sgn i with
      | none => rw [e] at q; exact q.elim
      | some c =>
        rw [e] at q
        exact ⟨c, j, by rw [sgn_eq e], rfl, Pa.ok (rel := RV K) q rp (.bl _)⟩
    | _ => exact q.elim
  | _ => exact q.elim
theorem r_notInS : R2f K (fun x y H Q => ∃ (c : Nat) (z : Str), x = .str ⟨#[c]⟩ ∧ y = .str z ∧ Q (.bl (!decide (c ∈ z.cps.toList))) H) (dInS true) := by
  intro x y a b μ ρ H Q E rp ra rb q
  cases ra with
  | @str i hi =>
    cases rb with
    | @str j hj =>
      simp only [dInS] at q
      cases e : sgn i with
      | none => rw [e] at q; exact q.elim
      | some c =>
        rw [e] at q
        exact ⟨c, j, by rw [sgn_eq e], rfl, Pa.ok (rel := RV K) q rp (.bl _)⟩
    | _ => exact q.elim
  | _ => exact q.elim
/-! == of all kinds -/
def mapO {α β : Type} (f : α → Option β) : List α → Option (List β)
  | [] => some []
  | x :: xs => (f x).bind fun y => (mapO f xs).map fun ys => y :: ys
@[simp] theorem mapO_nil {α β : Type} {f : α → Option β} : mapO f [] = some [] := rfl
@[simp] theorem mapO_cons {α β : Type} {f : α → Option β} {x : α} {xs : List α} : mapO f (x :: xs) = (f x).bind fun y => (mapO f xs).map fun ys => y :: ys := rfl
def pyD (μ : Mem) : Nat → D → Option PyData
  | 0 => fun d => match d with
    | .non => some .none
    | .bl b => some (.bool b)
    | .int i => some (.int i)
    | .str z => some (.str z)
    | _ => none
  | n + 1 => fun d => match d with
    | .non => some .none
    | .bl b => some (.bool b)
    | .int i => some (.int i)
    | .str z => some (.str z)
    | .tup xs => (mapO (pyD μ n) xs).map .tuple
    | .cell k => match μ[k]? with
      | some (.lst xs) => (mapO (pyD μ n) xs).map .list
      | _ => none
    | .scr ns => some (.list (ns.map .int))
    | _ => none
@[simp] theorem pyD_non {μ : Mem} {n : Nat} : pyD μ n .non = some .none := by cases n <;> rfl
@[simp] theorem pyD_bl {μ : Mem} {n : Nat} {b : Bool} : pyD μ n (.bl b) = some (.bool b) := by cases n <;> rfl
@[simp] theorem pyD_int {μ : Mem} {n : Nat} {i : Int} : pyD μ n (.int i) = some (.int i) := by cases n <;> rfl
@[simp] theorem pyD_str {μ : Mem} {n : Nat} {z : Str} : pyD μ n (.str z) = some (.str z) := by cases n <;> rfl
@[simp] theorem pyD_tup {μ : Mem} {n : Nat} {xs : List D} : pyD μ (n + 1) (.tup xs) = (mapO (pyD μ n) xs).map .tuple := rfl
theorem mapO_rep {μ : Mem} {n : Nat} {ρ : List Addr} {H : Hp} (ih : ∀ {v : V} {d : D} {p : PyData}, RV K ρ H v d → pyD μ n d = some p → Dp K H v p ∧ p.canLay0 = true ∧ p.depth ≤ n) :
    ∀ {vs : List V} {ds : List D} {ps : List PyData}, RVs K ρ H vs ds → mapO (pyD μ n) ds = some ps → DpAll K H vs ps ∧ PyData.canLayAll0 ps = true ∧ PyData.depthAll ps ≤ n := by
  intro vs ds ps r
  induction vs generalizing ds ps with
  | nil =>
    cases r
    intro e
    cases e
    exact ⟨.nil, by simp only [PyData.canLayAll0], by simp only [PyData.depthAll]; omega⟩
  | cons v vs ihl =>
    cases r with
    | @cons _ d _ ds a b =>
      intro e
      rw [mapO_cons] at e
      cases e1 : pyD μ n d with
      | none => rw [e1] at e; cases e
      | some p =>
        cases e2 : mapO (pyD μ n) ds with
        | none => rw [e1, e2] at e; cases e
        | some qs =>
          rw [e1, e2] at e
          cases e
          obtain ⟨a1, a2, a3⟩ := ih a e1
          obtain ⟨b1, b2, b3⟩ := ihl b e2
          exact ⟨.cons a1 b1, by simp only [PyData.canLayAll0, a2, b2]; rfl, by simp only [PyData.depthAll]; omega⟩
theorem dp_ints {H : Hp} : ∀ ns : List Int, DpAll K H (ns.map V.int) (ns.map PyData.int)
  | [] => .nil
  | n :: ns => .cons (.int n) (dp_ints ns)
theorem lay_ints : ∀ ns : List Int, PyData.canLayAll0 (ns.map PyData.int) = true
  | [] => by simp only [List.map_nil, PyData.canLayAll0]
  | n :: ns => by simp only [List.map_cons, PyData.canLayAll0, PyData.canLay0, lay_ints ns]; rfl
theorem depth_ints : ∀ ns : List Int, PyData.depthAll (ns.map PyData.int) = 0
  | [] => by simp only [List.map_nil, PyData.depthAll]
  | n :: ns => by simp only [List.map_cons, PyData.depthAll, PyData.depth, depth_ints ns]; rfl
theorem pyD_rep {μ : Mem} {ρ : List Addr} {H : Hp} (rp : Rep K ρ H μ) : ∀ {n : Nat} {v : V} {d : D} {p : PyData}, RV K ρ H v d → pyD μ n d = some p → Dp K H v p ∧ p.canLay0 = true ∧ p.depth ≤ n := by
  intro n
  induction n with
  | zero =>
    intro v d p r e
    cases r <;> first
      | (cases e; exact ⟨.non, by simp only [PyData.canLay0], by simp only [PyData.depth]; omega⟩)
      | (cases e; exact ⟨.bl _, by simp only [PyData.canLay0], by simp only [PyData.depth]; omega⟩)
      | (cases e; exact ⟨.int _, by simp only [PyData.canLay0], by simp only [PyData.depth]; omega⟩)
      | (cases e; rename_i z h; exact ⟨.str _, h.2, by simp only [PyData.depth]; omega⟩)
      | cases e
  | succ n ih =>
    intro v d p r e
    cases r with
    | non => cases e; exact ⟨.non, by simp only [PyData.canLay0], by simp only [PyData.depth]; omega⟩
    | bl b => cases e; exact ⟨.bl _, by simp only [PyData.canLay0], by simp only [PyData.depth]; omega⟩
    | int i => cases e; exact ⟨.int _, by simp only [PyData.canLay0], by simp only [PyData.depth]; omega⟩
    | str h => cases e; exact ⟨.str _, h.2, by simp only [PyData.depth]; omega⟩
    | ty _ => cases e
    | cref _ => cases e
    | scr hs => cases e; exact ⟨.lst hs.sq (dp_ints _), by simp only [PyData.canLay0, lay_ints], by simp only [PyData.depth, depth_ints]; omega⟩
    | @tup a vs ds h1 h2 =>
      rw [pyD_tup] at e
      cases e2 : mapO (pyD μ n) ds with
      | none => rw [e2] at e; cases e
      | some ps =>
        rw [e2] at e
        cases e
        obtain ⟨b1, b2, b3⟩ := mapO_rep ih h2 e2
        exact ⟨.tup h1 b1, by simp only [PyData.canLay0, b2], by simp only [PyData.depth]; omega⟩
    | @cell k a hk =>
      have e : (match μ[k]? with
        | some (.lst xs) => (mapO (pyD μ n) xs).map .list
        | _ => none) = some p := e
      cases m : μ[k]? with
      | none => rw [m] at e; cases e
      | some c =>
        rw [m] at e
        cases c with
        | dK _ => cases e
        | ins _ _ => cases e
        | set _ => cases e
        | lst xs =>
          obtain ⟨vs, q1, q2⟩ := rp.get hk m
          cases e2 : mapO (pyD μ n) xs with
          | none => simp only [e2] at e; cases e
          | some ps =>
            simp only [e2] at e
            cases e
            obtain ⟨b1, b2, b3⟩ := mapO_rep ih q2 e2
            exact ⟨.lst (SqL.of q1) b1, by simp only [PyData.canLay0, b2], by simp only [PyData.depth]; omega⟩
def dEq (a b : D) (μ : Mem) : R D := match pyD μ 64 a, pyD μ 64 b with
  | some p, some q => .ok (.bl (PyData.eqv p q)) μ
  | _, _ => .no
def dNe (a b : D) (μ : Mem) : R D := match pyD μ 64 a, pyD μ 64 b with
  | some p, some q => .ok (.bl (!PyData.eqv p q)) μ
  | _, _ => .no
theorem shaped_of {p : PyData} (h1 : p.canLay0 = true) (h2 : p.depth ≤ 64) : SeqAt.shaped p = true := by
  unfold SeqAt.shaped
  rw [h1, decide_eq_true h2]
  rfl
theorem r_eq : R2f K (rEqD K) dEq := by
  intro x y a b μ ρ H Q E rp ra rb q
  unfold dEq at q
  cases e1 : pyD μ 64 a with
  | none => rw [e1] at q; exact q.elim
  | some p1 =>
    cases e2 : pyD μ 64 b with
    | none => rw [e1, e2] at q; exact q.elim
    | some p2 =>
      rw [e1, e2] at q
      obtain ⟨a1, a2, a3⟩ := pyD_rep rp ra e1
      obtain ⟨b1, b2, b3⟩ := pyD_rep rp rb e2
      exact ⟨p1, p2, a1, b1, shaped_of a2 a3, shaped_of b2 b3, Pa.ok (rel := RV K) q rp (.bl _)⟩
theorem r_ne : R2f K (rNeD K) dNe := by
  intro x y a b μ ρ H Q E rp ra rb q
  unfold dNe at q
  cases e1 : pyD μ 64 a with
  | none => rw [e1] at q; exact q.elim
  | some p1 =>
    cases e2 : pyD μ 64 b with
    | none => rw [e1, e2] at q; exact q.elim
    | some p2 =>
      rw [e1, e2] at q
      obtain ⟨a1, a2, a3⟩ := pyD_rep rp ra e1
      obtain ⟨b1, b2, b3⟩ := pyD_rep rp rb e2
      exact ⟨p1, p2, a1, b1, shaped_of a2 a3, shaped_of b2 b3, Pa.ok (rel := RV K) q rp (.bl _)⟩
@[simp] theorem eqv_ii {i j : Int} : PyData.eqv (.int i) (.int j) = decide (i = j) := by simp only [PyData.eqv]; rw [Bool.eq_iff_iff]; simp
@[simp] theorem eqv_ss {i j : Str} : PyData.eqv (.str i) (.str j) = decide (i = j) := by simp only [PyData.eqv]; rw [Bool.eq_iff_iff]; simp
@[simp] theorem eqv_bb {i j : Bool} : PyData.eqv (.bool i) (.bool j) = (i == j) := by simp only [PyData.eqv]
@[simp] theorem eqv_nn : PyData.eqv .none .none = true := by simp only [PyData.eqv]
@[simp] theorem eqv_bi {i : Bool} {j : Int} : PyData.eqv (.bool i) (.int j) = ((if i then 1 else 0) == j) := by simp only [PyData.eqv]
@[simp] theorem eqv_ib {i : Int} {j : Bool} : PyData.eqv (.int i) (.bool j) = (i == (if j then 1 else 0)) := by simp only [PyData.eqv]
@[simp] theorem eqv_ns {j : Str} : PyData.eqv .none (.str j) = false := by simp only [PyData.eqv]
@[simp] theorem eqv_sn {j : Str} : PyData.eqv (.str j) .none = false := by simp only [PyData.eqv]
@[simp] theorem eqv_ni {j : Int} : PyData.eqv .none (.int j) = false := by simp only [PyData.eqv]
@[simp] theorem eqv_in {j : Int} : PyData.eqv (.int j) .none = false := by simp only [PyData.eqv]
@[simp] theorem eqv_is {i : Int} {j : Str} : PyData.eqv (.int i) (.str j) = false := by simp only [PyData.eqv]
@[simp] theorem eqv_si {i : Int} {j : Str} : PyData.eqv (.str j) (.int i) = false := by simp only [PyData.eqv]
@[simp] theorem eqv_bs {i : Bool} {j : Str} : PyData.eqv (.bool i) (.str j) = false := by simp only [PyData.eqv]
@[simp] theorem eqv_sb {i : Bool} {j : Str} : PyData.eqv (.str j) (.bool i) = false := by simp only [PyData.eqv]
@[simp] theorem eqv_tt {xs ys : List PyData} : PyData.eqv (.tuple xs) (.tuple ys) = PyData.eqvAll xs ys := by simp only [PyData.eqv]
@[simp] theorem eqv_ll {xs ys : List PyData} : PyData.eqv (.list xs) (.list ys) = PyData.eqvAll xs ys := by simp only [PyData.eqv]
@[simp] theorem eqvAll_nil : PyData.eqvAll [] [] = true := by simp only [PyData.eqvAll]
@[simp] theorem eqvAll_cons {x y : PyData} {xs ys : List PyData} : PyData.eqvAll (x :: xs) (y :: ys) = (PyData.eqv x y && PyData.eqvAll xs ys) := by simp only [PyData.eqvAll]
@[simp] theorem eqvAll_nc {y : PyData} {ys : List PyData} : PyData.eqvAll [] (y :: ys) = false := by simp only [PyData.eqvAll]
@[simp] theorem eqvAll_cn {y : PyData} {ys : List PyData} : PyData.eqvAll (y :: ys) [] = false := by simp only [PyData.eqvAll]
/-! parts -/
def ixD (a b : D) (μ : Mem) : R D := match b with
  | .int i => match a with
    | .str z => match atI z.cps.toList i with
      | some c => .ok (.str ⟨#[c]⟩) μ
      | none => .no
    | a => match seqOf μ a with
      | some xs => match atI xs i with
        | some d => .ok d μ
        | none => .no
      | none => .no
  | _ => .no
theorem atI_rv {ρ : List Addr} {H : Hp} {vs : List V} {ds : List D} (r : RVs K ρ H vs ds) {i : Int} {d : D} (h : atI ds i = some d) : ∃ v, atI vs i = some v ∧ RV K ρ H v d := by
  unfold atI at h ⊢
  rw [r.len]
  cases e : ixN ds.length i with
  | none => rw [e] at h; cases h
  | some j =>
    rw [e] at h
    exact r.get h
theorem r_ix : R2f K (rIx K) ixD := by
  intro x y a b μ ρ H Q E rp ra rb q
  cases rb with
  | int i =>
    have seqs : ∀ {xs : List D}, seqOf μ a = some xs → Pd K (match atI xs i with
        | some d => R.ok d μ
        | none => .no) ρ H Q E → rIx K x (.int i) H Q := fun {xs} e q => by
      obtain ⟨p, vs, rfl, h1, h2⟩ := seqOf_rep rp ra e
      cases e2 : atI xs i with
      | none => rw [e2] at q; exact q.elim
      | some d =>
        rw [e2] at q
        obtain ⟨v, w1, w2⟩ := atI_rv h2 e2
        have fin := Pa.ok (rel := RV K) q rp w2
        rcases h1 with h1 | h1
        · exact .inl ⟨p, vs, i, v, rfl, rfl, h1, w1, fin⟩
        · exact .inr (.inl ⟨p, vs, i, v, rfl, rfl, h1, w1, fin⟩)
    cases ra with
    | @str z hz =>
      have q : Pd K (match atI z.cps.toList i with
        | some c => R.ok (.str ⟨#[c]⟩) μ
        | none => .no) ρ H Q E := q
      cases e : atI z.cps.toList i with
      | none => rw [e] at q; exact q.elim
      | some c =>
        rw [e] at q
        refine .inr (.inr ⟨z, i, c, rfl, rfl, hz.1, e, Pa.ok (rel := RV K) q rp (.str ?_)⟩)
        refine strV_of (l := [c]) rfl (show 1 ≤ sizeLine by decide) fun c' hc => ?_
        rw [List.mem_singleton.mp hc]
        refine strV_lt hz c ?_
        unfold atI at e
        cases e3 : ixN z.cps.toList.length i with
        | none => rw [e3] at e; cases e
        | some j => rw [e3] at e; exact List.mem_of_getElem? e
    | @tup p vs xs h1 h2 => exact seqs (xs := xs) rfl q
    | @cell n p hn =>
      have q : Pd K (match seqOf μ (.cell n) with
        | some xs => match atI xs i with
          | some d => R.ok d μ
          | none => .no
        | none => .no) ρ H Q E := q
      cases e : seqOf μ (.cell n) with
      | none => rw [e] at q; exact q.elim
      | some xs => rw [e] at q; exact seqs e q
    | @scr p ns hs => exact seqs (xs := ns.map .int) rfl q
    | non => exact q.elim
    | bl _ => exact q.elim
    | int _ => exact q.elim
    | ty _ => exact q.elim
    | cref _ => exact q.elim
  | _ => exact q.elim
def cutD (xs : List D) (lo hi : Option Int) : List D := (xs.drop (HT.sIx xs.length 0 lo)).take (HT.sIx xs.length xs.length hi - HT.sIx xs.length 0 lo)
theorem cut_rv {ρ : List Addr} {H : Hp} {vs : List V} {ds : List D} (r : RVs K ρ H vs ds) (lo hi : Option Int) : RVs K ρ H (cutV vs lo hi) (cutD ds lo hi) := by
  unfold cutV cutD
  rw [r.len]
  exact (r.drop _).take _
def slL (a : D) (lo hi : Option Int) (μ : Mem) : R D := match a with
  | .tup _ => .no
  | a => match seqOf μ a with
    | some xs => .ok (.cell μ.length) (μ ++ [.lst (cutD xs lo hi)])
    | none => .no
theorem rs_list : RSf K (rSlL K) slL := by
  intro x a lo hi μ ρ H Q E rp ra q
  have go : ∀ {p : Addr} {vs : List V} {xs : List D}, x = .ref p → SqL K H p vs → RVs K ρ H vs xs → Pd K (R.ok (.cell μ.length) (μ ++ [.lst (cutD xs lo hi)])) ρ H Q E → rSlL K x lo hi H Q := fun {p vs xs} e h1 h2 q =>
    ⟨p, vs, e, h1, fun l hl => by
      have ee := ext_new (K := K) ρ (o := .lst (cutV vs lo hi)) hl
      exact q _ _ _ ee (rp.new hl (c := .lst (cutD xs lo hi)) ⟨_, upd_same, (cut_rv h2 lo hi).ext ee⟩) (.cell (by rw [← rp.len]; simp))⟩
  cases ra with
  | @cell n p hn =>
    have q : Pd K (match seqOf μ (.cell n) with
      | some xs => R.ok (.cell μ.length) (μ ++ [.lst (cutD xs lo hi)])
      | none => .no) ρ H Q E := q
    cases e : seqOf μ (.cell n) with
    | none => rw [e] at q; exact q.elim
    | some xs =>
      rw [e] at q
      obtain ⟨n', p', vs, e1, e2, _, _, h1, h2⟩ := lstOf_rep rp (RV.cell hn) (show lstOf μ (.cell n) = some xs from e)
      cases e2
      exact go rfl (SqL.of h1) h2 q
  | @scr p ns hs => exact go rfl hs.sq .ints q
  | _ => exact q.elim
def slT : D → Option Int → Option Int → Mem → R D
  | .tup xs, lo, hi, μ => .ok (.tup (cutD xs lo hi)) μ
  | _, _, _, _ => .no
theorem rs_tup : RSf K (rSlA K) slT := by
  intro x a lo hi μ ρ H Q E rp ra q
  cases ra with
  | @tup p vs xs h1 h2 =>
    refine ⟨p, vs, rfl, h1, fun w => ?_, fun _ l hl => ?_⟩
    · have e : cutD xs lo hi = xs := by
        unfold cutD
        rw [h2.len] at w
        rw [w.1, w.2]
        simp
      have q : Pd K (R.ok (.tup (cutD xs lo hi)) μ) ρ H Q E := q
      rw [e] at q
      exact Pa.ok (rel := RV K) q rp (.tup h1 h2)
    · have ee := ext_upd (K := K) ρ (o := .tup (cutV vs lo hi)) (Wr.none hl)
      exact q ρ _ _ ee (rp.side hl) (.tup (SqT.of upd_same) ((cut_rv h2 lo hi).ext ee))
  | _ => exact q.elim
def slS : D → Option Int → Option Int → Mem → R D
  | .str z, lo, hi, μ => .ok (.str (cutS z lo hi)) μ
  | _, _, _, _ => .no
theorem rs_str : RSf K rSlS slS := by
  intro x a lo hi μ ρ H Q E rp ra q
  cases ra with
  | @str z hz =>
    refine ⟨z, rfl, hz.1, Pa.ok (rel := RV K) q rp (.str ⟨Nat.le_trans (cutS_length _ _ _) hz.1, ?_⟩)⟩
    rw [str_all, ← Array.all_toList, List.all_eq_true]
    intro c hc
    refine decide_eq_true (strV_lt hz c ?_)
    unfold cutS at hc
    simp at hc
    first
      | exact List.mem_of_mem_drop (List.mem_of_mem_take hc)
      | exact List.mem_of_mem_take (List.mem_of_mem_drop hc)
  | _ => exact q.elim
end
end Dv

set_option maxRecDepth 100000
set_option maxHeartbeats 4000000
namespace Dv
open PySem PySem.Spec PyProof.Rows L2
section
variable {X : Cx}
theorem foldl_dat : ∀ (r : List Int) (n : Int), PySem.W.maxOf n r = r.foldl (fun a y => if a < y then y else a) n := by
  intro r
  induction r with
  | nil => intro n; rfl
  | cons y r ih =>
    intro n
    have e : PySem.W.maxOf n (y :: r) = PySem.W.maxOf (if n < y then y else n) r := by
      unfold PySem.W.maxOf
      rw [List.foldl_cons]
      congr 1
      show (if decide (n < y) = true then y else n) = if n < y then y else n
      by_cases h : n < y
      · rw [if_pos h, if_pos (decide_eq_true h)]
      · rw [if_neg h, if_neg (by rw [decide_eq_false h]; decide)]
    rw [e, ih, List.foldl_cons]
/-- the greatest one -/
def maxI : List Int → Option Int
  | [] => none
  | n :: r => some (r.foldl (fun a y => if a < y then y else a) n)
theorem foldl_up : ∀ (r : List Int) (n : Int), n ≤ r.foldl (fun a y => if a < y then y else a) n ∧ (∀ y ∈ r, y ≤ r.foldl (fun a y => if a < y then y else a) n) ∧ (r.foldl (fun a y => if a < y then y else a) n = n ∨ r.foldl (fun a y => if a < y then y else a) n ∈ r) := by
  intro r
  induction r with
  | nil => intro n; exact ⟨Int.le_refl _, fun y h => (nomatch h), .inl rfl⟩
  | cons z r ih =>
    intro n
    rw [List.foldl_cons]
    obtain ⟨h1, h2, h3⟩ := ih (if n < z then z else n)
    have a1 : n ≤ (if n < z then z else n) := by split <;> omega
    have a2 : z ≤ (if n < z then z else n) := by split <;> omega
    refine ⟨Int.le_trans a1 h1, fun y hy => ?_, ?_⟩
    · rcases List.mem_cons.mp hy with rfl | hy
      · exact Int.le_trans a2 h1
      · exact h2 y hy
    · rcases h3 with h3 | h3
      · rw [h3]
        split
        · exact .inr List.mem_cons_self
        · exact .inl rfl
      · exact .inr (List.mem_cons_of_mem _ h3)
theorem maxI_spec {ns : List Int} {m : Int} (h : maxI ns = some m) : m ∈ ns ∧ ∀ y ∈ ns, y ≤ m := by
  cases ns with
  | nil => cases h
  | cons n r =>
    cases h
    obtain ⟨h1, h2, h3⟩ := foldl_up r n
    refine ⟨?_, fun y hy => ?_⟩
    · rcases h3 with h3 | h3
      · rw [h3]; exact List.mem_cons_self
      · exact List.mem_cons_of_mem _ h3
    · rcases List.mem_cons.mp hy with rfl | hy
      · exact h1
      · exact h2 y hy
theorem maxI_some {ns : List Int} (h : 0 < ns.length) : ∃ m, maxI ns = some m := by
  cases ns with
  | nil => simp at h
  | cons n r => exact ⟨_, rfl⟩
theorem maxI_eq {ns : List Int} {m : Int} (h : m ∈ ns) (k : ∀ y ∈ ns, y ≤ m) : maxI ns = some m := by
  obtain ⟨x, e⟩ := maxI_some (ns := ns) (List.length_pos_of_mem h)
  obtain ⟨a, b⟩ := maxI_spec e
  have := k x a
  have := b m h
  rw [e, show x = m by omega]
/-- max of a tuple of ints -/
def rMaxU (K : PySem.W.Frag) : List V → Hp → VK → Prop := fun vs H Q => ∃ (a : Addr) (ns : List Int) (m : Int), vs = [V.ref a] ∧ SqT K H a (ns.map V.int) ∧ maxI ns = some m ∧ Q (.int m) H
theorem cr_maxU (hc : X.calm = true) (hu : X.A.units + 64 < cLine) : CallR X (.builtin "max") (rMaxU X.K) := by
  intro pins s σ H vs us Q I r h
  obtain ⟨a, ns, m, rfl, hs, em, q⟩ := h
  obtain ⟨its, rv, hl, _⟩ := I.tuple hs
  rw [Vals.ref1 r]
  cases ns with
  | nil => cases em
  | cons n ns =>
    cases em
    refine PySem.W.max_tuple_datum (α := Int) (x := n) (xs := ns) (I.ok.hd hc) hl (PySem.W.HoldAll.of_ints (by simpa using rv.ints)) (by show X.A.units + 1 + 0 < cLine; omega) fun i v h' tk hi hv hk => ?_
    rw [foldl_dat] at hv
    obtain ⟨as, rd⟩ := hv
    cases rd with
    | int i t => exact ⟨.int _, H, I.kept hk, ⟨_, rfl⟩, q⟩
/-! ### built-in functions on values -/
variable {K : KW} {W : WX}
def lenD : D → Mem → R D
  | .str z, μ => .ok (.int (z.length : Int)) μ
  | d, μ => match seqOf μ d with
    | some xs => .ok (.int (xs.length : Int)) μ
    | none => .no
def dLen : List D → Mem → R D
  | [d], μ => lenD d μ
  | _, _ => .no
theorem len1 {ρ : List Addr} {H : Hp} {xs : List V} {d : D} (r : RVs K ρ H xs [d]) : ∃ x, xs = [x] ∧ RV K ρ H x d := by
  cases r with
  | cons a b => cases b; exact ⟨_, rfl, a⟩
theorem rl_len : RLf K (fun xs H Q => ∃ x n, xs = [x] ∧ LenV K x H n ∧ Q (.int n) H) dLen := by
  intro xs ds μ ρ H Q E rp r q
  match ds, r, q with
  | [d], r, q =>
    obtain ⟨x, rfl, rx⟩ := len1 r
    have seqs : ∀ {ys : List D}, seqOf μ d = some ys → Pd K (R.ok (.int (ys.length : Int)) μ) ρ H Q E → ∃ x' n, [x] = [x'] ∧ LenV K x' H n ∧ Q (.int n) H := fun {ys} e q => by
      obtain ⟨p, vs, rfl, h1, h2⟩ := seqOf_rep rp rx e
      refine ⟨.ref p, ys.length, rfl, ?_, Pa.ok (rel := RV K) q rp (.int _)⟩
      rcases h1 with h1 | h1
      · exact .inl ⟨vs, h1, h2.len.symm⟩
      · exact .inr ⟨vs, h1, h2.len.symm⟩
    cases rx with
    | @str z hz => exact ⟨.str z, z.length, rfl, ⟨hz.1, rfl⟩, Pa.ok (rel := RV K) (d := .int (z.length : Int)) q rp (.int _)⟩
    | @tup a vs es h1 h2 => exact seqs (ys := es) rfl q
    | @scr a ns hs => exact seqs (ys := ns.map .int) rfl q
    | @cell n a hn =>
      have q : Pd K (match seqOf μ (.cell n) with
        | some xs => R.ok (.int (xs.length : Int)) μ
        | none => .no) ρ H Q E := q
      cases e : seqOf μ (.cell n) with
      | none => rw [e] at q; exact q.elim
      | some ys => rw [e] at q; exact seqs e q
    | _ => exact q.elim
  | [], r, q => exact q.elim
  | _ :: _ :: _, r, q => exact q.elim
/-- ints alone -/
def intsOf : List D → Option (List Int)
  | [] => some []
  | .int i :: r => (intsOf r).map fun ns => i :: ns
  | _ :: _ => none
theorem intsOf_eq : ∀ {ds : List D} {ns : List Int}, intsOf ds = some ns → ds = ns.map .int
  | [], _, h => by cases h; rfl
  | .int i :: r, _, h => by
    simp only [intsOf] at h
    cases e : intsOf r with
    | none => rw [e] at h; cases h
    | some ms => rw [e] at h; cases h; rw [intsOf_eq e]; rfl
  | .non :: _, _, h => nomatch h
  | .bl _ :: _, _, h => nomatch h
  | .str _ :: _, _, h => nomatch h
  | .tup _ :: _, _, h => nomatch h
  | .cell _ :: _, _, h => nomatch h
  | .scr _ :: _, _, h => nomatch h
  | .ty _ :: _, _, h => nomatch h
  | .cref _ :: _, _, h => nomatch h
@[simp] theorem intsOf_map : ∀ ns : List Int, intsOf (ns.map .int) = some ns
  | [] => rfl
  | n :: ns => by simp only [List.map_cons, intsOf, intsOf_map ns]; rfl
def maxTD : D → Mem → R D
  | .tup xs, μ => match (intsOf xs).bind maxI with
    | some m => .ok (.int m) μ
    | none => .no
  | _, _ => .no
def dMaxT : List D → Mem → R D
  | [d], μ => maxTD d μ
  | _, _ => .no
theorem rl_maxT : RLf K (rMaxU K) dMaxT := by
  intro xs ds μ ρ H Q E rp r q
  match ds, r, q with
  | [d], r, q =>
    obtain ⟨x, rfl, rx⟩ := len1 r
    cases rx with
    | @tup a vs es h1 h2 =>
      simp only [dMaxT, maxTD] at q
      cases e : intsOf es with
      | none => rw [e] at q; exact q.elim
      | some ns =>
        rw [e] at q
        have := intsOf_eq e
        subst this
        have ev := h2.intsV
        subst ev
        cases em : maxI ns with
        | none => simp only [Option.bind_some, em] at q; exact q.elim
        | some m =>
          simp only [Option.bind_some, em] at q
          exact ⟨a, ns, m, rfl, h1, em, Pa.ok (rel := RV K) q rp (.int _)⟩
    | _ => exact q.elim
  | [], _, q => exact q.elim
  | _ :: _ :: _, _, q => exact q.elim
/-- from a list of ints -/
def onInts (k : List Int → Mem → R D) : List D → Mem → R D
  | [d], μ => match lstOf μ d with
    | some xs => match intsOf xs with
      | some ns => k ns μ
      | none => .no
    | none => .no
  | _, _ => .no
theorem onInts_rep {k : List Int → Mem → R D} {xs : List V} {ds : List D} {μ : Mem} {ρ : List Addr} {H : Hp} {Q : VK} {E : XK} (rp : Rep K ρ H μ) (r : RVs K ρ H xs ds) (q : Pd K (onInts k ds μ) ρ H Q E) :
    ∃ a ns, xs = [.ref a] ∧ H a = some (.lst (ns.map V.int)) ∧ Pd K (k ns μ) ρ H Q E := by
  match ds, r, q with
  | [d], r, q =>
    obtain ⟨x, rfl, rx⟩ := len1 r
    simp only [onInts] at q
    cases e : lstOf μ d with
    | none => rw [e] at q; exact q.elim
    | some ys =>
      simp only [e] at q
      obtain ⟨n, a, vs, rfl, rfl, _, _, h1, h2⟩ := lstOf_rep rp rx e
      cases e2 : intsOf ys with
      | none => simp only [e2] at q; exact q.elim
      | some ns =>
        simp only [e2] at q
        have := intsOf_eq e2
        subst this
        have ev := h2.intsV
        subst ev
        exact ⟨a, ns, rfl, h1, q⟩
  | [], _, q => exact q.elim
  | _ :: _ :: _, _, q => exact q.elim
def dMaxL : List D → Mem → R D := onInts fun ns μ => match maxI ns with
  | some m => .ok (.int m) μ
  | none => .no
theorem rl_maxL : RLf K (rMax K) dMaxL := by
  intro xs ds μ ρ H Q E rp r q
  obtain ⟨a, ns, rfl, h1, q⟩ := onInts_rep rp r q
  cases em : maxI ns with
  | none => simp only [em] at q; exact q.elim
  | some m =>
    simp only [em] at q
    obtain ⟨m1, m2⟩ := maxI_spec em
    refine ⟨a, ns, rfl, SqL.of h1, List.length_pos_of_mem m1, fun z z1 z2 => ?_⟩
    have e1 := z2 m m1
    have e2 := m2 z z1
    rw [show z = m by omega]
    exact Pa.ok (rel := RV K) q rp (.int _)
def dSum : List D → Mem → R D := onInts fun ns μ => .ok (.int ns.sum) μ
theorem rl_sum : RLf K (rSum K) dSum := by
  intro xs ds μ ρ H Q E rp r q
  obtain ⟨a, ns, rfl, h1, q⟩ := onInts_rep rp r q
  exact ⟨a, ns, rfl, SqL.of h1, Pa.ok (rel := RV K) q rp (.int _)⟩
def blsOf : List D → Option (List Bool)
  | [] => some []
  | .bl b :: r => (blsOf r).map fun bs => b :: bs
  | _ :: _ => none
theorem blsOf_eq : ∀ {ds : List D} {bs : List Bool}, blsOf ds = some bs → ds = bs.map .bl
  | [], _, h => by cases h; rfl
  | .bl i :: r, _, h => by
    simp only [blsOf] at h
    cases e : blsOf r with
    | none => rw [e] at h; cases h
    | some ms => rw [e] at h; cases h; rw [blsOf_eq e]; rfl
  | .non :: _, _, h => nomatch h
  | .int _ :: _, _, h => nomatch h
  | .str _ :: _, _, h => nomatch h
  | .tup _ :: _, _, h => nomatch h
  | .cell _ :: _, _, h => nomatch h
  | .scr _ :: _, _, h => nomatch h
  | .ty _ :: _, _, h => nomatch h
  | .cref _ :: _, _, h => nomatch h
@[simp] theorem blsOf_map : ∀ bs : List Bool, blsOf (bs.map .bl) = some bs
  | [] => rfl
  | n :: ns => by simp only [List.map_cons, blsOf, blsOf_map ns]; rfl
def dAll : List D → Mem → R D
  | [d], μ => match lstOf μ d with
    | some xs => match blsOf xs with
      | some bs => .ok (.bl (bs.all id)) μ
      | none => .no
    | none => .no
  | _, _ => .no
theorem rl_all : RLf K (rAll K) dAll := by
  intro xs ds μ ρ H Q E rp r q
  match ds, r, q with
  | [d], r, q =>
    obtain ⟨x, rfl, rx⟩ := len1 r
    simp only [dAll] at q
    cases e : lstOf μ d with
    | none => rw [e] at q; exact q.elim
    | some ys =>
      simp only [e] at q
      obtain ⟨n, a, vs, rfl, rfl, _, _, h1, h2⟩ := lstOf_rep rp rx e
      cases e2 : blsOf ys with
      | none => simp only [e2] at q; exact q.elim
      | some bs =>
        simp only [e2] at q
        have := blsOf_eq e2
        subst this
        have ev := h2.bls
        subst ev
        exact ⟨a, bs, rfl, SqL.of h1, Pa.ok (rel := RV K) q rp (.bl _)⟩
  | [], _, q => exact q.elim
  | _ :: _ :: _, _, q => exact q.elim
def dAbs : List D → Mem → R D
  | [.int i], μ => .ok (.int (if i < 0 then -i else i)) μ
  | _, _ => .no
theorem rl_abs : RLf K (fun xs H Q => ∃ i, xs = [.int i] ∧ Q (.int (if i < 0 then -i else i)) H) dAbs := by
  intro xs ds μ ρ H Q E rp r q
  cases r with
  | nil => exact q.elim
  | cons a b =>
    cases b with
    | cons _ _ => cases a <;> exact q.elim
    | nil =>
      cases a with
      | int i => exact ⟨i, rfl, Pa.ok (rel := RV K) (d := .int (if i < 0 then -i else i)) q rp (.int _)⟩
      | _ => exact q.elim
def dInt1 : List D → Mem → R D
  | [.int i], μ => .ok (.int i) μ
  | [.bl b], μ => .ok (.int (if b then 1 else 0)) μ
  | _, _ => .no
theorem rl_int1 : RLf K (fun xs H Q => (∃ i, xs = [.int i] ∧ Q (.int i) H) ∨ ∃ k, xs = [.bl k] ∧ Q (.int (if k then 1 else 0)) H) dInt1 := by
  intro xs ds μ ρ H Q E rp r q
  cases r with
  | nil => exact q.elim
  | cons a b =>
    cases b with
    | cons _ _ => cases a <;> exact q.elim
    | nil =>
      cases a with
      | int i => exact .inl ⟨i, rfl, Pa.ok (rel := RV K) (d := .int i) q rp (.int _)⟩
      | bl b => exact .inr ⟨b, rfl, Pa.ok (rel := RV K) (d := .int (if b then 1 else 0)) q rp (.int _)⟩
      | _ => exact q.elim
def dMax2 : List D → Mem → R D
  | [.int i, .int j], μ => .ok (.int (if j > i then j else i)) μ
  | _, _ => .no
def dMin2 : List D → Mem → R D
  | [.int i, .int j], μ => .ok (.int (if j < i then j else i)) μ
  | _, _ => .no
theorem rl_max2 : RLf K (fun xs H Q => ∃ i j, xs = [.int i, .int j] ∧ Q (.int (if j > i then j else i)) H) dMax2 := by
  intro xs ds μ ρ H Q E rp r q
  cases r with
  | nil => exact q.elim
  | cons a b =>
    cases b with
    | nil => cases a <;> exact q.elim
    | cons b c =>
      cases c with
      | cons _ _ => cases a <;> cases b <;> exact q.elim
      | nil =>
        cases a with
        | int i =>
          cases b with
          | int j => exact ⟨i, j, rfl, Pa.ok (rel := RV K) (d := .int (if j > i then j else i)) q rp (.int _)⟩
          | _ => exact q.elim
        | _ => exact q.elim
theorem rl_min2 : RLf K (fun xs H Q => ∃ i j, xs = [.int i, .int j] ∧ Q (.int (if j < i then j else i)) H) dMin2 := by
  intro xs ds μ ρ H Q E rp r q
  cases r with
  | nil => exact q.elim
  | cons a b =>
    cases b with
    | nil => cases a <;> exact q.elim
    | cons b c =>
      cases c with
      | cons _ _ => cases a <;> cases b <;> exact q.elim
      | nil =>
        cases a with
        | int i =>
          cases b with
          | int j => exact ⟨i, j, rfl, Pa.ok (rel := RV K) (d := .int (if j < i then j else i)) q rp (.int _)⟩
          | _ => exact q.elim
        | _ => exact q.elim
def dTupOf : List D → Mem → R D
  | [d], μ => match seqOf μ d with
    | some xs => .ok (.tup xs) μ
    | none => .no
  | _, _ => .no
theorem rl_tupOf : RLf K (fun xs H Q => ∃ p ys, xs = [.ref p] ∧ ((SqL K H p ys ∧ ∀ l, H l = none → Q (.ref l) (upd H l (.tup ys))) ∨ (SqT K H p ys ∧ Q (.ref p) H))) dTupOf := by
  intro xs ds μ ρ H Q E rp r q
  match ds, r, q with
  | [d], r, q =>
    obtain ⟨x, rfl, rx⟩ := len1 r
    simp only [dTupOf] at q
    cases e : seqOf μ d with
    | none => rw [e] at q; exact q.elim
    | some ys =>
      simp only [e] at q
      obtain ⟨p, vs, rfl, h1, h2⟩ := seqOf_rep rp rx e
      refine ⟨p, vs, rfl, ?_⟩
      rcases h1 with h1 | h1
      · refine .inl ⟨h1, fun l hl => ?_⟩
        have ee := ext_upd (K := K) ρ (o := .tup vs) (Wr.none hl)
        exact q ρ _ _ ee (rp.side hl) (.tup (SqT.of upd_same) (h2.ext ee))
      · exact .inr ⟨h1, Pa.ok (rel := RV K) q rp (.tup h1 h2)⟩
  | [], _, q => exact q.elim
  | _ :: _ :: _, _, q => exact q.elim
def dLstOf : List D → Mem → R D
  | [d], μ => match seqOf μ d with
    | some xs => .ok (.cell μ.length) (μ ++ [.lst xs])
    | none => .no
  | _, _ => .no
theorem rl_lstOf : RLf K (fun xs H Q => ∃ p ys, xs = [.ref p] ∧ (SqL K H p ys ∨ SqT K H p ys) ∧ ∀ l, H l = none → Q (.ref l) (upd H l (.lst ys))) dLstOf := by
  intro xs ds μ ρ H Q E rp r q
  match ds, r, q with
  | [d], r, q =>
    obtain ⟨x, rfl, rx⟩ := len1 r
    simp only [dLstOf] at q
    cases e : seqOf μ d with
    | none => rw [e] at q; exact q.elim
    | some ys =>
      simp only [e] at q
      obtain ⟨p, vs, rfl, h1, h2⟩ := seqOf_rep rp rx e
      refine ⟨p, vs, rfl, h1, fun l hl => ?_⟩
      have ee := ext_new (K := K) ρ (o := .lst vs) hl
      exact q _ _ _ ee (rp.new hl (c := .lst ys) ⟨_, upd_same, h2.ext ee⟩) (.cell (by rw [← rp.len]; simp))
  | [], _, q => exact q.elim
  | _ :: _ :: _, _, q => exact q.elim
/-! what kind a value is -/
def tyN (μ : Mem) : D → Option String
  | .non => some "NoneType" | .bl _ => some "bool" | .int _ => some "int" | .str _ => some "str" | .tup _ => some "tuple"
  | .scr _ => some "list"
  | .cell n => match μ[n]? with
    | some (.lst _) => some "list"
    | some (.dK _) => some "dict"
    | _ => none
  | _ => none
theorem tyN_rep {μ : Mem} {ρ : List Addr} {H : Hp} {v : V} {d : D} {t : String} (rp : Rep K ρ H μ) (r : RV K ρ H v d) (h : tyN μ d = some t) : TyX K H v (.type t) := by
  cases r with
  | non => cases h; exact .base .non
  | bl b => cases h; exact .base (.bl b)
  | int i => cases h; exact .base (.int i)
  | str z => cases h; exact .base (.str _)
  | tup h1 _ =>
    cases h
    rcases h1 with (h1 | ⟨o, h1⟩) | ⟨o, its, n, h1, h2, _⟩
    · exact .base (.tup h1)
    · exact .fTuple h1
    · exact .kTuple h1 h2
  | scr hs =>
    cases h
    rcases hs with ⟨o, h1⟩ | ⟨o, its, n, h1, h2, _⟩
    · exact .base (.frz h1)
    · exact .kList h1 h2
  | @cell n a hn =>
    simp only [tyN] at h
    cases e : μ[n]? with
    | none => rw [e] at h; cases h
    | some c =>
      rw [e] at h
      have rc := rp.get hn e
      cases c with
      | lst xs => cases h; obtain ⟨vs, q1, _⟩ := rc; exact .base (.lst q1)
      | dK xs => cases h; obtain ⟨vs, q1, _⟩ := rc; exact .base (.dK q1)
      | _ => cases h
  | _ => cases h
def dIsi : List D → Mem → R D
  | [d, .ty n], μ => match tyN μ d with
    | some t => match kitB t n with
      | some b => .ok (.bl b) μ
      | none => .no
    | none => .no
  | _, _ => .no
theorem rl_isi : RLf K (rIsi K) dIsi := by
  intro xs ds μ ρ H Q E rp r q
  cases r with
  | nil => exact q.elim
  | cons a b =>
    cases b with
    | nil => exact q.elim
    | cons b c =>
      cases c with
      | cons _ _ => cases b <;> exact q.elim
      | nil =>
        cases b with
        | ty n =>
          rename_i d
          simp only [dIsi] at q
          cases e : tyN μ d with
          | none => rw [e] at q; exact q.elim
          | some t =>
            simp only [e] at q
            cases e2 : kitB t n with
            | none => simp only [e2] at q; exact q.elim
            | some b =>
              simp only [e2] at q
              exact ⟨_, _, _, _, b, rfl, .ty n, tyN_rep rp a e, kit_ty e2, Pa.ok (rel := RV K) q rp (.bl _)⟩
        | _ => exact q.elim
theorem kb_1 : kitB "NoneType" "int" = some false := by decide +kernel
theorem kb_2 : kitB "bool" "int" = some true := by decide +kernel
theorem kb_3 : kitB "int" "int" = some true := by decide +kernel
theorem kb_4 : kitB "str" "int" = some false := by decide +kernel
theorem kb_5 : kitB "tuple" "int" = some false := by decide +kernel
theorem kb_6 : kitB "list" "int" = some false := by decide +kernel
theorem kb_7 : kitB "dict" "int" = some false := by decide +kernel
theorem kb_11 : kitB "NoneType" "bool" = some false := by decide +kernel
theorem kb_12 : kitB "bool" "bool" = some true := by decide +kernel
theorem kb_13 : kitB "int" "bool" = some false := by decide +kernel
theorem kb_14 : kitB "str" "bool" = some false := by decide +kernel
theorem kb_15 : kitB "tuple" "bool" = some false := by decide +kernel
theorem kb_16 : kitB "list" "bool" = some false := by decide +kernel
theorem kb_17 : kitB "dict" "bool" = some false := by decide +kernel
theorem kb_21 : kitB "NoneType" "str" = some false := by decide +kernel
theorem kb_22 : kitB "bool" "str" = some false := by decide +kernel
theorem kb_23 : kitB "int" "str" = some false := by decide +kernel
theorem kb_24 : kitB "str" "str" = some true := by decide +kernel
theorem kb_25 : kitB "tuple" "str" = some false := by decide +kernel
theorem kb_26 : kitB "list" "str" = some false := by decide +kernel
theorem kb_27 : kitB "dict" "str" = some false := by decide +kernel
theorem kb_31 : kitB "NoneType" "tuple" = some false := by decide +kernel
theorem kb_32 : kitB "bool" "tuple" = some false := by decide +kernel
theorem kb_33 : kitB "int" "tuple" = some false := by decide +kernel
theorem kb_34 : kitB "str" "tuple" = some false := by decide +kernel
theorem kb_35 : kitB "tuple" "tuple" = some true := by decide +kernel
theorem kb_36 : kitB "list" "tuple" = some false := by decide +kernel
theorem kb_37 : kitB "dict" "tuple" = some false := by decide +kernel
/-! lists of a range -/
def rgOk (a b : Int) : Prop := RgOk a b
noncomputable instance (a b : Int) : Decidable (rgOk a b) := Classical.propDecidable _
theorem rg_rv {ρ : List Addr} {H : Hp} (a b : Int) : RVs K ρ H (rgV a b) (rngD a (b - a).toNat) := by
  unfold rgV rngD
  induction List.range (b - a).toNat with
  | nil => exact .nil
  | cons x xs ih => exact .cons (.int _) ih
noncomputable def fLstRg1 (f : F) : F := fun env μ => (f env μ).bind fun x μ1 => match x with
  | .int n => if rgOk 0 n then .ok (.cell μ1.length) (μ1 ++ [.lst (rngD 0 (n - 0).toNat)]) else .no
  | _ => .no
noncomputable def fTupRg1 (f : F) : F := fun env μ => (f env μ).bind fun x μ1 => match x with
  | .int n => if rgOk 0 n then .ok (.tup (rngD 0 (n - 0).toNat)) μ1 else .no
  | _ => .no
theorem tef_lstRg1 {ta : TE} {fa : F} (ha : TEf K W ta fa) : TEf K W (tLstRg (tRg1 ta)) (fLstRg1 fa) := by
  intro σ H Q env μ ρ at_ h
  refine ha.go at_ h fun ρ1 H1 v d μ1 e1 a1 r1 h1 => ?_
  cases r1 with
  | int n =>
    have h1 : Pd K (if rgOk 0 n then R.ok (.cell μ1.length) (μ1 ++ [.lst (rngD 0 (n - 0).toNat)]) else .no) ρ1 H1 Q (fun c d H' => W c d σ H') := h1
    by_cases c : rgOk 0 n
    · rw [if_pos c] at h1
      refine ⟨n, rfl, c, fun l hl => ?_⟩
      have ee := ext_new (K := K) ρ1 (o := .lst (rgV 0 n)) hl
      exact h1 _ _ _ ee (a1.rp.new hl (c := .lst (rngD 0 (n - 0).toNat)) ⟨_, upd_same, rg_rv 0 n⟩) (.cell (by rw [← a1.rp.len]; simp))
    · rw [if_neg c] at h1
      exact h1.elim
  | _ => exact h1.elim
theorem tef_tupRg1 {ta : TE} {fa : F} (ha : TEf K W ta fa) : TEf K W (tTupRg (tRg1 ta)) (fTupRg1 fa) := by
  intro σ H Q env μ ρ at_ h
  refine ha.go at_ h fun ρ1 H1 v d μ1 e1 a1 r1 h1 => ?_
  cases r1 with
  | int n =>
    have h1 : Pd K (if rgOk 0 n then R.ok (.tup (rngD 0 (n - 0).toNat)) μ1 else .no) ρ1 H1 Q (fun c d H' => W c d σ H') := h1
    by_cases c : rgOk 0 n
    · rw [if_pos c] at h1
      refine ⟨n, rfl, c, fun l hl => ?_⟩
      have ee := ext_upd (K := K) ρ1 (o := .tup (rgV 0 n)) (Wr.none hl)
      exact h1 ρ1 _ _ ee (a1.rp.side hl) (.tup (SqT.of upd_same) (rg_rv 0 n))
    · rw [if_neg c] at h1
      exact h1.elim
  | _ => exact h1.elim
/-! sets -/
def dedupI : List Int → List Int
  | [] => []
  | x :: xs => if x ∈ xs then dedupI xs else x :: dedupI xs
theorem mem_dedupI {k : Int} : ∀ {xs : List Int}, k ∈ dedupI xs ↔ k ∈ xs
  | [] => Iff.rfl
  | x :: xs => by
    unfold dedupI
    split
    · rename_i h
      rw [mem_dedupI, List.mem_cons]
      exact ⟨.inr, fun z => z.elim (fun e => by rw [e]; exact h) id⟩
    · rw [List.mem_cons, List.mem_cons, mem_dedupI]
theorem dedupI_nodup : ∀ {xs : List Int}, (dedupI xs).Nodup
  | [] => List.nodup_nil
  | x :: xs => by
    unfold dedupI
    split
    · exact dedupI_nodup
    · rename_i h
      rw [List.nodup_cons]
      exact ⟨fun z => h (mem_dedupI.mp z), dedupI_nodup⟩
def setTD : D → Mem → R D
  | .tup xs, μ => match intsOf xs with
    | some ns => if ns.length + 1 < scanBound then .ok (.cell μ.length) (μ ++ [.set (dedupI ns)]) else .no
    | none => .no
  | _, _ => .no
def dSetT : List D → Mem → R D
  | [d], μ => setTD d μ
  | _, _ => .no
theorem rl_setT : RLf K (rSetI K K.w) dSetT := by
  intro xs ds μ ρ H Q E rp r q
  match ds, r, q with
  | [d], r, q =>
    obtain ⟨x, rfl, rx⟩ := len1 r
    cases rx with
    | @tup a vs es h1 h2 =>
      simp only [dSetT, setTD] at q
      cases e : intsOf es with
      | none => rw [e] at q; exact q.elim
      | some ns =>
        simp only [e] at q
        have := intsOf_eq e
        subst this
        have ev := h2.intsV
        subst ev
        by_cases c : ns.length + 1 < scanBound
        · rw [if_pos c] at q
          refine ⟨a, ns, rfl, h1, c, fun p S n hp hS hc hl => ?_⟩
          obtain ⟨ks, k1, k2, k3⟩ := hc
          have en : n = (dedupI ns).length := by
            have m : ∀ k, k ∈ ks ↔ k ∈ dedupI ns := fun k => by
              rw [← k3, hS, mem_dedupI]
              simp
            have a1 := nodup_len ks (dedupI ns) k1 fun k hk => (m k).mp hk
            have a2 := nodup_len (dedupI ns) ks dedupI_nodup fun k hk => (m k).mpr hk
            omega
          subst en
          have ee := ext_new (K := K) ρ (o := SetO K.w p S (dedupI ns).length) hp
          refine q _ _ _ ee (rp.new hp (c := .set (dedupI ns)) ⟨S, upd_same, dedupI_nodup, fun k => ?_⟩) (.cell (by rw [← rp.len]; simp))
          rw [hS, mem_dedupI]
          simp
        · rw [if_neg c] at q
          exact q.elim
    | _ => exact q.elim
  | [], _, q => exact q.elim
  | _ :: _ :: _, _, q => exact q.elim
def setOf (μ : Mem) : D → Option (List Int)
  | .cell n => match μ[n]? with
    | some (.set ks) => some ks
    | _ => none
  | _ => none
def dLenSet : List D → Mem → R D
  | [d], μ => match setOf μ d with
    | some ks => .ok (.int (ks.length : Int)) μ
    | none => .no
  | _, _ => .no
theorem setOf_rep {μ : Mem} {ρ : List Addr} {H : Hp} {v : V} {d : D} {ks : List Int} (rp : Rep K ρ H μ) (r : RV K ρ H v d) (h : setOf μ d = some ks) : ∃ a S, v = .ref a ∧ H a = some (SetO K.w a S ks.length) ∧ ks.Nodup ∧ ∀ k, S k = true ↔ k ∈ ks := by
  cases r with
  | @cell n a hn =>
    simp only [setOf] at h
    cases e : μ[n]? with
    | none => rw [e] at h; cases h
    | some c =>
      rw [e] at h
      cases c with
      | set ys => cases h; obtain ⟨S, q1, q2, q3⟩ := rp.get hn e; exact ⟨a, S, rfl, q1, q2, q3⟩
      | _ => cases h
  | _ => cases h
theorem rl_lenSet : RLf K (rLenSet K.w) dLenSet := by
  intro xs ds μ ρ H Q E rp r q
  match ds, r, q with
  | [d], r, q =>
    obtain ⟨x, rfl, rx⟩ := len1 r
    simp only [dLenSet] at q
    cases e : setOf μ d with
    | none => rw [e] at q; exact q.elim
    | some ks =>
      simp only [e] at q
      obtain ⟨a, S, rfl, h1, _, _⟩ := setOf_rep rp rx e
      exact ⟨a, S, ks.length, rfl, h1, Pa.ok (rel := RV K) q rp (.int _)⟩
  | [], _, q => exact q.elim
  | _ :: _ :: _, _, q => exact q.elim
/-! ### methods -/
def tyM (T : String) (μ : Mem) : D → Bool
  | .str _ => T == "str"
  | .cell n => match μ[n]? with
    | some (.lst _) => T == "list"
    | some (.dK _) => T == "dict"
    | _ => false
  | _ => false
theorem tyM_rep {T : String} {μ : Mem} {ρ : List Addr} {H : Hp} {v : V} {d : D} (rp : Rep K ρ H μ) (r : RV K ρ H v d) (h : tyM T μ d = true) : tyV K T v H := by
  cases r with
  | str z => exact eq_of_beq h
  | @cell n a hn =>
    simp only [tyM] at h
    cases e : μ[n]? with
    | none => rw [e] at h; cases h
    | some c =>
      rw [e] at h
      have rc := rp.get hn e
      cases c with
      | lst xs => obtain ⟨vs, q1, _⟩ := rc; exact .inl ⟨eq_of_beq h, vs, SqL.of q1⟩
      | dK xs => obtain ⟨vs, q1, _⟩ := rc; exact .inr (.inr (.inl ⟨eq_of_beq h, .inl ⟨vs, q1⟩⟩))
      | _ => cases h
  | _ => cases h
def fMe (T : String) (g : D → List D → Mem → R D) (fo : F) (fs : FA) : F := fun env μ => (fo env μ).bind fun x μ1 => if tyM T μ1 x = true then (fs env μ1).bind fun xs μ2 => g x xs μ2 else .no
def fMe0 (T : String) (g : D → List D → Mem → R D) (fo : F) : F := fun env μ => (fo env μ).bind fun x μ1 => if tyM T μ1 x = true then g x [] μ1 else .no
theorem tef_bm {T : String} {r : V → List V → Hp → VK → Prop} {g : D → List D → Mem → R D} {to : TE} {fo : F} {ta : TA} {fs : FA} (hr : RMf K T r g) (ho : TEf K W to fo) (ha : TAf K W ta fs) : TEf K W (tBM K T r to ta) (fMe T g fo fs) := by
  intro σ H Q env μ ρ at_ h
  refine ho.go at_ h fun ρ1 H1 v d μ1 e1 a1 r1 h1 => ?_
  by_cases c : tyM T μ1 d = true
  · rw [if_pos c] at h1
    exact ⟨tyM_rep a1.rp r1 c, ha.go a1 h1 fun ρ2 H2 w d2 μ2 e2 a2 r2 h2 => hr _ _ _ _ _ _ _ _ _ a2.rp (r1.ext e2) r2 h2⟩
  · rw [if_neg c] at h1
    exact h1.elim
theorem tef_bm0 {T : String} {r : V → List V → Hp → VK → Prop} {g : D → List D → Mem → R D} {to : TE} {fo : F} (hr : RMf K T r g) (ho : TEf K W to fo) : TEf K W (tBM0 K T r to) (fMe0 T g fo) := by
  intro σ H Q env μ ρ at_ h
  refine ho.go at_ h fun ρ1 H1 v d μ1 e1 a1 r1 h1 => ?_
  by_cases c : tyM T μ1 d = true
  · rw [if_pos c] at h1
    exact ⟨tyM_rep a1.rp r1 c, hr _ _ _ _ _ _ _ _ _ a1.rp r1 .nil h1⟩
  · rw [if_neg c] at h1
    exact h1.elim
/-- a list changed -/
def onLst (k : Nat → List D → List D → Mem → R D) (a : D) (ds : List D) (μ : Mem) : R D := match a with
  | .cell n => match μ[n]? with
    | some (.lst xs) => k n xs ds μ
    | _ => .no
  | _ => .no
theorem onLst_rep {k : Nat → List D → List D → Mem → R D} {x : V} {a : D} {ds : List D} {μ : Mem} {ρ : List Addr} {H : Hp} {Q : VK} {E : XK} (rp : Rep K ρ H μ) (r : RV K ρ H x a) (q : Pd K (onLst k a ds μ) ρ H Q E) :
    ∃ n p xs vs, x = .ref p ∧ ρ[n]? = some p ∧ μ[n]? = some (.lst xs) ∧ H p = some (.lst vs) ∧ RVs K ρ H vs xs ∧ Pd K (k n xs ds μ) ρ H Q E := by
  cases r with
  | @cell n p hn =>
    simp only [onLst] at q
    cases e : μ[n]? with
    | none => rw [e] at q; exact q.elim
    | some c =>
      rw [e] at q
      cases c with
      | lst xs => obtain ⟨vs, q1, q2⟩ := rp.get hn e; exact ⟨n, p, xs, vs, rfl, hn, e, q1, q2, q⟩
      | _ => exact q.elim
  | _ => exact q.elim
def mAppend : D → List D → Mem → R D := onLst fun n xs ds μ => match ds with
  | [d] => if xs.length < sizeLine then .ok .non (μ.set n (.lst (xs ++ [d]))) else .no
  | _ => .no
theorem rm_append : RMf K "list" rAppend mAppend := by
  intro x a xs ds μ ρ H Q E rp ra rs q
  obtain ⟨n, p, ys, vs, rfl, hn, em, h1, h2, q⟩ := onLst_rep rp ra q
  match ds, rs, q with
  | [d], rs, q =>
    obtain ⟨y, rfl, ry⟩ := len1 rs
    have q : Pd K (if ys.length < sizeLine then R.ok .non (μ.set n (.lst (ys ++ [d]))) else .no) ρ H Q E := q
    by_cases c : ys.length < sizeLine
    · rw [if_pos c] at q
      have ee := ext_upd (K := K) ρ (o := .lst (vs ++ [y])) (Wr.lst h1)
      exact ⟨p, vs, y, rfl, rfl, h1, by rw [h2.len]; exact c, q ρ _ _ ee (rp.write hn (Wr.lst h1) (c := .lst (ys ++ [d])) ⟨_, upd_same, (h2.ext ee).app (.cons (ry.ext ee) .nil)⟩) .non⟩
    · rw [if_neg c] at q
      exact q.elim
  | [], _, q => exact q.elim
  | _ :: _ :: _, _, q => exact q.elim
def mPop : D → List D → Mem → R D := onLst fun n xs ds μ => match ds with
  | [] => match xs[xs.length - 1]? with
    | some d => .ok d (μ.set n (.lst xs.dropLast))
    | none => .no
  | _ => .no
theorem RVs.dropLast {ρ : List Addr} {H : Hp} {vs : List V} {ds : List D} (h : RVs K ρ H vs ds) : RVs K ρ H vs.dropLast ds.dropLast := by
  rw [List.dropLast_eq_take, List.dropLast_eq_take, h.len]
  exact h.take _
theorem rm_pop : RMf K "list" rPop mPop := by
  intro x a xs ds μ ρ H Q E rp ra rs q
  obtain ⟨n, p, ys, vs, rfl, hn, em, h1, h2, q⟩ := onLst_rep rp ra q
  match ds, rs, q with
  | [], rs, q =>
    cases rs
    have q : Pd K (match ys[ys.length - 1]? with
      | some d => R.ok d (μ.set n (.lst ys.dropLast))
      | none => .no) ρ H Q E := q
    cases e : ys[ys.length - 1]? with
    | none => rw [e] at q; exact q.elim
    | some d =>
      rw [e] at q
      obtain ⟨v, w1, w2⟩ := h2.get e
      have ee := ext_upd (K := K) ρ (o := .lst vs.dropLast) (Wr.lst h1)
      exact ⟨p, vs, v, rfl, rfl, h1, by rw [h2.len]; exact w1, q ρ _ _ ee (rp.write hn (Wr.lst h1) (c := .lst ys.dropLast) ⟨_, upd_same, h2.dropLast.ext ee⟩) (w2.ext ee)⟩
  | _ :: _, _, q => exact q.elim
noncomputable def mPopAt : D → List D → Mem → R D := onLst fun n xs ds μ => match ds with
  | [.int i] => if idxOk i then match seqIndex? i xs.length with
      | some k => match xs[k]? with
        | some d => .ok d (μ.set n (.lst (xs.eraseIdx k)))
        | none => .no
      | none => .no
    else .no
  | _ => .no
theorem rm_popAt : RMf K "list" rPopAt mPopAt := by
  intro x a xs ds μ ρ H Q E rp ra rs q
  obtain ⟨n, p, ys, vs, rfl, hn, em, h1, h2, q⟩ := onLst_rep rp ra q
  match ds, rs, q with
  | [d], rs, q =>
    obtain ⟨y, rfl, ry⟩ := len1 rs
    cases ry with
    | int i =>
      have q : Pd K (if idxOk i then match seqIndex? i ys.length with
          | some k => match ys[k]? with
            | some d => R.ok d (μ.set n (.lst (ys.eraseIdx k)))
            | none => .no
          | none => .no
        else .no) ρ H Q E := q
      by_cases c : idxOk i
      · rw [if_pos c] at q
        cases e : seqIndex? i ys.length with
        | none => rw [e] at q; exact q.elim
        | some k =>
          rw [e] at q
          have q : Pd K (match ys[k]? with
            | some d => R.ok d (μ.set n (.lst (ys.eraseIdx k)))
            | none => .no) ρ H Q E := q
          cases e2 : ys[k]? with
          | none => rw [e2] at q; exact q.elim
          | some d =>
            rw [e2] at q
            obtain ⟨v, w1, w2⟩ := h2.get e2
            have ee := ext_upd (K := K) ρ (o := .lst (vs.eraseIdx k)) (Wr.lst h1)
            exact ⟨p, vs, i, k, v, rfl, rfl, h1, c.1, c.2, by rw [h2.len]; exact e, w1, q ρ _ _ ee (rp.write hn (Wr.lst h1) (c := .lst (ys.eraseIdx k)) ⟨_, upd_same, (h2.eraseIdx k).ext ee⟩) (w2.ext ee)⟩
      · rw [if_neg c] at q
        exact q.elim
    | _ => exact q.elim
  | [], _, q => exact q.elim
  | d :: d2 :: t, rs, q => cases d <;> exact q.elim
def mExtend : D → List D → Mem → R D := onLst fun n xs ds μ => match ds with
  | [d] => match lstOf μ d with
    | some ys => if xs.length + ys.length ≤ sizeLine then .ok .non (μ.set n (.lst (xs ++ ys))) else .no
    | none => .no
  | _ => .no
theorem rm_extend : RMf K "list" rExtend mExtend := by
  intro x a xs ds μ ρ H Q E rp ra rs q
  obtain ⟨n, p, ys, vs, rfl, hn, em, h1, h2, q⟩ := onLst_rep rp ra q
  match ds, rs, q with
  | [d], rs, q =>
    obtain ⟨y, rfl, ry⟩ := len1 rs
    have q2 : Pd K (match lstOf μ d with
      | some zs => if ys.length + zs.length ≤ sizeLine then R.ok .non (μ.set n (.lst (ys ++ zs))) else .no
      | none => .no) ρ H Q E := q
    clear q
    cases e : lstOf μ d with
    | none => rw [e] at q2; exact q2.elim
    | some zs =>
      rw [e] at q2
      have q : Pd K (if ys.length + zs.length ≤ sizeLine then R.ok .non (μ.set n (.lst (ys ++ zs))) else .no) ρ H Q E := q2
      clear q2
      obtain ⟨m, p2, ws, rfl, rfl, hm, _, k1, k2⟩ := lstOf_rep rp ry e
      by_cases c : ys.length + zs.length ≤ sizeLine
      · rw [if_pos c] at q
        have ee := ext_upd (K := K) ρ (o := .lst (vs ++ ws)) (Wr.lst h1)
        exact ⟨p, p2, vs, ws, rfl, rfl, h1, k1, by rw [h2.len, k2.len]; exact c, q ρ _ _ ee (rp.write hn (Wr.lst h1) (c := .lst (ys ++ zs)) ⟨_, upd_same, (h2.ext ee).app (k2.ext ee)⟩) .non⟩
      · rw [if_neg c] at q
        exact q.elim
  | [], _, q => exact q.elim
  | _ :: _ :: _, _, q => exact q.elim
def mStrip : D → List D → Mem → R D
  | .str z, [.str c], μ => .ok (.str (Txt.stripChars z c)) μ
  | _, _, _ => .no
end
end Dv

set_option maxRecDepth 100000
set_option maxHeartbeats 4000000
namespace Dv
open PySem PySem.Spec PyProof.Rows L2
/-! ### one rule for several kinds -/
def rOr (r s : R2) : R2 := fun x y H Q => r x y H Q ∨ s x y H Q
def rlOr (r s : List V → Hp → VK → Prop) : List V → Hp → VK → Prop := fun xs H Q => r xs H Q ∨ s xs H Q
def rsOr (r s : V → Option Int → Option Int → Hp → VK → Prop) : V → Option Int → Option Int → Hp → VK → Prop := fun x l h H Q => r x l h H Q ∨ s x l h H Q
section
variable {X : Cx} {K : KW}
theorem opOr {α : Value → Value → Sem Value} {r s : R2} (h1 : OpR X α r) (h2 : OpR X α s) : OpR X α (rOr r s) := fun pins st σ H x y v u Q I rx ry h => h.elim (h1 pins st σ H x y v u Q I rx ry) (h2 pins st σ H x y v u Q I rx ry)
theorem callOr {f : Value} {r s : List V → Hp → VK → Prop} (h1 : CallR X f r) (h2 : CallR X f s) : CallR X f (rlOr r s) := fun pins st σ H xs us Q I rx h => h.elim (h1 pins st σ H xs us Q I rx) (h2 pins st σ H xs us Q I rx)
theorem slOr {r s : V → Option Int → Option Int → Hp → VK → Prop} (h1 : SlR X r) (h2 : SlR X s) : SlR X (rsOr r s) := fun pins st σ H x v vl vu lo hi sl Q I rx hs pl pu h => h.elim (h1 pins st σ H x v vl vu lo hi sl Q I rx hs pl pu) (h2 pins st σ H x v vl vu lo hi sl Q I rx hs pl pu)
def rAddG (K : PySem.W.Frag) : R2 := rOr (rI0 fun i j => .int (i + j)) (rOr (fun x y H Q => ∃ i j, x = .str i ∧ y = .str j ∧ i.length + j.length ≤ sizeLine ∧ Q (.str (i ++ j)) H) (rOr rCat (rCatA K)))
theorem oAdd (hK : X.K = K.K) : OpR X (binaryOp .Add) (rAddG K) := opOr op_add (opOr op_add_str (opOr op_cat (by rw [← hK]; exact op_catA)))
def dAddG (a b : D) (μ : Mem) : R D := match a with
  | .int _ => dAdd a b μ
  | .str _ => dAddS a b μ
  | .tup _ => dCatT a b μ
  | .cell _ => dCatL a b μ
  | _ => .no
theorem r_addG : R2f K (rAddG K) dAddG := by
  intro x y a b μ ρ H Q E rp ra rb q
  cases a with
  | int i => exact .inl (r_add x y _ b μ ρ H Q E rp ra rb q)
  | str i => exact .inr (.inl (r_addS x y _ b μ ρ H Q E rp ra rb q))
  | cell i => exact .inr (.inr (.inl (r_catL x y _ b μ ρ H Q E rp ra rb q)))
  | tup i => exact .inr (.inr (.inr (r_catT x y _ b μ ρ H Q E rp ra rb q)))
  | _ => exact q.elim
def rMulG : R2 := rOr (rI CMul fun i j => .int (i * j)) rRep
theorem oMul : OpR X (binaryOp .Mult) rMulG := opOr op_mul op_rep
noncomputable def dMulG (a b : D) (μ : Mem) : R D := match a with
  | .int _ => dMul a b μ
  | .cell _ => dRepL a b μ
  | _ => .no
theorem r_mulG : R2f K rMulG dMulG := by
  intro x y a b μ ρ H Q E rp ra rb q
  cases a with
  | int i => exact .inl (r_mul x y _ b μ ρ H Q E rp ra rb q)
  | cell i => exact .inr (r_repL x y _ b μ ρ H Q E rp ra rb q)
  | _ => exact q.elim
def rInG (K : PySem.W.Frag) : R2 := rOr (rIn K false) (fun x y H Q => ∃ (c : Nat) (z : Str), x = .str ⟨#[c]⟩ ∧ y = .str z ∧ Q (.bl (decide (c ∈ z.cps.toList))) H)
theorem oIn (hK : X.K = K.K) : OpR X (compareOp .In) (rInG K) := opOr (by rw [← hK]; exact op_in_seq) op_in_sign
def dInG (neg : Bool) (a b : D) (μ : Mem) : R D := match b with
  | .str _ => dInS neg a b μ
  | _ => dIn neg a b μ
theorem r_inG : R2f K (rInG K) (dInG false) := by
  intro x y a b μ ρ H Q E rp ra rb q
  cases b with
  | str i => exact .inr (r_inS x y a _ μ ρ H Q E rp ra rb q)
  | _ => exact .inl (r_in (neg := false) x y a _ μ ρ H Q E rp ra rb q)
def rNotInG (K : PySem.W.Frag) : R2 := rOr (rIn K true) (fun x y H Q => ∃ (c : Nat) (z : Str), x = .str ⟨#[c]⟩ ∧ y = .str z ∧ Q (.bl (!decide (c ∈ z.cps.toList))) H)
theorem oNotIn (hK : X.K = K.K) : OpR X (compareOp .NotIn) (rNotInG K) := opOr (by rw [← hK]; exact op_notIn_seq) op_notIn_sign
theorem r_notInG : R2f K (rNotInG K) (dInG true) := by
  intro x y a b μ ρ H Q E rp ra rb q
  cases b with
  | str i => exact .inr (r_notInS x y a _ μ ρ H Q E rp ra rb q)
  | _ => exact .inl (r_in (neg := true) x y a _ μ ρ H Q E rp ra rb q)
theorem oEq (hu : X.A.units + 64 < cLine) (hK : X.K = K.K) : OpR X (compareOp .Eq) (rEqD K) := by rw [← hK]; exact op_eqD hu
theorem oNe (hu : X.A.units + 64 < cLine) (hK : X.K = K.K) : OpR X (compareOp .NotEq) (rNeD K) := by rw [← hK]; exact op_neD hu
theorem oIx (hK : X.K = K.K) : IxR X (rIx K) := by rw [← hK]; exact ix_seq
def rSlG (K : PySem.W.Frag) : V → Option Int → Option Int → Hp → VK → Prop := rsOr (rSlL K) (rsOr (rSlA K) rSlS)
theorem oSl (hK : X.K = K.K) : SlR X (rSlG K) := slOr (by rw [← hK]; exact sl_list) (slOr (by rw [← hK]; exact sl_tupA) sl_str)
def slG (a : D) (lo hi : Option Int) (μ : Mem) : R D := match a with
  | .tup _ => slT a lo hi μ
  | .str _ => slS a lo hi μ
  | _ => slL a lo hi μ
theorem rs_G : RSf K (rSlG K) slG := by
  intro x a lo hi μ ρ H Q E rp ra q
  cases a with
  | tup _ => exact .inr (.inl (rs_tup x _ lo hi μ ρ H Q E rp ra q))
  | str _ => exact .inr (.inr (rs_str x _ lo hi μ ρ H Q E rp ra q))
  | _ => exact .inl (rs_list x _ lo hi μ ρ H Q E rp ra q)
def rLenG (K : PySem.W.Frag) (w : World) : List V → Hp → VK → Prop := rlOr (fun xs H Q => ∃ x n, xs = [x] ∧ LenV K x H n ∧ Q (.int n) H) (rLenSet w)
theorem oLen (hK : X.K = K.K) (hw : X.w = K.w) : CallR X (.builtin "len") (rLenG K K.w) := callOr (by rw [← hK]; exact call_len) (by rw [← hw]; exact cr_lenSet)
def dLenG (ds : List D) (μ : Mem) : R D := match ds with
  | [d] => match setOf μ d with
    | some ks => .ok (.int (ks.length : Int)) μ
    | none => lenD d μ
  | _ => .no
theorem rl_lenG : RLf K (rLenG K K.w) dLenG := by
  intro xs ds μ ρ H Q E rp r q
  match ds, r, q with
  | [d], r, q =>
    simp only [dLenG] at q
    cases e : setOf μ d with
    | some ks =>
      simp only [e] at q
      exact .inr (rl_lenSet xs [d] μ ρ H Q E rp r (by simp only [dLenSet, e]; exact q))
    | none =>
      simp only [e] at q
      exact .inl (rl_len xs [d] μ ρ H Q E rp r q)
  | [], _, q => exact q.elim
  | _ :: _ :: _, _, q => exact q.elim
def rMaxG (K : PySem.W.Frag) : List V → Hp → VK → Prop := rlOr (rMaxU K) (rMax K)
theorem oMax (hc : X.calm = true) (hu : X.A.units + 64 < cLine) (hK : X.K = K.K) : CallR X (.builtin "max") (rMaxG K) := callOr (by rw [← hK]; exact cr_maxU hc hu) (by rw [← hK]; exact cr_max hc)
def dMaxG (ds : List D) (μ : Mem) : R D := match ds with
  | [.tup _] => dMaxT ds μ
  | _ => dMaxL ds μ
theorem rl_maxG : RLf K (rMaxG K) dMaxG := by
  intro xs ds μ ρ H Q E rp r q
  unfold dMaxG at q
  split at q
  · exact .inl (rl_maxT xs _ μ ρ H Q E rp r q)
  · exact .inr (rl_maxL xs _ μ ρ H Q E rp r q)
theorem oSum (hc : X.calm = true) (hK : X.K = K.K) : CallR X (.builtin "sum") (rSum K) := by rw [← hK]; exact cr_sum hc
theorem oAll (hc : X.calm = true) (hK : X.K = K.K) : CallR X (.builtin "all") (rAll K) := by rw [← hK]; exact cr_all hc
theorem oIsi (hK : X.K = K.K) : CallR X (.builtin "isinstance") (rIsi K) := by rw [← hK]; exact call_isi
theorem oTuple (hK : X.K = K.K) : CallR X (.type "tuple") (fun xs H Q => ∃ p ys, xs = [.ref p] ∧ ((SqL K H p ys ∧ ∀ l, H l = none → Q (.ref l) (upd H l (.tup ys))) ∨ (SqT K H p ys ∧ Q (.ref p) H))) := by rw [← hK]; exact call_tuple_of
theorem oList (hK : X.K = K.K) : CallR X (.type "list") (fun xs H Q => ∃ p ys, xs = [.ref p] ∧ (SqL K H p ys ∨ SqT K H p ys) ∧ ∀ l, H l = none → Q (.ref l) (upd H l (.lst ys))) := by rw [← hK]; exact call_list_of
theorem oSet (hc : X.calm = true) (hK : X.K = K.K) (hw : X.w = K.w) : CallR X (.type "set") (rSetI K K.w) := by rw [← hK, ← hw]; exact cr_setI hc
theorem oBm {c : Expr} {to : TE} {t : TA} {T : String} {r : V → List V → Hp → VK → Prop} (hK : X.K = K.K) (h : PE X c (tBM X.K T r to t)) : PE X c (tBM K T r to t) := by rw [← hK]; exact h
theorem oBm0 {c : Expr} {to : TE} {T : String} {r : V → List V → Hp → VK → Prop} (hK : X.K = K.K) (h : PE X c (tBM0 X.K T r to)) : PE X c (tBM0 K T r to) := by rw [← hK]; exact h
theorem oFld {e : Expr} {f : Str} {pos : Pos} {ta : TE} (hK : X.K = K.K) (h : PE X e ta) (hb : attributeBase e f X.env (eval e X.env) = eval e X.env) : PE X (e.Attribute f pos) (tFld K ta f) := by rw [← hK]; exact pe_fld h hb
theorem oTupI {tg l : Expr} {tl : TE} (hK : X.K = K.K) (h : PE X l tl) : PI X tg l (iTup K tl) := by rw [← hK]; exact pi_tup h
theorem oLstI {tg l : Expr} {tl : TE} (hK : X.K = K.K) (h : PE X l tl) : PI X tg l (iList K tl) := by rw [← hK]; exact pi_list h
theorem oTupG {es : List Expr} {k : Nat} {pos : Pos} {t : TGs} {n : Nat} (hK : X.K = K.K) (hc : X.calm = true) (h : PGs X es t) (hn : (assignEach es X.env).length = n) (hst : (assignEach es X.env).findIdx? (·.1) = none) : PG X (.Tuple es k pos) (gTup K n t) := by rw [← hK]; exact pg_tup hc h hn hst
theorem oTru {a : Expr} {ta : TE} (hK : X.K = K.K) (ha : PE X a ta) (he : ∀ whole, isTrue a X.env whole = (do let v ← whole; standAt a.pos; holding [v] (truthy v))) : PT X a (fun σ H Q => ta σ H fun x H' => ∃ k, TruV K x H' k ∧ Q k H') := by rw [← hK]; exact pt_truth ha he
end
/-! texts' methods -/
section
variable {X : Cx} {K : KW} {W : WX}
theorem strip_sub {p : Nat → Bool} {b c : Bool} {z : Str} : ∀ k ∈ (Txt.stripBy p b c z).cps.toList, k ∈ z.cps.toList := by
  intro k hk
  unfold Txt.stripBy at hk
  split at hk
  · exact hk
  · unfold PySem.stripped Builtin.Str.strSub at hk
    simp only [Array.toList_extract, List.extract_eq_drop_take] at hk
    exact List.mem_of_mem_drop (List.mem_of_mem_take hk)
theorem strip_len {p : Nat → Bool} {b c : Bool} {z : Str} : (Txt.stripBy p b c z).length ≤ z.length := by
  unfold Txt.stripBy
  split
  · exact Nat.le_refl _
  · unfold PySem.stripped Builtin.Str.strSub
    rw [str_len, str_len]
    simp only [Array.toList_extract, List.extract_eq_drop_take, List.length_take, List.length_drop]
    omega
theorem strV_strip {p : Nat → Bool} {b c : Bool} {z : Str} (h : StrV z) : StrV (Txt.stripBy p b c z) := by
  refine ⟨Nat.le_trans strip_len h.1, ?_⟩
  rw [str_all, ← Array.all_toList, List.all_eq_true]
  intro k hk
  exact decide_eq_true (strV_lt h k (strip_sub k hk))
theorem rm_strip : RMf K "str" (fun x xs H Q => ∃ a b, x = .str a ∧ xs = [.str b] ∧ a.length ≤ sizeLine ∧ Q (.str (Txt.stripChars a b)) H) mStrip := by
  intro x a xs ds μ ρ H Q E rp ra rs q
  cases ra with
  | @str z hz =>
    match ds, rs, q with
    | [d], rs, q =>
      obtain ⟨y, rfl, ry⟩ := len1 rs
      cases ry with
      | @str c hc => exact ⟨z, c, rfl, rfl, hz.1, Pa.ok (rel := RV K) (d := .str (Txt.stripChars z c)) q rp (.str (strV_strip hz))⟩
      | _ => exact q.elim
    | [], _, q => exact q.elim
    | d :: d2 :: t, rs, q => cases d <;> exact q.elim
  | _ => exact q.elim
end
/-! ### the outcome of a def's body -/
def outS : RS → R D
  | .rt d μ => .ok d μ
  | .nx _ μ => .ok .non μ
  | .ex x _ μ => .ex x μ
  | _ => .no
@[simp] theorem outS_rt {d : D} {μ : Mem} : outS (.rt d μ) = .ok d μ := rfl
@[simp] theorem outS_nx {e : Env} {μ : Mem} : outS (.nx e μ) = .ok .non μ := rfl
@[simp] theorem outS_ex {x : Exn} {e : Env} {μ : Mem} : outS (.ex x e μ) = .ex x μ := rfl
@[simp] theorem outS_no : outS .no = .no := rfl
def env0 (n : Nat) (ds : List D) : Env := ds.map some ++ List.replicate (n - ds.length) none
def runB (s : S) (n : Nat) (ds : List D) (μ : Mem) : R D := outS (s (env0 n ds) μ)
theorem start_env {K : KW} {ρ : List Addr} {H : Hp} {N : List Str} {vs : List V} {ds : List D} (r : RVs K ρ H vs ds) : EnvR K ρ H (L2.start N vs) (env0 N.length ds) := by
  unfold L2.start env0
  refine ⟨by simp [r.len], fun i d h => ?_⟩
  by_cases hi : i < ds.length
  · rw [List.getElem?_append_left (by simpa using hi), List.getElem?_map] at h
    cases e : ds[i]? with
    | none => rw [e] at h; cases h
    | some d' =>
      rw [e] at h
      cases h
      obtain ⟨v, h1, h2⟩ := r.get e
      refine ⟨v, ?_, h2⟩
      rw [List.getElem?_append_left (by simpa [r.len] using hi), List.getElem?_map, h1]
      rfl
  · rw [List.getElem?_append_right (by simpa using hi)] at h
    rw [List.getElem?_replicate] at h
    split at h <;> cases h
/-- from a def's body to its promise -/
theorem run_start {k : PySem.W.Frag} {w : World} {N : List Str} {ts : TS} {s : S} {n : Nat} {g : List D → Mem → R D} {vs : List V} {H : Hp} {Q : VK} {E : XK} (T : TSf ⟨k, w, none⟩ (fun c d _ H => E c d H) ts s) (h : spD ⟨k, w, none⟩ n g vs H Q E)
    (hg : ∀ (ds : List D) (μ : Mem) (ρ : List Addr) (vs : List V) (H : Hp) (Q : VK) (E : XK), Rep ⟨k, w, none⟩ ρ H μ → RVs ⟨k, w, none⟩ ρ H vs ds → ds.length = n → Pd ⟨k, w, none⟩ (g ds μ) ρ H Q E → Pd ⟨k, w, none⟩ (runB s N.length ds μ) ρ H Q E) :
    ts { nx := fun _ H' => Q .non H', rt := Q } (L2.start N vs) H := by
  obtain ⟨ρ, μ, ds, rp, rs, hn, q⟩ := h
  have q := hg ds μ ρ vs H Q E rp rs hn q
  refine T _ _ _ (env0 N.length ds) μ ρ ⟨rp, start_env rs, fun _ _ _ _ z => by cases z⟩ ?_
  unfold runB at q
  cases e : s (env0 N.length ds) μ with
  | nx env μ1 => rw [e] at q; exact fun ρ' H' σ' e1 a1 => q ρ' H' _ e1 a1.rp .non
  | rt d μ1 => rw [e] at q; exact q
  | bk env μ1 => rw [e] at q; exact q.elim
  | ct env μ1 => rw [e] at q; exact q.elim
  | ex x env μ1 => rw [e] at q; exact fun ρ' H' σ' c d e1 a1 rx => q ρ' H' c d e1 a1.rp rx
  | no => rw [e] at q; exact q.elim
theorem spD_len {K : KW} {n : Nat} {g : List D → Mem → R D} {vs : List V} {H : Hp} {Q : VK} {E : XK} (h : spD K n g vs H Q E) : vs.length = n := by
  obtain ⟨ρ, μ, ds, rp, rs, hn, q⟩ := h
  rw [rs.len, hn]
end Dv

set_option maxRecDepth 100000
set_option maxHeartbeats 4000000
namespace Dv
open PySem PySem.Spec PyProof.Rows L2
/-! ### what is raised -/
section
variable {K : KW} {W : WX}
def sRaise0 (c : Addr) : S := fun env μ => .ex ⟨c, none⟩ env μ
theorem tsf_raise0 {c : Addr} : TSf K W (fun _ σ H => W (.ref c) none σ H) (sRaise0 c) := fun σ H D env μ ρ at_ h => h ρ H σ _ _ Ext.refl at_ ⟨rfl, rfl⟩
/-! ### a text walked -/
def iStrD (f : F) : FI := fun env μ => (f env μ).bind fun d μ1 => match d with
  | .str z => .ok ⟨z.cps.toList.map fun c => .str ⟨#[c]⟩, []⟩ μ1
  | _ => .no
theorem tif_str {te : TE} {f : F} (hf : TEf K W te f) : TIf K W (iStr te) (iStrD f) := by
  intro σ H Q env μ ρ at_ h
  refine hf.go at_ h fun ρ1 H1 v d μ1 e1 a1 r1 h1 => ?_
  cases r1 with
  | @str z hz =>
    refine ⟨z, rfl, Pa.ok (rel := ItR K) h1 a1.rp ?_⟩
    intro ρ' H' μ' e r g i
    refine ⟨fun hi => ?_, fun x hx => ?_⟩
    · show z.cps.size ≤ i
      simpa using hi
    · have hx : (z.cps.toList.map fun c => D.str ⟨#[c]⟩)[i]? = some x := hx
      rw [List.getElem?_map] at hx
      cases e2 : z.cps.toList[i]? with
      | none => rw [e2] at hx; cases hx
      | some c =>
        rw [e2] at hx
        cases hx
        have hi := (List.getElem?_eq_some_iff.mp e2).1
        refine ⟨show i < z.cps.size by simpa using hi, ?_⟩
        rintro v' H2 ⟨rfl, c', hc, rfl⟩
        have : c' = c := by
          have : z.cps.toList[i]? = some c' := by simpa using hc
          rw [e2] at this
          exact (Option.some.inj this).symm
        subst this
        refine ⟨Ext.refl, r, .str (strV_of (l := [c']) rfl (show 1 ≤ sizeLine by decide) fun k hk => ?_)⟩
        rw [List.mem_singleton.mp hk]
        exact strV_lt hz c' (List.mem_of_getElem? e2)
  | _ => exact h1.elim
/-! ### sorted -/
def insI (x : Int) : List Int → List Int
  | [] => [x]
  | y :: r => if x ≤ y then x :: y :: r else y :: insI x r
def srtI : List Int → List Int
  | [] => []
  | x :: r => insI x (srtI r)
theorem insI_perm (x : Int) : ∀ l : List Int, (insI x l).Perm (x :: l)
  | [] => List.Perm.refl _
  | y :: r => by
    unfold insI
    split
    · exact List.Perm.refl _
    · exact ((insI_perm x r).cons y).trans (List.Perm.swap x y r)
theorem srtI_perm : ∀ l : List Int, (srtI l).Perm l
  | [] => List.Perm.refl _
  | x :: r => (insI_perm x _).trans ((srtI_perm r).cons x)
theorem insI_sorted (x : Int) : ∀ {l : List Int}, l.Pairwise (· ≤ ·) → (insI x l).Pairwise (· ≤ ·)
  | [], _ => by simp [insI]
  | y :: r, h => by
    unfold insI
    rw [List.pairwise_cons] at h
    split
    · rename_i hx
      rw [List.pairwise_cons]
      refine ⟨fun z hz => ?_, List.pairwise_cons.mpr h⟩
      rcases List.mem_cons.mp hz with rfl | hz
      · exact hx
      · exact Int.le_trans hx (h.1 z hz)
    · rename_i hx
      rw [List.pairwise_cons]
      refine ⟨fun z hz => ?_, insI_sorted x h.2⟩
      rcases List.mem_cons.mp ((insI_perm x r).mem_iff.mp hz) with rfl | hz
      · omega
      · exact h.1 z hz
theorem srtI_sorted : ∀ l : List Int, (srtI l).Pairwise (· ≤ ·)
  | [] => List.Pairwise.nil
  | x :: r => insI_sorted x (srtI_sorted r)
theorem sorted_eq : ∀ {l m : List Int}, l.Perm m → l.Pairwise (· ≤ ·) → m.Pairwise (· ≤ ·) → l = m
  | [], m, p, _, _ => by rw [List.Perm.nil_eq p]
  | x :: l, [], p, _, _ => absurd p.length_eq (by simp)
  | x :: l, y :: m, p, h, k => by
    rw [List.pairwise_cons] at h k
    have hx : x ∈ y :: m := p.mem_iff.mp List.mem_cons_self
    have hy : y ∈ x :: l := p.mem_iff.mpr List.mem_cons_self
    have e : x = y := by
      have a1 : y ≤ x := by
        rcases List.mem_cons.mp hx with e | hx
        · omega
        · exact k.1 x hx
      have a2 : x ≤ y := by
        rcases List.mem_cons.mp hy with e | hy
        · omega
        · exact h.1 y hy
      omega
    subst e
    rw [sorted_eq (List.Perm.cons_inv p) h.2 k.2]
def rSortG (K : PySem.W.Frag) (w : World) : List V → Hp → VK → Prop := rlOr (rSorted K) (rSortedSet w)
theorem oSorted {X : Cx} (hc : X.calm = true) (hK : X.K = K.K) (hw : X.w = K.w) : CallR X (.builtin "sorted") (rSortG K K.w) := callOr (by rw [← hK]; exact cr_sorted) (by rw [← hw]; exact cr_sortedSet hc)
def dSortG (ds : List D) (μ : Mem) : R D := match ds with
  | [d] => match setOf μ d with
    | some ks => if ks.length < 64 then .ok (.cell μ.length) (μ ++ [.lst ((srtI ks).map .int)]) else .no
    | none => onInts (fun ns μ => if ns.length < 64 then .ok (.cell μ.length) (μ ++ [.lst ((srtI ns).map .int)]) else .no) [d] μ
  | _ => .no
theorem rl_sortG : RLf K (rSortG K K.w) dSortG := by
  intro xs ds μ ρ H Q E rp r q
  match ds, r, q with
  | [d], r, q =>
    have new : ∀ {l : List Int} {p : Addr}, H p = none → Pd K (R.ok (.cell μ.length) (μ ++ [.lst (l.map .int)])) ρ H Q E → Q (.ref p) (upd H p (.lst (l.map V.int))) := fun {l p} hp q => by
      have ee := ext_new (K := K) ρ (o := .lst (l.map V.int)) hp
      exact q _ _ _ ee (rp.new hp (c := .lst (l.map .int)) ⟨_, upd_same, .ints⟩) (.cell (by rw [← rp.len]; simp))
    simp only [dSortG] at q
    cases e : setOf μ d with
    | some ks =>
      simp only [e] at q
      obtain ⟨x, rfl, rx⟩ := len1 r
      obtain ⟨a, S, rfl, h1, nd, hS⟩ := setOf_rep rp rx e
      by_cases c : ks.length < 64
      · rw [if_pos c] at q
        refine .inr ⟨a, S, ks.length, rfl, h1, c, fun ns p n1 n2 n3 hp => ?_⟩
        have en : ns = srtI ks := by
          refine sorted_eq ?_ (n1.imp fun h => Int.le_of_lt h) (srtI_sorted ks)
          refine List.Perm.trans ?_ (srtI_perm ks).symm
          have nd1 : ns.Nodup := n1.imp fun h => by omega
          exact (List.perm_ext_iff_of_nodup nd1 nd).mpr fun k => (n2 k).trans (hS k)
        subst en
        exact new hp q
      · rw [if_neg c] at q
        exact q.elim
    | none =>
      simp only [e] at q
      obtain ⟨a, ns, rfl, h1, q⟩ := onInts_rep rp r q
      by_cases c : ns.length < 64
      · rw [if_pos c] at q
        refine .inl ⟨a, ns, rfl, SqL.of h1, c, fun ms p m1 m2 hp => ?_⟩
        rw [sorted_eq (m1.trans (srtI_perm ns).symm) m2 (srtI_sorted ns)]
        exact new hp q
      · rw [if_neg c] at q
        exact q.elim
  | [], _, q => exact q.elim
  | _ :: _ :: _, _, q => exact q.elim
end
/-! ### within an except suite nothing else is held otherwise -/
section
variable {k : PySem.W.Frag} {w : World} {o o' : Option (Nat × Addr × Option Addr × Exn)} {ρ ρ' : List Addr} {H H' : Hp}
mutual
theorem RV.xa {v : V} {d : D} (h : RV ⟨k, w, o⟩ ρ H v d) : RV ⟨k, w, o'⟩ ρ H v d := by
  cases h with
  | non => exact .non
  | bl b => exact .bl b
  | int i => exact .int i
  | str h => exact .str h
  | tup h r => exact .tup h r.xa
  | cell h => exact .cell h
  | scr h => exact .scr h
  | ty n => exact .ty n
  | cref a => exact .cref a
theorem RVs.xa {vs : List V} {ds : List D} (h : RVs ⟨k, w, o⟩ ρ H vs ds) : RVs ⟨k, w, o'⟩ ρ H vs ds := by
  cases h with
  | nil => exact .nil
  | cons h r => exact .cons h.xa r.xa
end
theorem RF.xa {κ : Type} {vs : List (κ × V)} {ds : List (κ × D)} (h : RF ⟨k, w, o⟩ ρ H vs ds) : RF ⟨k, w, o'⟩ ρ H vs ds := by
  induction h with
  | nil => exact .nil
  | cons h _ ih => exact .cons h.xa ih
theorem RC.xa {a : Addr} {c : C} (h : RC ⟨k, w, o⟩ ρ H a c) : RC ⟨k, w, o'⟩ ρ H a c := by
  cases c with
  | lst ds => obtain ⟨vs, h1, h2⟩ := h; exact ⟨vs, h1, h2.xa⟩
  | dK kvs => obtain ⟨vs, h1, h2⟩ := h; exact ⟨vs, h1, h2.xa⟩
  | ins c fs => obtain ⟨dx, vs, h1, h2⟩ := h; exact ⟨dx, vs, h1, h2.xa⟩
  | set ks => obtain ⟨S, h1, h2⟩ := h; exact ⟨S, h1, h2⟩
theorem Rep.xa {μ : Mem} (h : Rep ⟨k, w, o⟩ ρ H μ) : Rep ⟨k, w, o'⟩ ρ H μ := ⟨h.len, h.nd, fun n c e => let ⟨a, h1, h2⟩ := h.at_ n c e; ⟨a, h1, h2.xa⟩⟩
theorem Ext.xa (h : Ext ⟨k, w, o⟩ ρ H ρ' H') : Ext ⟨k, w, o'⟩ ρ H ρ' H' := ⟨h.pre, h.tup, h.fz, h.xd⟩
theorem EnvR.xa {σ : L2.St} {env : Env} (h : EnvR ⟨k, w, o⟩ ρ H σ env) : EnvR ⟨k, w, o'⟩ ρ H σ env := ⟨h.len, fun i d e => let ⟨v, h1, h2⟩ := h.at_ i d e; ⟨v, h1, h2.xa⟩⟩
theorem RX.xa {c : Value} {d : Option Addr} {x : Exn} (h : RX ⟨k, w, o⟩ ρ H c d x) : RX ⟨k, w, o'⟩ ρ H c d x := by
  refine ⟨h.1, ?_⟩
  have h2 := h.2
  cases hx : x.fs with
  | none => rw [hx] at h2; exact h2
  | some fs =>
    rw [hx] at h2
    obtain ⟨dx, vs, a, b, r⟩ := h2
    exact ⟨dx, vs, a, b, r.xa⟩
end
/-! ### try -/
def clr (i : Nat) : RS → RS
  | .nx env μ => .nx (env.set i none) μ
  | .bk env μ => .bk (env.set i none) μ
  | .ct env μ => .ct (env.set i none) μ
  | .rt d μ => .rt d μ
  | _ => .no
def sTryAs (k : PySem.W.Frag) (c : Value) (i : Nat) (body : S) (suite : Exn → S) : S := fun env μ => match body env μ with
  | .ex x env1 μ1 => match PySem.W.exmOne k (.ref x.c) c with
    | some true => if i < env1.length then clr i (suite x (env1.set i none) μ1) else .no
    | some false => .ex x env1 μ1
    | none => .no
  | r => r
/-- several clauses without a name -/
def hands (k : PySem.W.Frag) (x : Exn) : List (Value × S) → S
  | [] => fun env μ => .ex x env μ
  | (c, s) :: r => fun env μ => match PySem.W.exmOne k (.ref x.c) c with
    | some true => s env μ
    | some false => hands k x r env μ
    | none => .no
def sTry (k : PySem.W.Frag) (body : S) (hs : List (Value × S)) : S := fun env μ => match body env μ with
  | .ex x env1 μ1 => hands k x hs env1 μ1
  | r => r
section
variable {k : PySem.W.Frag} {w : World}
theorem EnvR.drop {K : KW} {ρ : List Addr} {H : Hp} {σ : L2.St} {env : Env} (h : EnvR K ρ H σ env) (i : Nat) (o : Option V) : EnvR K ρ H (σ.set i o) (env.set i none) := by
  refine ⟨by simp [h.len], fun j d e => ?_⟩
  rw [List.getElem?_set] at e
  by_cases z : i = j
  · rw [if_pos z] at e
    split at e <;> cases e
  · rw [if_neg z] at e
    obtain ⟨v, h1, h2⟩ := h.at_ j d e
    exact ⟨v, by rw [List.getElem?_set_ne z]; exact h1, h2⟩
theorem tsf_tryAs {W : WX} {c : Value} {i : Nat} {tb : WX → TS} {ts : Addr → Value → Option Addr → TS} {body : S} {suite : Exn → S} (hb : ∀ W', TSf ⟨k, w, none⟩ W' (tb W') body)
    (hs : ∀ a d x, TSf ⟨k, w, some (i, a, d, x)⟩ W0 (ts a (.ref x.c) d) (suite x)) : TSf ⟨k, w, none⟩ W (fun D σ H => tb (wAs k c i ts W D) D σ H) (sTryAs k c i body suite) := by
  intro σ H D env μ ρ at_ h
  refine hb _ _ _ _ _ _ _ at_ ?_
  unfold sTryAs at h
  cases e : body env μ with
  | nx env1 μ1 => rw [e] at h; exact h
  | rt d μ1 => rw [e] at h; exact h
  | bk env1 μ1 => rw [e] at h; exact h
  | ct env1 μ1 => rw [e] at h; exact h
  | no => rw [e] at h; exact h
  | ex x env1 μ1 =>
    rw [e] at h
    intro ρ1 H1 σ1 cls d e1 a1 rx
    have ec := rx.1
    subst ec
    cases ex : PySem.W.exmOne k (.ref x.c) c with
    | none => simp only [ex] at h; exact h.elim
    | some b =>
      refine ⟨b, ex, fun hbt a ha => ?_, fun hbf => ?_⟩
      · subst hbt
        simp only [ex] at h
        by_cases hi0 : i < env1.length
        · rw [if_pos hi0] at h
          have hi : i < σ1.length := by rw [← a1.en.len]; exact hi0
          have A : At ⟨k, w, some (i, a, d, x)⟩ ρ1 H1 μ1 (σ1.set i (some (.ref a))) (env1.set i none) := by
            refine ⟨a1.rp.xa, (a1.en.drop i _).xa, fun j a' d' x' z => ?_⟩
            cases z
            exact ⟨List.getElem?_set_self hi, rx.xa⟩
          refine hs a d x _ _ _ _ _ _ A ?_
          have h := Ps.mono e1 h
          cases es : suite x (env1.set i none) μ1 with
          | nx env2 μ2 => rw [es] at h; exact fun ρ2 H2 σ2 e2 a2 => h ρ2 H2 _ e2.xa ⟨a2.rp.xa, (a2.en.drop i none).xa, fun _ _ _ _ z => by cases z⟩
          | bk env2 μ2 => rw [es] at h; exact fun ρ2 H2 σ2 e2 a2 => h ρ2 H2 _ e2.xa ⟨a2.rp.xa, (a2.en.drop i none).xa, fun _ _ _ _ z => by cases z⟩
          | ct env2 μ2 => rw [es] at h; exact fun ρ2 H2 σ2 e2 a2 => h ρ2 H2 _ e2.xa ⟨a2.rp.xa, (a2.en.drop i none).xa, fun _ _ _ _ z => by cases z⟩
          | rt d2 μ2 => rw [es] at h; exact fun ρ2 H2 v e2 r2 rv => h ρ2 H2 v e2.xa r2.xa rv.xa
          | ex _ _ _ => rw [es] at h; exact h.elim
          | no => rw [es] at h; exact h.elim
        · rw [if_neg hi0] at h
          exact h.elim
      · subst hbf
        simp only [ex] at h
        exact h ρ1 H1 σ1 _ d e1 a1 rx
/-- clauses -/
inductive HdF (K : KW) (W : WX) : List (Value × (Addr → Value → Option Addr → TS)) → List (Value × S) → Prop where
  | nil : HdF K W [] []
  | cons {c : Value} {ts : Addr → Value → Option Addr → TS} {s : S} {l : List (Value × (Addr → Value → Option Addr → TS))} {m : List (Value × S)} (h : ∀ a cls d, TSf K W (ts a cls d) s) (r : HdF K W l m) : HdF K W ((c, ts) :: l) ((c, s) :: m)
theorem tsf_try {W : WX} {l : List (Value × (Addr → Value → Option Addr → TS))} {hs : List (Value × S)} {tb : WX → TS} {body : S} (hb : ∀ W', TSf ⟨k, w, none⟩ W' (tb W') body)
    (hh : HdF ⟨k, w, none⟩ W l hs) : TSf ⟨k, w, none⟩ W (fun D σ H => tb (wMany k W D l) D σ H) (sTry k body hs) := by
  intro σ H D env μ ρ at_ h
  refine hb _ _ _ _ _ _ _ at_ ?_
  unfold sTry at h
  cases e : body env μ with
  | nx env1 μ1 => rw [e] at h; exact h
  | rt d μ1 => rw [e] at h; exact h
  | bk env1 μ1 => rw [e] at h; exact h
  | ct env1 μ1 => rw [e] at h; exact h
  | no => rw [e] at h; exact h
  | ex x env1 μ1 =>
    rw [e] at h
    intro ρ1 H1 σ1 cls d e1 a1 rx
    have h2 : Ps ⟨k, w, none⟩ (hands k x hs env1 μ1) ρ1 H1 D W := Ps.mono e1 h
    clear h
    have ec := rx.1
    subst ec
    clear hb
    induction hh with
    | nil => exact h2 ρ1 H1 σ1 _ d Ext.refl a1 rx
    | @cons c ts s l m hs1 r ih =>
      unfold hands at h2
      cases ex : PySem.W.exmOne k (.ref x.c) c with
      | none => simp only [ex] at h2; exact h2.elim
      | some b =>
        refine ⟨b, ex, fun hbt a ha => ?_, fun hbf => ?_⟩
        · subst hbt
          simp only [ex] at h2
          exact hs1 a _ d _ _ _ _ _ _ a1 h2
        · subst hbf
          simp only [ex] at h2
          exact ih h2
end
/-! ### the exception within its suite -/
section
variable {k : PySem.W.Frag} {w : World}
def rIsX (k : PySem.W.Frag) (cls : Value) (d : Option Addr) (a : Addr) : List V → Hp → VK → Prop := fun xs H Q => ∃ (c : V) (cv : Value) (b : Bool) (C : Addr), xs = [.ref a, c] ∧ (∀ u, RelV c u → u = cv) ∧ cls = .ref C ∧ L2.ExcC k C ∧ (d = none ∨ ∃ dd fs, d = some dd ∧ H dd = some (.xd fs)) ∧ PySem.W.kitOne k (.ref C) cv = some b ∧ Q (.bl b) H
theorem oIsX {X : Cx} {a : Addr} {oe : Obj} {cls : Value} {d : Option Addr} {pn : List (Addr × Obj)} (hz : Zc cls d oe) (hf : ∃ vs, oe.data = .fields vs) : CallR (X.suite a ((a, oe) :: pn)) (.builtin "isinstance") (rIsX X.K cls d a) := by
  intro pins s σ H xs us Q I r h
  obtain ⟨c, cv, b, C, rfl, hcv, rfl, EC, hd, e, q⟩ := h
  cases r with
  | cons rx rr =>
    cases rr with
    | cons rt rr =>
      cases rr
      cases rx
      have ec := hcv _ rt
      subst ec
      obtain ⟨hget, _⟩ := I.pin (a, oe) (List.mem_append.mpr (.inl List.mem_cons_self))
      obtain ⟨vs, hv⟩ := hf
      obtain ⟨od, J⟩ : ∃ od, PySem.W.InstAt s.heap a oe C od := by
        obtain ⟨oc, od, oda, osl⟩ := oe
        obtain ⟨h1, h2⟩ := hz
        dsimp only at h1 h2 hv
        subst h1 h2 hv
        rcases hd with rfl | ⟨dd, fs, rfl, hx⟩
        · exact ⟨none, hget, rfl, rfl, trivial⟩
        · have hx : ObjOk X.prog X.w H s.heap dd (.xd fs) := I.hok dd _ hx
          obtain ⟨mA, hns, _⟩ := hx
          obtain ⟨o2, ho, _⟩ := lookIn_ns hns
          exact ⟨some o2, hget, rfl, rfl, ho⟩
      have hcl : (PySem.W.clsIn X.K C).isSome = true := by
        obtain ⟨cd, hc, _⟩ := PySem.W.any_some EC.hd
        rw [hc]; rfl
      exact PySem.W.kia_one (PySem.W.kitx_exc hcl EC.hg EC.hk EC.hs EC.ha EC.hn EC.ht EC.hm) I.kIn J e (fun z => nomatch z) fun tk => ⟨.bl b, H, I.kept (t' := tk) fun _ _ z => z, rfl, q⟩
open Classical in
noncomputable def fIsX (k : PySem.W.Frag) (x : Exn) (cv : Value) : F := fun _ μ => if L2.ExcC k x.c then match PySem.W.kitOne k (.ref x.c) cv with
    | some b => .ok (.bl b) μ
    | none => .no
  else .no
theorem rx_dict {ρ : List Addr} {H : Hp} {c : Value} {d : Option Addr} {x : Exn} {K : KW} (h : RX K ρ H c d x) : d = none ∨ ∃ dd fs, d = some dd ∧ H dd = some (.xd fs) := by
  have h2 := h.2
  cases hx : x.fs with
  | none => rw [hx] at h2; exact .inl h2
  | some fs => rw [hx] at h2; obtain ⟨dx, vs, e, q, _⟩ := h2; exact .inr ⟨dx, vs, e, q⟩
theorem tef_isX {W : WX} {i : Nat} {a : Addr} {d : Option Addr} {x : Exn} {cV : V} {cv : Value} (hc : ∀ u, RelV cV u → u = cv) : TEf ⟨k, w, some (i, a, d, x)⟩ W (tCB (rIsX k (.ref x.c) d a) (tCons (tVar i) (tCons (tC cV) tNil))) (fIsX k x cv) := by
  intro σ H Q env μ ρ at_ h
  obtain ⟨h1, h2⟩ := at_.xa i a d x rfl
  unfold fIsX at h
  by_cases c : L2.ExcC k x.c
  · rw [if_pos c] at h
    cases e : PySem.W.kitOne k (.ref x.c) cv with
    | none => rw [e] at h; exact h.elim
    | some b =>
      rw [e] at h
      exact ⟨_, h1, cV, cv, b, x.c, rfl, hc, rfl, c, rx_dict h2, e, Pa.ok (rel := RV _) h at_.rp (.bl b)⟩
  · rw [if_neg c] at h
    exact h.elim
def fXf (x : Exn) (C : Addr) (f : Str) : F := fun _ μ => if x.c = C then match x.fs with
    | some fs => match fs.lookup f with
      | some d => .ok d μ
      | none => .no
    | none => .no
  else .no
theorem rf_look {K : KW} {ρ : List Addr} {H : Hp} {f : Str} {d : D} {vs : List (Str × V)} {ds : List (Str × D)} (h : RF K ρ H vs ds) (e : ds.lookup f = some d) : ∃ v, vs.lookup f = some v ∧ RV K ρ H v d := by
  induction h with
  | nil => cases e
  | @cons g v d' vs ds r rr ih =>
    rw [List.lookup_cons] at e ⊢
    cases q : f == g with
    | true => rw [q] at e; cases e; exact ⟨v, rfl, r⟩
    | false => rw [q] at e; exact ih e
theorem tef_xf {W : WX} {i : Nat} {a C : Addr} {d : Option Addr} {x : Exn} {f : Str} : TEf ⟨k, w, some (i, a, d, x)⟩ W (tXf a (.ref x.c) d C f (tVar i)) (fXf x C f) := by
  intro σ H Q env μ ρ at_ h
  obtain ⟨h1, h2⟩ := at_.xa i a d x rfl
  unfold fXf at h
  by_cases c : x.c = C
  · rw [if_pos c] at h
    cases e : x.fs with
    | none => simp only [e] at h; exact h.elim
    | some fs =>
      simp only [e] at h
      have h2 := h2.2
      rw [e] at h2
      obtain ⟨dx, vs, e1, e2, e3⟩ := h2
      cases e4 : fs.lookup f with
      | none => simp only [e4] at h; exact h.elim
      | some dd =>
        simp only [e4] at h
        obtain ⟨v, v1, v2⟩ := rf_look e3 e4
        exact ⟨_, h1, rfl, by rw [c], dx, vs, v, e1, e2, v1, Pa.ok (rel := RV _) h at_.rp v2⟩
  · rw [if_neg c] at h
    exact h.elim
end
/-! ### own exceptions with one field -/
/-- what __init__ does: self.f = v -/
def spX (K : PySem.W.Frag) (f : Str) : Sp := fun vs H Q _ => ∃ (a C : Addr) (v : V), vs = [.ref a, v] ∧ OexC K C ∧ PySem.W.findIn K (.ref C) f = some none ∧ H a = some (exo a C none) ∧ ∀ dx, H dx = none → dx ≠ a → Q .non (upd (upd H dx (exd dx [(f, v)])) a (exo a C (some dx)))
structure FexTxt (P : Program) (w : World) (K : PySem.W.Frag) (mg : Str → Option Value) (base : Heap) (x : Str) (C : Addr) (f : Str) : Prop where
  gC : mg x = some (.ref C)
  ox : OexC K C
  fld : PySem.W.findIn K (.ref C) f = some none
  ini : ∃ (fI : Addr) (fd : FuncData) (p : Str), PySem.W.findIn K (.ref C) "__init__" = some (some (.ref fI)) ∧ PySem.W.typeIn K (.ref fI) = some (.type "function") ∧ Binds K fd ["self", p] [] ∧ FnOk P w K mg base (L2.CX P w) 1 fI fd ["self", p] (spX K f)
section
variable {X : Cx} {C : Addr} {f x : Str}
theorem pmk_fex {e : Expr} {p pos : Pos} {te : TE} {k : Nat} (T : FexTxt X.prog X.w X.K X.mg X.base x C f) (hr : Room (k + 1) X.A) (hg : Gl X x) (he : PE X e te) (hk : 1 ≤ k := by decide) (hd : (x == ("__debug__" : Str)) = false := by decide)
    (h1 : starEach [e] X.env = (false, eval e X.env) :: starEach [] X.env := by rfl) (h2 : (backTo pos (starEach [] X.env)).any (·.1) = false := by rfl) :
    PMk X (.Call (.Name x p) [e] [] pos) (tMkO C (spX X.K f) [] (tCons te tNil)) := by
  obtain ⟨fI, fd, p', i1, i2, bd, F⟩ := T.ini
  exact pmk_oex (sp := spX X.K f) (dvs := []) (ds := []) T.ox i1 i2 (F.mono hk) hr bd .nil passL hg T.gC (pa_cons he pa_nil h1) hd h1 h2
end
def sRaise1 (c : Addr) (f : Str) (fe : F) : S := fun env μ => (fe env μ).toS env fun d μ1 => .ex ⟨c, some [(f, d)]⟩ env μ1
theorem tsf_raise1 {K : KW} {W : WX} {C : Addr} {f : Str} {te : TE} {fe : F} (hx : OexC K C) (hf : PySem.W.findIn K (.ref C) f = some none) (he : TEf K W te fe) :
    TSf K W (fun _ σ H => tMkO C (spX K f) [] (tCons te tNil) σ H fun cls d H' => W cls d σ H') (sRaise1 C f fe) := by
  intro σ H D env μ ρ at_ h
  refine he.goS at_ h fun ρ1 H1 v d μ1 e1 a1 r1 q => ?_
  refine ⟨(show 1 ≤ 1000 by decide), fun a ha => ⟨a, C, v, rfl, hx, hf, upd_same, fun dx h1 h2 => ?_⟩⟩
  have h3 : H1 dx = none := by rw [← h1, upd_ne h2]
  have e1' : (upd (upd (upd H1 a (exo a C none)) dx (exd dx [(f, v)])) a (exo a C (some dx))) dx = some (exd dx [(f, v)]) := by rw [upd_ne h2, upd_same]
  refine ⟨rfl, dx, [(f, v)], upd_same, e1', h3, ?_⟩
  have eq : upd (del (upd (upd (upd H1 a (exo a C none)) dx (exd dx [(f, v)])) a (exo a C (some dx))) a) dx (.xd [(f, v)]) = upd H1 dx (.xd [(f, v)]) := by
    funext b
    by_cases hb : b = dx
    · subst hb; rw [upd_same, upd_same]
    · rw [upd_ne hb, upd_ne hb]
      by_cases hba : b = a
      · subst hba; rw [del_same, ha]
      · rw [del_ne hba, upd_ne hba, upd_ne hb, upd_ne hba]
  rw [eq]
  have ee := ext_upd (K := K) ρ1 (o := .xd [(f, v)]) (Wr.none h3)
  exact q ρ1 _ σ _ _ ee (a1.ext ee (a1.rp.side h3)) ⟨rfl, dx, [(f, v)], rfl, upd_same, .cons (r1.ext ee) .nil⟩
/-! ### own classes -/
def putD (f : Str) (d : D) : List (Str × D) → List (Str × D)
  | [] => [(f, d)]
  | (g, x) :: r => if g = f then (g, d) :: r else (g, x) :: putD f d r
theorem rf_put {K : KW} {ρ : List Addr} {H : Hp} {f : Str} {v : V} {d : D} (r : RV K ρ H v d) {vs : List (Str × V)} {ds : List (Str × D)} (h : RF K ρ H vs ds) : RF K ρ H (putF f v vs) (putD f d ds) := by
  induction h with
  | nil => exact .cons r .nil
  | @cons g v' d' vs ds r' rr ih =>
    unfold putF putD
    split
    · exact .cons r rr
    · exact .cons r' ih
theorem rf_len {κ : Type} {K : KW} {ρ : List Addr} {H : Hp} {vs : List (κ × V)} {ds : List (κ × D)} (h : RF K ρ H vs ds) : vs.length = ds.length := by
  induction h with
  | nil => rfl
  | cons _ _ ih => simp [ih]
/-- e.f of an instance of C -/
def fldC (C : Addr) (f : Str) (a : D) (μ : Mem) : R D := match a with
  | .cell n => match μ[n]? with
    | some (.ins c fs) => if c = C then match fs.lookup f with
        | some d => .ok d μ
        | none => .no
      else .no
    | _ => .no
  | _ => .no
theorem tef_fld {K : KW} {W : WX} {C : Addr} {f : Str} {te : TE} {fe : F} (hc : Cls K C) (hn : NoAttr K C f) (he : TEf K W te fe) : TEf K W (tFld K te f) (fUn (fldC C f) fe) := by
  intro σ H Q env μ ρ at_ h
  refine he.go at_ h fun ρ1 H1 v d μ1 e1 a1 r1 h1 => ?_
  cases r1 with
  | @cell n a hn' =>
    simp only [fldC] at h1
    cases e : μ1[n]? with
    | none => rw [e] at h1; exact h1.elim
    | some c =>
      rw [e] at h1
      cases c with
      | ins c fs =>
        obtain ⟨dx, vs, q1, q2⟩ := a1.rp.get hn' e
        by_cases hcc : c = C
        · subst hcc
          simp only [if_true] at h1
          cases e2 : fs.lookup f with
          | none => simp only [e2] at h1; exact h1.elim
          | some d =>
            simp only [e2] at h1
            obtain ⟨w, w1, w2⟩ := rf_look q2 e2
            exact ⟨a, c, dx, vs, w, rfl, q1, hc, hn, w1, Pa.ok (rel := RV K) h1 a1.rp w2⟩
        · simp only [if_neg hcc] at h1
          exact h1.elim
      | _ => exact h1.elim
  | _ => exact h1.elim
/-- e.f = d -/
def sFldD (C : Addr) (f : Str) (fe fv : F) : S := fun env μ => (fv env μ).toS env fun d μ1 => (fe env μ1).toS env fun o μ2 => match o with
  | .cell n => match μ2[n]? with
    | some (.ins c fs) => if c = C ∧ fs.length < 1000 then .nx env (μ2.set n (.ins c (putD f d fs))) else .no
    | _ => .no
  | _ => .no
theorem tsf_fld {K : KW} {W : WX} {C : Addr} {f : Str} {te tv : TE} {fe fv : F} (hc : Cls K C) (hn : NoAttr K C f) (he : TEf K W te fe) (hv : TEf K W tv fv) : TSf K W (sFld K te tv f) (sFldD C f fe fv) := by
  intro σ H D env μ ρ at_ h
  refine hv.goS at_ h fun ρ1 H1 v d μ1 e1 a1 r1 h1 => he.goS a1 h1 fun ρ2 H2 ov od μ2 e2 a2 r2 h2 => ?_
  cases r2 with
  | @cell n a hn' =>
    simp only at h2
    cases e : μ2[n]? with
    | none => rw [e] at h2; exact h2.elim
    | some c =>
      rw [e] at h2
      cases c with
      | ins c fs =>
        obtain ⟨dx, vs, q1, q2⟩ := a2.rp.get hn' e
        by_cases hcc : c = C ∧ fs.length < 1000
        · simp only [if_pos hcc] at h2
          obtain ⟨rfl, hl⟩ := hcc
          have ee := ext_upd (K := K) ρ2 (o := .ins c dx (putF f v vs)) (Wr.ins q1)
          exact ⟨a, c, dx, vs, rfl, q1, hc, hn, by rw [rf_len q2]; exact hl, h2 ρ2 _ σ ee (a2.ext ee (a2.rp.write hn' (Wr.ins q1) (c := .ins c (putD f d fs)) ⟨dx, _, upd_same, rf_put ((r1.ext e2).ext ee) (q2.ext ee)⟩))⟩
        · simp only [if_neg hcc] at h2
          exact h2.elim
      | _ => exact h2.elim
  | _ => exact h2.elim
/-- C(..) -/
def fMake (C : Addr) (g : List D → Mem → R D) (n : Nat) (fs : FA) : F := fun env μ => (fs env μ).bind fun ds μ1 => if ds.length + 1 = n then (g (.cell μ1.length :: ds) (μ1 ++ [.ins C []])).bind fun v μ2 => match v with
    | .non => .ok (.cell μ1.length) μ2
    | _ => .no
  else .no
theorem tef_make {K : KW} {W : WX} {C : Addr} {n : Nat} {g : List D → Mem → R D} {ta : TA} {fs : FA} (ha : TAf K W ta fs) : TEf K W (fun σ H Q => tMake C (spD K n g) [] (fun c d H' => W c d σ H') ta σ H Q) (fMake C g n fs) := by
  intro σ H Q env μ ρ at_ h
  refine ha.go at_ h fun ρ1 H1 vs ds μ1 e1 a1 r1 h1 => fun x dx hx hdx hne => ?_
  have h1 : Pd K (if ds.length + 1 = n then (g (.cell μ1.length :: ds) (μ1 ++ [.ins C []])).bind fun v μ2 => match v with
    | .non => .ok (.cell μ1.length) μ2
    | _ => .no
  else .no) ρ1 H1 Q (fun c d H' => W c d σ H') := h1
  by_cases hn : ds.length + 1 = n
  · rw [if_pos hn] at h1
    have hx' : (upd H1 dx (.own x)) x = none := by rw [upd_ne (Ne.symm hne)]; exact hx
    have ea := ext_upd (K := K) ρ1 (o := .own x) (Wr.none hdx)
    have r0 := a1.rp.side (o := .own x) hdx
    have eb := ext_new (K := K) ρ1 (o := .ins C dx []) hx'
    have rb : Rep K (ρ1 ++ [x]) (upd (upd H1 dx (.own x)) x (.ins C dx [])) (μ1 ++ [.ins C []]) := r0.new hx' ⟨dx, [], upd_same, .nil⟩
    have gx : (ρ1 ++ [x])[μ1.length]? = some x := by rw [← a1.rp.len]; simp
    refine ⟨ρ1 ++ [x], μ1 ++ [.ins C []], .cell μ1.length :: ds, rb, ?_, by simpa using hn, ?_⟩
    · rw [List.append_nil]
      exact .cons (.cell gx) ((r1.ext ea).ext eb)
    · have h2 := Pa.mono (ea.trans eb) h1
      refine Pa.imp (Pa.bind h2) ?_ fun _ _ _ z => z
      rintro v H3 ⟨ρ3, d3, μ3, e3, r3, rv, h3⟩
      cases rv with
      | non => exact ⟨rfl, Pa.ok (rel := RV K) h3 r3 (.cell (e3.get gx))⟩
      | _ => exact h3.elim
  · rw [if_neg hn] at h1
    exact h1.elim
end Dv

set_option maxRecDepth 100000
set_option maxHeartbeats 4000000
namespace Dv
open PySem PySem.Spec PyProof.Rows L2
/-- what is known of an own exception with a field -/
structure FexOk (P : Program) (w : World) (K : PySem.W.Frag) (mg : Str → Option Value) (base : Heap) (x : Str) (C : Addr) (f : Str) : Prop extends FexTxt P w K mg base x C f where
  xf : XfC K C
/-! ### a class's __init__ and its methods, what they let out being wished for at the slots -/
structure MakeOk (P : Program) (w : World) (K : PySem.W.Frag) (mg : Str → Option Value) (base : Heap) (x : Str) (C : Addr) (k : Nat) (ps : List Str) (sp : Sp) : Prop where
  ex : ∃ (f : Addr) (fd : FuncData), mg x = some (.ref C) ∧ Mk K C f ∧ Binds K fd ps [] ∧ FnOk P w K mg base (L2.CX P w) k f fd ps sp
structure MethOk (P : Program) (w : World) (K : PySem.W.Frag) (mg : Str → Option Value) (base : Heap) (C : Addr) (m : Str) (k : Nat) (ps : List Str) (sp : Sp) : Prop where
  ex : ∃ (f : Addr) (fd : FuncData), Cls K C ∧ Meth K C m f ∧ Binds K fd ps [] ∧ FnOk P w K mg base (L2.CX P w) k f fd ps sp
section
variable {X : Cx} {C : Addr} {k j : Nat} {ps : List Str} {sp : Sp} {x m : Str} {W : WX}
def tMk (C : Addr) (sp : Sp) (W : WX) (t : TA) : TE := fun σ H Q => t σ H fun vs H1 => ∀ x dx, H1 x = none → H1 dx = none → dx ≠ x →
  sp (.ref x :: vs) (upd (upd H1 dx (.own x)) x (.ins C dx [])) (fun v H2 => v = .non ∧ Q (.ref x) H2) fun c d H2 => W c d σ H2
theorem made_at {f : Addr} {fd : FuncData} {pins : List (Addr × Obj)} {slots : L2.St} {G : Hp} {st : Shared} {Q : VK} {E1 : XK} {us : List Value} {vs : List V} (mk : Mk X.K C f) (fn : FnOk X.prog X.w X.K X.mg X.base (L2.CX X.prog X.w) k f fd ps sp)
    (room : Room (k + 1) X.A) (bd : Binds X.K fd ps []) (out : PassesAt (L2.CX X.prog X.w) X slots E1) (inv : Inv X pins slots G st) (rv : Vals vs us)
    (wish : ∀ x dx, G x = none → G dx = none → dx ≠ x → sp (.ref x :: vs) (upd (upd G dx (.own x)) x (.ins C dx [])) (fun v H2 => v = .non ∧ Q (.ref x) H2) E1) :
    wpAny (model X.prog X.w) X.A (call (.ref C) us) (EP X pins slots Q) X.xe st := by
  have n1 : G st.heap.objs.size = none := inv.hok.fresh (Nat.le_refl _)
  have n2 : G (st.heap.objs.size + 1) = none := inv.hok.fresh (Nat.le_succ _)
  have want := wish _ _ n2 n1 (Nat.ne_of_lt (Nat.lt_succ_self _))
  have inv2 := Inv.made (C := C) inv
  have rv2 : Vals (V.ref (st.heap.objs.size + 1) :: vs) (Value.ref (st.heap.objs.size + 1) :: us) := .cons rfl rv
  have ln : (Value.ref (st.heap.objs.size + 1) :: us).length = ps.length := by rw [← rv2.length]; exact fn.len _ _ _ _ want
  have b2 := bd _ (Value.ref (st.heap.objs.size + 1) :: us) inv2.kIn (by rw [List.append_nil]; exact ln)
  rw [List.append_nil] at b2
  have ran := fn.run _ X.stack _ _ ⟨Value.ref (st.heap.objs.size + 1) :: us, []⟩ (Value.ref (st.heap.objs.size + 1) :: us) _ _ E1 (room.make C us []) (inv2.env0.make C us []) b2 rv2 want
  refine wpAny_call (make_map (f := f) inv.kIn mk.makes mk.init (beq_iff_eq.mp mk.fn) (codeAny_mono ran fun res st' fin => ?_))
  match res, fin with
  | .error er, fin => exact out pins _ _ er st' inv2 fin
  | .ok (.ret u), fin =>
    obtain ⟨v, H3, inv3, rv3, ev, q3⟩ := inv2.after fin
    subst ev
    exact ⟨rv3, ⟨V.ref (st.heap.objs.size + 1), H3, inv3, rfl, q3⟩⟩
  | .ok .next, fin => exact fin.elim
  | .ok .brk, fin => exact fin.elim
  | .ok .cont, fin => exact fin.elim
theorem pe_mkS {e : Expr} {es : List Expr} {p pos : Pos} {ta : TA} (tk : Takes X W) (T : MakeOk X.prog X.w X.K X.mg X.base x C k ps sp) (hr : Room j X.A) (hg : Gl X x) (ha : PA X (e :: es) ta) (hj : k + 1 ≤ j := by decide)
    (hdb : (x == ("__debug__" : Str)) = false := by decide) (he : starEach (e :: es) X.env = (false, eval e X.env) :: starEach es X.env := by rfl) (hpl : (backTo pos (starEach es X.env)).any (·.1) = false := by rfl) :
    PE X (.Call (.Name x p) (e :: es) [] pos) (tMk C sp W ta) := by
  obtain ⟨f, fd, hm, mk, bd, fn⟩ := T.ex
  refine ⟨fun pins st slots G Q inv want => wpAny_Call_Name_kw (ld_glob inv hg hm ?_ hdb)⟩
  refine PySem.W.callWith_K (h₀ := X.base) inv.ok.mod.kin mk.kp (thn (ha.run pos pins st slots G _ inv want) fun us s1 got => ?_) he hpl
  obtain ⟨vs, H1, inv1, rv, q⟩ := got
  exact ⟨inv1.kIn, made_at mk fn (hr.mono hj) bd (passAt tk slots) inv1 rv q⟩
def tMt (C : Addr) (m : Str) (sp : Sp) (W : WX) (ta : TE) (t : TA) : TE := fun σ H Q => ta σ H fun x H1 => ∃ a dx fs, x = .ref a ∧ H1 a = some (.ins C dx fs) ∧ fs.lookup m = none ∧
  t σ H1 fun vs H2 => sp (x :: vs) H2 Q fun c d H2 => W c d σ H2
theorem pe_mtS {o e : Expr} {es : List Expr} {apos pos : Pos} {to : TE} {ta : TA} {pl : Sem Bool} (tk : Takes X W) (T : MethOk X.prog X.w X.K X.mg X.base C m k ps sp) (hr : Room j X.A) (ho : PE X o to) (ha : PA X (e :: es) ta) (hj : k ≤ j := by decide)
    (hst : starEach (e :: es) X.env = (false, eval e X.env) :: starEach es X.env := by rfl) (hpl : (backTo pos (starEach es X.env)).any (·.1) = false := by rfl)
    (ht : eval (.Call (.Attribute o m apos) (e :: es) [] pos) X.env = (do
      let recv ← eval o X.env
      standAt apos.atName
      let (g, first) ← holding [recv] (getMethod recv m pl)
      callWith pos g first (backTo pos (starEach (e :: es) X.env)) (backToKw pos (keywordEach [] X.env))) := by rfl) :
    PE X (.Call (.Attribute o m apos) (e :: es) [] pos) (tMt C m sp W to ta) := by
  obtain ⟨f, fd, cl, mt, bd, fn⟩ := T.ex
  refine ⟨fun pins st slots G Q inv want => PySem.W.methodCall_KW (pl := pl) (thn (ho.run pins st slots G _ inv want) fun u s1 got => ?_) ht⟩
  obtain ⟨x, H1, inv1, rx, a, dx, fs, ex, ea, l, q⟩ := got
  subst ex
  obtain rfl : u = Value.ref a := rx
  refine getmeth_ok inv1 ea cl mt l ?_
  refine PySem.W.callWith_K (first := [.ref a]) (h₀ := X.base) inv.ok.mod.kin mt.kp (thn (ha.run pos pins s1 slots H1 _ inv1 q) fun us s2 got2 => ?_) hst hpl
  obtain ⟨vs, H2, inv2, rv, q2⟩ := got2
  exact ⟨inv2.kIn, run_fnS (E := fun σ => WE W σ) (us := .ref a :: us) (vs := .ref a :: vs) fn (hr.mono hj) bd (passAt tk slots) inv2 (.cons rfl rv) q2⟩
theorem pe_mtS0 {o : Expr} {apos pos : Pos} {to : TE} {pl : Sem Bool} (tk : Takes X W) (T : MethOk X.prog X.w X.K X.mg X.base C m k ps sp) (hr : Room j X.A) (ho : PE X o to) (hj : k ≤ j := by decide)
    (ht : eval (.Call (.Attribute o m apos) [] [] pos) X.env = (do
      let recv ← eval o X.env
      standAt apos.atName
      let (g, first) ← holding [recv] (getMethod recv m pl)
      callWith pos g first (backTo pos (starEach [] X.env)) (backToKw pos (keywordEach [] X.env))) := by rfl) :
    PE X (.Call (.Attribute o m apos) [] [] pos) (tMt C m sp W to tNil) := by
  obtain ⟨f, fd, cl, mt, bd, fn⟩ := T.ex
  refine ⟨fun pins st slots G Q inv want => PySem.W.methodCall_KW (pl := pl) (thn (ho.run pins st slots G _ inv want) fun u s1 got => ?_) ht⟩
  obtain ⟨x, H1, inv1, rx, a, dx, fs, ex, ea, l, q⟩ := got
  subst ex
  obtain rfl : u = Value.ref a := rx
  refine getmeth_ok inv1 ea cl mt l ?_
  refine PySem.W.callWith_K0 (first := [.ref a]) inv1.kIn mt.kp ?_
  exact run_fnS (E := fun σ => WE W σ) (us := [.ref a]) (vs := [.ref a]) fn (hr.mono hj) bd (passAt tk slots) inv1 (.cons rfl .nil) q
end
theorem tef_mk {K : KW} {W : WX} {C : Addr} {n : Nat} {g : List D → Mem → R D} {ta : TA} {fs : FA} (ha : TAf K W ta fs) : TEf K W (tMk C (spD K n g) W ta) (fMake C g n fs) := by
  intro σ H Q env μ ρ at_ h
  refine ha.go at_ h fun ρ1 H1 vs ds μ1 e1 a1 r1 h1 => fun x dx hx hdx hne => ?_
  have h1 : Pd K (if ds.length + 1 = n then (g (.cell μ1.length :: ds) (μ1 ++ [.ins C []])).bind fun v μ2 => match v with
    | .non => .ok (.cell μ1.length) μ2
    | _ => .no
  else .no) ρ1 H1 Q (fun c d H' => W c d σ H') := h1
  by_cases hn : ds.length + 1 = n
  · rw [if_pos hn] at h1
    have hx' : (upd H1 dx (.own x)) x = none := by rw [upd_ne (Ne.symm hne)]; exact hx
    have ea := ext_upd (K := K) ρ1 (o := .own x) (Wr.none hdx)
    have r0 := a1.rp.side (o := .own x) hdx
    have eb := ext_new (K := K) ρ1 (o := .ins C dx []) hx'
    have rb : Rep K (ρ1 ++ [x]) (upd (upd H1 dx (.own x)) x (.ins C dx [])) (μ1 ++ [.ins C []]) := r0.new hx' ⟨dx, [], upd_same, .nil⟩
    have gx : (ρ1 ++ [x])[μ1.length]? = some x := by rw [← a1.rp.len]; simp
    refine ⟨ρ1 ++ [x], μ1 ++ [.ins C []], .cell μ1.length :: ds, rb, .cons (.cell gx) ((r1.ext ea).ext eb), by simpa using hn, ?_⟩
    refine Pa.imp (Pa.bind (Pa.mono (ea.trans eb) h1)) ?_ fun _ _ _ z => z
    rintro v H3 ⟨ρ3, d3, μ3, e3, r3, rv, h3⟩
    cases rv with
    | non => exact ⟨rfl, Pa.ok (rel := RV K) h3 r3 (.cell (e3.get gx))⟩
    | _ => exact h3.elim
  · rw [if_neg hn] at h1
    exact h1.elim
/-- o.m(..) of an instance of C -/
def fMeth (C : Addr) (m : Str) (g : List D → Mem → R D) (n : Nat) (fo : F) (fs : FA) : F := fun env μ => (fo env μ).bind fun o μ1 => match o with
  | .cell c => match μ1[c]? with
    | some (.ins C' fl) => if C' = C ∧ fl.lookup m = none then (fs env μ1).bind fun ds μ2 => if ds.length + 1 = n then g (.cell c :: ds) μ2 else .no else .no
    | _ => .no
  | _ => .no
theorem rf_none {K : KW} {ρ : List Addr} {H : Hp} {f : Str} {vs : List (Str × V)} {ds : List (Str × D)} (h : RF K ρ H vs ds) (e : ds.lookup f = none) : vs.lookup f = none := by
  induction h with
  | nil => rfl
  | @cons g v d' vs ds r rr ih =>
    rw [List.lookup_cons] at e ⊢
    cases q : f == g with
    | true => rw [q] at e; cases e
    | false => rw [q] at e; exact ih e
theorem tef_mt {K : KW} {W : WX} {C : Addr} {m : Str} {n : Nat} {g : List D → Mem → R D} {to : TE} {fo : F} {ta : TA} {fs : FA} (ho : TEf K W to fo) (ha : TAf K W ta fs) : TEf K W (tMt C m (spD K n g) W to ta) (fMeth C m g n fo fs) := by
  intro σ H Q env μ ρ at_ h
  refine ho.go at_ h fun ρ1 H1 v d μ1 e1 a1 r1 h1 => ?_
  cases r1 with
  | @cell c a hc =>
    simp only at h1
    cases e : μ1[c]? with
    | none => rw [e] at h1; exact h1.elim
    | some cc =>
      rw [e] at h1
      cases cc with
      | ins C' fl =>
        obtain ⟨dx, vs, q1, q2⟩ := a1.rp.get hc e
        by_cases hcc : C' = C ∧ fl.lookup m = none
        · simp only [if_pos hcc] at h1
          obtain ⟨rfl, hl⟩ := hcc
          refine ⟨a, dx, vs, rfl, q1, rf_none q2 hl, ha.go a1 h1 fun ρ2 H2 ws ds μ2 e2 a2 r2 h2 => ?_⟩
          by_cases hn : ds.length + 1 = n
          · simp only [if_pos hn] at h2
            exact ⟨ρ2, μ2, .cell c :: ds, a2.rp, .cons (.cell (e2.get hc)) r2, by simpa using hn, h2⟩
          · simp only [if_neg hn] at h2
            exact h2.elim
        · simp only [if_neg hcc] at h1
          exact h1.elim
      | _ => exact h1.elim
  | _ => exact h1.elim
end Dv

set_option maxRecDepth 100000
set_option maxHeartbeats 4000000
namespace Dv
open PySem PySem.Spec PyProof.Rows L2
/-! ### the end -/
theorem kit_by {K : PySem.W.Frag} {D C : Addr} {b : Bool} (h2 : PySem.W.isClsIn K C = true) (h3 : PySem.W.typeIn K (.ref C) = some (.type "type")) (h4 : PySem.W.subIn K (.ref D) (.ref C) = some b) (h5 : PySem.W.subIn K (.ref C) (.ref C) = some true) :
    PySem.W.kitOne K (.ref D) (.ref C) = some b := by
  have e2 : ((PySem.W.clsIn K C).isSome && PySem.W.typeIn K (.ref C) == some (.type "type")) = true := by
    have h2' : (PySem.W.clsIn K C).isSome = true := h2
    rw [h2', h3] <;> rfl
  by_cases e : D = C
  · subst e
    rw [h4] at h5
    cases h5
    show (if ((Value.ref D) == Value.ref D) = true then some true else _) = some true
    rw [if_pos (by simp)]
  · show (if ((Value.ref D) == Value.ref C) = true then some true else if ((PySem.W.clsIn K C).isSome && PySem.W.typeIn K (.ref C) == some (.type "type")) = true then PySem.W.subIn K (.ref D) (.ref C) else none) = some b
    rw [if_neg (by simpa using e), if_pos e2, h4]
theorem kit_ve {K : PySem.W.Frag} {D : Addr} (h : PySem.W.subIn K (.ref D) (.type "ValueError") = some true) : PySem.W.kitOne K (.ref D) (.type "ValueError") = some true := by
  show (if ((Value.ref D) == Value.type "ValueError") = true then some true else if PySem.W.kitMeta "ValueError" = true then PySem.W.subIn K (.ref D) (.type "ValueError") else none) = some true
  have e : (Value.ref D == Value.type "ValueError") = false := by simp
  rw [e, if_neg Bool.false_ne_true, if_pos (by decide +kernel), h]
/-- the law's promise, by its function -/
def spLawD (K : PySem.W.Frag) (w : World) : Sp := fun vs H Q _ => ∃ (a : Addr) (ns : List Int), vs = [.ref a] ∧ Fz ⟨K, w, none⟩ H a (ns.map V.int) ∧ ns.length ≤ 63 ∧ ∀ H', Q (.bl true) H'
theorem fz_of {K : PySem.W.Frag} {w : World} {H : Hp} {a : Addr} {xs : List V} (O : Only H) (h : SqL K H a xs) : Fz ⟨K, w, none⟩ H a xs := by
  rcases h with (h | h) | h
  · rcases O a with z | ⟨o, ys, z⟩
    · rw [z] at h; cases h
    · rw [z] at h; cases h
  · exact .inl h
  · exact .inr h
theorem law_imp {K : PySem.W.Frag} {w : World} {g : List D → Mem → R D} (h : ∀ ns : List Int, ns.length ≤ 63 → ∃ μ, g [.scr ns] [] = .ok (.bl true) μ) (vs : List V) (H : Hp) (Q : VK) (E : XK) (s : spLawD K w vs H Q E) : spD ⟨K, w, none⟩ 1 g vs H Q E := by
  obtain ⟨a, ns, rfl, hf, hl, q⟩ := s
  obtain ⟨μ, e⟩ := h ns hl
  refine ⟨[], [], [.scr ns], ⟨rfl, List.nodup_nil, fun n c z => by simp at z⟩, .cons (.scr hf) .nil, rfl, ?_⟩
  show Pd _ (g [.scr ns] []) _ _ _ _
  rw [e]
  intro ρ' H' v _ _ rv
  cases rv
  exact q H'
end Dv

set_option maxRecDepth 100000
set_option maxHeartbeats 4000000
namespace Dv
open PySem PySem.Spec PyProof.Rows L2
/-! ### t == (w,) where t holds anything behind its head -/
def hdB (w : Str) (μ : Mem) : D → Option Bool
  | .non => some false | .bl _ => some false | .int _ => some false | .str z => some (z == w) | .tup _ => some false | .scr _ => some false
  | .cell n => match μ[n]? with
    | some (.lst _) => some false
    | _ => none
  | _ => none
def dEqHd (a b : D) (μ : Mem) : R D := match a, b with
  | .tup xs, .tup [.str w] => match xs with
    | [] => .ok (.bl false) μ
    | d :: r => match hdB w μ d with
      | some b => .ok (.bl (b && r.isEmpty)) μ
      | none => .no
  | _, _ => .no
/-- v == w, v no dict -/
def HdIs (K : PySem.W.Frag) (H : Hp) (w : Str) (v : V) (b : Bool) : Prop := match v with
  | .non => b = false | .bl _ => b = false | .int _ => b = false | .str z => b = (z == w)
  | .ref a => b = false ∧ ((∃ xs, SqL K H a xs) ∨ ∃ xs, SqT K H a xs)
  | _ => False
def rEqHd (K : PySem.W.Frag) : R2 := fun x y H Q => ∃ (a b : Addr) (vs : List V) (w : Str), x = .ref a ∧ y = .ref b ∧ SqT K H a vs ∧ SqT K H b [.str w] ∧ match vs with
  | [] => Q (.bl false) H
  | v :: r => ∃ e, HdIs K H w v e ∧ Q (.bl (e && r.isEmpty)) H
section
variable {X : Cx} {pins : List (Addr × Obj)} {σ : L2.St} {H : Hp} {s : Shared}
theorem hd_eqAt {A : Around} {v : V} {u : Value} {w : Str} {t : Tok} {e : Bool} (I : Inv X pins σ H s) (r : RelV v u) (h : HdIs X.K H w v e) (hu : A.units < cLine) : SeqAt.EqAt A s u (.str w t) e := by
  cases v with
  | non => cases r; cases h; exact SeqAt.EqAt.none_str w t
  | bl b => cases r; cases h; exact SeqAt.EqAt.bool_str b w t
  | int i => obtain ⟨t', rfl⟩ := r; cases h; exact SeqAt.EqAt.int_str i t' w t
  | str z => obtain ⟨t', rfl⟩ := r; cases h; exact SeqAt.EqAt.str_str z t' w t
  | ref a =>
    cases r
    obtain ⟨rfl, h⟩ := h
    rcases h with ⟨xs, h⟩ | ⟨xs, h⟩
    · obtain ⟨its, rv, pl, hz⟩ := I.list h
      exact SeqAt.EqAt.list_str w t pl.isList hu
    · obtain ⟨its, rv, pl, hz⟩ := I.tuple h
      exact SeqAt.EqAt.tuple_str w t pl hu
  | byt _ => exact h.elim
  | flt _ => exact h.elim
  | ty _ => exact h.elim
theorem oEqHd {X : Cx} {K : KW} (hu : X.A.units + 64 < cLine) (hK : X.K = K.K) : OpR X (compareOp .Eq) (rEqHd K) := by
  rw [← hK]
  intro pins s σ H x y v u Q I rx ry h
  obtain ⟨a, b, vs, w, rfl, rfl, ha, hb, q⟩ := h
  cases rx
  cases ry
  obtain ⟨its, rv, pl, hz⟩ := I.tuple ha
  obtain ⟨its2, rv2, pl2, hz2⟩ := I.tuple hb
  have hu1 : X.A.in1.units < cLine := by
    show X.A.units + 1 < cLine
    omega
  cases rv2 with
  | @cons _ u1 _ ur1 ru1 rur1 =>
    cases rur1
    obtain ⟨t, rfl⟩ := ru1
    cases rv with
    | nil =>
      refine SeqAt.eq_tupleAt (e := fun _ => true) pl pl2 (by omega) (fun j h1 h2 => absurd h1 (by simp)) ?_
      exact ⟨.bl _, H, I, rfl, q⟩
    | @cons v0 u0 vr ur ru rur =>
      obtain ⟨e, he, q⟩ := q
      refine SeqAt.eq_tupleAt (e := fun _ => e) pl pl2 (by omega) (fun j h1 h2 => ?_) ?_
      · have hj : j = 0 := by simp at h2; exact h2
        subst hj
        exact hd_eqAt I ru he hu1
      · have hm : min (u0 :: ur).toArray.size [Value.str w t].toArray.size = 1 := by simp
        rw [hm]
        have e0 : ((List.range 1).all (fun _ => e) && (u0 :: ur).toArray.size == [Value.str w t].toArray.size) = (e && vr.isEmpty) := by
          have e1 : (List.range 1).all (fun _ => e) = e := by cases e <;> rfl
          have e2 : ((u0 :: ur).toArray.size == [Value.str w t].toArray.size) = vr.isEmpty := by cases rur <;> simp
          rw [e1, e2]
        rw [e0]
        exact ⟨.bl _, H, I, rfl, q⟩
end
theorem r_eqHd {K : KW} : R2f K (rEqHd K) dEqHd := by
  intro x y a b μ ρ H Q E rp ra rb q
  cases ra with
  | @tup p vs xs h1 h2 =>
    cases rb with
    | @tup p2 ws ys k1 k2 =>
      cases k2 with
      | nil => exact q.elim
      | cons c1 c2 =>
        cases c1 with
        | @str w hw =>
          cases c2 with
          | cons _ _ => exact q.elim
          | nil =>
            refine ⟨p, p2, vs, w, rfl, rfl, h1, k1, ?_⟩
            cases h2 with
            | nil => exact Pa.ok (rel := RV K) q rp (.bl false)
            | @cons v d vr dr r rr =>
              simp only [dEqHd] at q
              cases e : hdB w μ d with
              | none => rw [e] at q; exact q.elim
              | some b =>
                rw [e] at q
                have fin := Pa.ok (rel := RV K) q rp (.bl _)
                rw [← nil_emp rr] at fin
                refine ⟨b, ?_, fin⟩
                cases r with
                | non => cases e; rfl
                | bl _ => cases e; rfl
                | int _ => cases e; rfl
                | str _ => cases e; rfl
                | tup z _ => cases e; exact ⟨rfl, .inr ⟨_, z⟩⟩
                | scr z => cases e; exact ⟨rfl, .inl ⟨_, z.sq⟩⟩
                | @cell n a hn =>
                  simp only [hdB] at e
                  cases m : μ[n]? with
                  | none => rw [m] at e; cases e
                  | some c =>
                    rw [m] at e
                    cases c with
                    | lst ys => cases e; obtain ⟨vs, q1, _⟩ := rp.get hn m; exact ⟨rfl, .inl ⟨_, SqL.of q1⟩⟩
                    | _ => cases e
                | _ => cases e
        | _ => exact q.elim
    | _ => exact q.elim
  | _ => exact q.elim
end Dv

set_option maxRecDepth 100000
set_option maxHeartbeats 4000000
namespace Dv
open PySem PySem.Spec PyProof.Rows L2
/-! ### how functions are read -/
section
variable {env : Env} {μ : Mem}
@[simp] theorem ap_seq {s1 s2 : S} : sSeq s1 s2 env μ = (s1 env μ).then s2 := rfl
@[simp] theorem ap_next : sNext env μ = .nx env μ := rfl
@[simp] theorem ap_ret {f : F} : sRet f env μ = (f env μ).toS env fun d μ1 => .rt d μ1 := rfl
@[simp] theorem ap_retN : sRetN env μ = .rt .non μ := rfl
@[simp] theorem ap_drop {f : F} : sDrop f env μ = (f env μ).toS env fun _ μ1 => .nx env μ1 := rfl
@[simp] theorem ap_break : sBreak env μ = .bk env μ := rfl
@[simp] theorem ap_cont : sCont env μ = .ct env μ := rfl
@[simp] theorem ap_ifS {c : FB} {s1 s2 : S} : sIf c s1 s2 env μ = (c env μ).toS env fun b μ1 => if b = true then s1 env μ1 else s2 env μ1 := rfl
@[simp] theorem ap_asg {f : F} {t : G} : sAsg f t env μ = (f env μ).toS env fun d μ1 => onG (t d env μ1) .nx := rfl
@[simp] theorem ap_par {i j : Nat} {fs : FA} : sPar i j fs env μ = (fs env μ).toS env fun ds μ1 => match ds with
  | [a, b] => .nx ((env.set i (some a)).set j (some b)) μ1
  | _ => .no := rfl
@[simp] theorem ap_gnm {i : Nat} {d : D} : gNm i d env μ = some (env.set i (some d), μ) := rfl
@[simp] theorem ap_gtup {n : Nat} {t : Gs} {xs : List D} : gTupD n t (.tup xs) env μ = if xs.length = n then t xs env μ else none := rfl
@[simp] theorem ap_gcons {t : G} {u : Gs} {d : D} {r : List D} : gsCons t u (d :: r) env μ = (t d env μ).bind fun p => u r p.1 p.2 := rfl
@[simp] theorem ap_gnil : gsNil [] env μ = some (env, μ) := rfl
@[simp] theorem ap_gsub {fo fi : F} {st : D → D → D → Mem → R Unit} {d : D} : gSubD fo fi st d env μ = (fo env μ).get.bind fun o => (fi env o.2).get.bind fun i => (st o.1 i.1 d i.2).get.bind fun m => some (env, m.2) := rfl
@[simp] theorem ap_var {i : Nat} : fVar i env μ = match env[i]? with
  | some (some d) => .ok d μ
  | _ => .no := rfl
@[simp] theorem ap_con {d : D} : fCon d env μ = .ok d μ := rfl
@[simp] theorem ap_op {g : D → D → Mem → R D} {f1 f2 : F} : fOp g f1 f2 env μ = (f1 env μ).bind fun x μ1 => (f2 env μ1).bind fun y μ2 => g x y μ2 := rfl
@[simp] theorem ap_un {g : D → Mem → R D} {f1 : F} : fUn g f1 env μ = (f1 env μ).bind fun x μ1 => g x μ1 := rfl
@[simp] theorem ap_chain {g h : D → D → Mem → R D} {f1 f2 f3 : F} : fChain g h f1 f2 f3 env μ = (f1 env μ).bind fun x μ1 => (f2 env μ1).bind fun y μ2 => (g x y μ2).bind fun z μ3 => match z with
  | .bl b => if b = true then (f3 env μ3).bind fun w μ4 => h y w μ4 else .ok (.bl false) μ3
  | _ => .no := rfl
@[simp] theorem ap_and {f1 f2 : F} : fAnd f1 f2 env μ = (f1 env μ).bind fun x μ1 => match x with
  | .bl b => if b = true then f2 env μ1 else .ok (.bl false) μ1
  | _ => .no := rfl
@[simp] theorem ap_or {f1 f2 : F} : fOr f1 f2 env μ = (f1 env μ).bind fun x μ1 => match x with
  | .bl b => if b = true then .ok (.bl true) μ1 else f2 env μ1
  | _ => .no := rfl
@[simp] theorem ap_not {f1 : F} : fNot f1 env μ = (f1 env μ).bind fun x μ1 => match x with
  | .bl b => .ok (.bl (!b)) μ1
  | _ => .no := rfl
@[simp] theorem ap_if {c : FB} {f1 f2 : F} : fIf c f1 f2 env μ = (c env μ).bind fun b μ1 => if b = true then f1 env μ1 else f2 env μ1 := rfl
@[simp] theorem ap_test {f1 : F} : bTest f1 env μ = (f1 env μ).bind fun x μ1 => match x with
  | .bl b => .ok b μ1
  | _ => .no := rfl
@[simp] theorem ap_bAnd {c1 c2 : FB} : bAnd c1 c2 env μ = (c1 env μ).bind fun b μ1 => if b = true then c2 env μ1 else .ok false μ1 := rfl
@[simp] theorem ap_bOr {c1 c2 : FB} : bOr c1 c2 env μ = (c1 env μ).bind fun b μ1 => if b = true then .ok true μ1 else c2 env μ1 := rfl
@[simp] theorem ap_bNot {c1 : FB} : bNot c1 env μ = (c1 env μ).bind fun b μ1 => .ok (!b) μ1 := rfl
@[simp] theorem ap_bTru {f1 : F} : bTru f1 env μ = (f1 env μ).bind truD := rfl
@[simp] theorem ap_bYes : bYes env μ = .ok true μ := rfl
@[simp] theorem ap_aNil : aNil env μ = .ok [] μ := rfl
@[simp] theorem ap_aCons {f : F} {fs : FA} : aCons f fs env μ = (f env μ).bind fun x μ1 => (fs env μ1).bind fun xs μ2 => .ok (x :: xs) μ2 := rfl
theorem tup_ok {n : Nat} (h : n ≤ 1000) : n ≤ sizeLine := Nat.le_trans h (by decide)
@[simp] theorem ap_tup {fs : FA} : fTup fs env μ = (fs env μ).bind fun xs μ1 => if xs.length ≤ sizeLine then .ok (.tup xs) μ1 else .no := rfl
@[simp] theorem ap_lst {fs : FA} : fLst fs env μ = (fs env μ).bind fun xs μ1 => if xs.length ≤ sizeLine then .ok (.cell μ1.length) (μ1 ++ [.lst xs]) else .no := rfl
@[simp] theorem ap_dct : fDct env μ = .ok (.cell μ.length) (μ ++ [.dK []]) := rfl
@[simp] theorem ap_B {g : List D → Mem → R D} {fs : FA} : fB g fs env μ = (fs env μ).bind g := rfl
@[simp] theorem ap_call {g : List D → Mem → R D} {fs : FA} : fCall g fs env μ = (fs env μ).bind g := rfl
@[simp] theorem ap_call0 {g : List D → Mem → R D} {fs : FA} : fCall0 g fs env μ = (fs env μ).bind fun ds μ1 => noEx (g ds μ1) := rfl
@[simp] theorem ap_sl {g : D → Option Int → Option Int → Mem → R D} {f : F} {lo hi : FO} : fSl g f lo hi env μ = (f env μ).bind fun x μ1 => (lo env μ1).bind fun l μ2 => (hi env μ2).bind fun h μ3 => g x l h μ3 := rfl
@[simp] theorem ap_oNo : oNo env μ = .ok none μ := rfl
@[simp] theorem ap_oAt {f : F} : oAt f env μ = (f env μ).bind fun x μ1 => match x with
  | .int i => .ok (some i) μ1
  | _ => .no := rfl
@[simp] theorem ap_me {T : String} {g : D → List D → Mem → R D} {fo : F} {fs : FA} : fMe T g fo fs env μ = (fo env μ).bind fun x μ1 => if tyM T μ1 x = true then (fs env μ1).bind fun xs μ2 => g x xs μ2 else .no := rfl
@[simp] theorem ap_me0 {T : String} {g : D → List D → Mem → R D} {fo : F} : fMe0 T g fo env μ = (fo env μ).bind fun x μ1 => if tyM T μ1 x = true then g x [] μ1 else .no := rfl
@[simp] theorem ap_lstRg {f : F} : fLstRg1 f env μ = (f env μ).bind fun x μ1 => match x with
  | .int n => if rgOk 0 n then .ok (.cell μ1.length) (μ1 ++ [.lst (rngD 0 (n - 0).toNat)]) else .no
  | _ => .no := rfl
@[simp] theorem ap_tupRg {f : F} : fTupRg1 f env μ = (f env μ).bind fun x μ1 => match x with
  | .int n => if rgOk 0 n then .ok (.tup (rngD 0 (n - 0).toNat)) μ1 else .no
  | _ => .no := rfl
@[simp] theorem ap_for {f : FI} {t : G} {b : S} : sFor f t b env μ = (f env μ).toS env fun it μ1 => forGo t b it.guard it.items env μ1 := rfl
@[simp] theorem ap_iTup {f : F} : iTupD f env μ = (f env μ).bind fun d μ1 => match d with
  | .tup xs => .ok ⟨xs, []⟩ μ1
  | _ => .no := rfl
@[simp] theorem ap_iLst {f : F} : iLstD f env μ = (f env μ).bind fun d μ1 => match d with
  | .cell n => match μ1[n]? with
    | some (.lst xs) => .ok ⟨xs, [(n, xs)]⟩ μ1
    | _ => .no
  | .scr ns => .ok ⟨ns.map .int, []⟩ μ1
  | _ => .no := rfl
@[simp] theorem ap_iStr {f : F} : iStrD f env μ = (f env μ).bind fun d μ1 => match d with
  | .str z => .ok ⟨z.cps.toList.map fun c => .str ⟨#[c]⟩, []⟩ μ1
  | _ => .no := rfl
@[simp] theorem ap_iRng1 {fs : FA} : iRng1D fs env μ = (fs env μ).bind fun ds μ1 => match ds with
  | [.int j] => if smallR j then .ok ⟨rngD 0 j.toNat, []⟩ μ1 else .no
  | _ => .no := rfl
@[simp] theorem ap_iRng2 {fs : FA} : iRng2D fs env μ = (fs env μ).bind fun ds μ1 => match ds with
  | [.int i, .int j] => if smallR i ∧ smallR j then .ok ⟨rngD i (j - i).toNat, []⟩ μ1 else .no
  | _ => .no := rfl
@[simp] theorem ap_raise0 {c : Addr} : sRaise0 c env μ = .ex ⟨c, none⟩ env μ := rfl
@[simp] theorem ap_raise1 {c : Addr} {f : Str} {fe : F} : sRaise1 c f fe env μ = (fe env μ).toS env fun d μ1 => .ex ⟨c, some [(f, d)]⟩ env μ1 := rfl
end
/-! ways -/
section
variable {α β : Type} {p : Prop} [Decidable p]
@[simp] theorem ite_bind {a b : R α} {k : α → Mem → R β} : (if p then a else b).bind k = if p then a.bind k else b.bind k := by split <;> rfl
@[simp] theorem ite_toS {a b : R α} {env : Env} {k : α → Mem → RS} : (if p then a else b).toS env k = if p then a.toS env k else b.toS env k := by split <;> rfl
@[simp] theorem ite_then {a b : RS} {k : Env → Mem → RS} : (if p then a else b).then k = if p then a.then k else b.then k := by split <;> rfl
@[simp] theorem ite_out {a b : RS} : outS (if p then a else b) = if p then outS a else outS b := by split <;> rfl
@[simp] theorem ite_noEx {a b : R α} : noEx (if p then a else b) = if p then noEx a else noEx b := by split <;> rfl
@[simp] theorem ite_get {a b : R α} : (if p then a else b).get = if p then a.get else b.get := by split <;> rfl
end
@[simp] theorem noEx_no {α : Type} : noEx (R.no : R α) = .no := rfl
@[simp] theorem noEx_ex {α : Type} {x : Exn} {μ : Mem} : noEx (R.ex x μ : R α) = .no := rfl
@[simp] theorem get_no {α : Type} : (R.no : R α).get = none := rfl
theorem runB_def {s : S} {n : Nat} {ds : List D} {μ : Mem} : runB s n ds μ = outS (s (env0 n ds) μ) := rfl
/-! plain things -/
@[simp] theorem dSub_ii {i j : Int} {μ : Mem} : dSub (.int i) (.int j) μ = .ok (.int (i - j)) μ := rfl
@[simp] theorem dAddG_ii {i j : Int} {μ : Mem} : dAddG (.int i) (.int j) μ = .ok (.int (i + j)) μ := rfl
@[simp] theorem dAddG_tt {xs ys : List D} {μ : Mem} : dAddG (.tup xs) (.tup ys) μ = if xs.length + ys.length ≤ sizeLine then .ok (.tup (xs ++ ys)) μ else .no := rfl
@[simp] theorem dLt_ii {i j : Int} {μ : Mem} : dLt (.int i) (.int j) μ = .ok (.bl (decide (i < j))) μ := rfl
@[simp] theorem dLe_ii {i j : Int} {μ : Mem} : dLe (.int i) (.int j) μ = .ok (.bl (decide (i ≤ j))) μ := rfl
@[simp] theorem dGt_ii {i j : Int} {μ : Mem} : dGt (.int i) (.int j) μ = .ok (.bl (decide (j < i))) μ := rfl
@[simp] theorem dGe_ii {i j : Int} {μ : Mem} : dGe (.int i) (.int j) μ = .ok (.bl (decide (j ≤ i))) μ := rfl
@[simp] theorem dEq_ii {i j : Int} {μ : Mem} : dEq (.int i) (.int j) μ = .ok (.bl (decide (i = j))) μ := by simp [dEq]
@[simp] theorem dEq_ss {i j : Str} {μ : Mem} : dEq (.str i) (.str j) μ = .ok (.bl (decide (i = j))) μ := by simp [dEq]
@[simp] theorem dNe_ii {i j : Int} {μ : Mem} : dNe (.int i) (.int j) μ = .ok (.bl (!decide (i = j))) μ := by simp [dNe]
@[simp] theorem dNe_ss {i j : Str} {μ : Mem} : dNe (.str i) (.str j) μ = .ok (.bl (!decide (i = j))) μ := by simp [dNe]
@[simp] theorem dIsN_n {a : D} {μ : Mem} : dIsN a .non μ = .ok (.bl (isNon a)) μ := by cases a <;> rfl
@[simp] theorem dNotN_n {a : D} {μ : Mem} : dNotN a .non μ = .ok (.bl (!isNon a)) μ := by cases a <;> rfl
@[simp] theorem tru_bl {b : Bool} {μ : Mem} : truD (.bl b) μ = .ok b μ := rfl
@[simp] theorem int1_i {i : Int} {μ : Mem} : dInt1 [.int i] μ = .ok (.int i) μ := rfl
@[simp] theorem abs_i {i : Int} {μ : Mem} : dAbs [.int i] μ = .ok (.int (if i < 0 then -i else i)) μ := rfl
@[simp] theorem setL_at {n : Nat} {i : Int} {d : D} {μ : Mem} : setL (.cell n) (.int i) d μ = match μ[n]? with
    | some (.lst xs) => match ixN xs.length i with
      | some j => .ok () (μ.set n (.lst (xs.set j d)))
      | none => .no
    | _ => .no := rfl
@[simp] theorem seqOf_tup {μ : Mem} {xs : List D} : seqOf μ (.tup xs) = some xs := rfl
@[simp] theorem setOf_tup {μ : Mem} {xs : List D} : setOf μ (.tup xs) = none := rfl
@[simp] theorem setOf_str {μ : Mem} {z : Str} : setOf μ (.str z) = none := rfl
@[simp] theorem len_tup {μ : Mem} {xs : List D} : dLenG [.tup xs] μ = .ok (.int (xs.length : Int)) μ := rfl
@[simp] theorem len_str {μ : Mem} {z : Str} : dLenG [.str z] μ = .ok (.int (z.length : Int)) μ := rfl
theorem len_cell {μ : Mem} {n : Nat} {xs : List D} (h : μ[n]? = some (.lst xs)) : dLenG [.cell n] μ = .ok (.int (xs.length : Int)) μ := by simp [dLenG, setOf, h, lenD, seqOf]
@[simp] theorem ix_tup' {xs : List D} {i : Int} {μ : Mem} : ixD (.tup xs) (.int i) μ = match atI xs i with
        | some d => .ok d μ
        | none => .no := rfl
theorem ix_cell {μ : Mem} {n : Nat} {xs : List D} {i : Int} (h : μ[n]? = some (.lst xs)) : ixD (.cell n) (.int i) μ = match atI xs i with
        | some d => .ok d μ
        | none => .no := by cases e : atI xs i <;> simp [ixD, seqOf, h, e]
theorem atI_in {α : Type} {xs : List α} {i : Int} (h0 : 0 ≤ i) (h1 : i < (xs.length : Int)) : atI xs i = xs[i.toNat]? := by
  unfold atI ixN
  rw [if_pos h0, if_pos h1]
  rfl
@[simp] theorem at0 {α : Type} {x : α} {xs : List α} : atI (x :: xs) 0 = some x := by rw [atI_in (by omega) (by simp)]; rfl
@[simp] theorem at1 {α : Type} {x y : α} {xs : List α} : atI (x :: y :: xs) 1 = some y := by rw [atI_in (by omega) (by simp; omega)]; rfl
@[simp] theorem at2 {α : Type} {x y z : α} {xs : List α} : atI (x :: y :: z :: xs) 2 = some z := by rw [atI_in (by omega) (by simp; omega)]; rfl
@[simp] theorem at3 {α : Type} {x y z u : α} {xs : List α} : atI (x :: y :: z :: u :: xs) 3 = some u := by rw [atI_in (by omega) (by simp; omega)]; rfl
@[simp] theorem at4 {α : Type} {x y z u v : α} {xs : List α} : atI (x :: y :: z :: u :: v :: xs) 4 = some v := by rw [atI_in (by omega) (by simp; omega)]; rfl
@[simp] theorem size1000 {n : Nat} : (n ≤ sizeLine) = (n ≤ 16777216) := by rw [sizeLine_eq]
@[simp] theorem size1000' {n : Nat} : (n < sizeLine) = (n < 16777216) := by rw [sizeLine_eq]
end Dv

set_option maxRecDepth 100000
set_option maxHeartbeats 4000000
namespace Dv
open PySem PySem.Spec PyProof.Rows L2
/-! ### how a run of functions is followed -/
def Nexts (Q : Env → Mem → Prop) (r : RS) : Prop := ∃ env μ, r = .nx env μ ∧ Q env μ
def Ends (Q : D → Mem → Prop) (r : RS) : Prop := ∃ d μ, outS r = .ok d μ ∧ Q d μ
def Gives {α : Type} (Q : α → Mem → Prop) (r : R α) : Prop := ∃ d μ, r = .ok d μ ∧ Q d μ
theorem Nexts.seq {Q : Env → Mem → Prop} {P : D → Mem → Prop} {s1 s2 : S} {env : Env} {μ : Mem} (h : Nexts Q (s1 env μ)) (k : ∀ env μ, Q env μ → Ends P (s2 env μ)) : Ends P (sSeq s1 s2 env μ) := by
  obtain ⟨e1, μ1, e, q⟩ := h
  show Ends P ((s1 env μ).then s2)
  rw [e]; exact k _ _ q
theorem Nexts.seqN {Q P : Env → Mem → Prop} {s1 s2 : S} {env : Env} {μ : Mem} (h : Nexts Q (s1 env μ)) (k : ∀ env μ, Q env μ → Nexts P (s2 env μ)) : Nexts P (sSeq s1 s2 env μ) := by
  obtain ⟨e1, μ1, e, q⟩ := h
  show Nexts P ((s1 env μ).then s2)
  rw [e]; exact k _ _ q
theorem Ends.run {P : D → Mem → Prop} {s : S} {n : Nat} {ds : List D} {μ : Mem} (h : Ends P (s (env0 n ds) μ)) : Gives P (runB s n ds μ) := h
theorem Gives.imp {α : Type} {P Q : α → Mem → Prop} {r : R α} (h : Gives P r) (i : ∀ a μ, P a μ → Q a μ) : Gives Q r := by
  obtain ⟨a, μ, e, p⟩ := h; exact ⟨a, μ, e, i _ _ p⟩
theorem nexts_nx {Q : Env → Mem → Prop} {env : Env} {μ : Mem} (h : Q env μ) : Nexts Q (.nx env μ) := ⟨_, _, rfl, h⟩
theorem ends_rt {Q : D → Mem → Prop} {d : D} {μ : Mem} (h : Q d μ) : Ends Q (.rt d μ) := ⟨_, _, rfl, h⟩
/-- a name is given -/
theorem Gives.asg {α : Type} {Q : D → Mem → Prop} {f : F} {i : Nat} {env : Env} {μ : Mem} (h : Gives Q (f env μ)) : Nexts (fun e m => ∃ d, e = env.set i (some d) ∧ Q d m) (sAsg f (gNm i) env μ) := by
  obtain ⟨d, μ1, e, q⟩ := h
  exact ⟨env.set i (some d), μ1, by rw [ap_asg, e]; rfl, d, rfl, q⟩
/-! comprehensions -/
theorem lc_go {t : G} {c : FB} {e : F} {g : List (Nat × List D)} {n0 : Nat} {env0 : Env} (I : Nat → List D → Mem → Prop) (hg : ∀ i acc μ, I i acc μ → gok g μ) :
    ∀ (items : List D) (k : Nat) (acc : List D) (μ : Mem), (∀ i x acc μ, items[i]? = some x → I (k + i) acc μ → μ[n0]? = some (.lst acc) → ∃ env1 μ1, t x env0 μ = some (env1, μ1) ∧ ((∃ μ2, c env1 μ1 = .ok false μ2 ∧ I (k + i + 1) acc μ2 ∧ μ2[n0]? = some (.lst acc)) ∨ (∃ μ2 y μ3, c env1 μ1 = .ok true μ2 ∧ e env1 μ2 = .ok y μ3 ∧ μ3[n0]? = some (.lst acc) ∧ acc.length < sizeLine ∧ I (k + i + 1) (acc ++ [y]) (μ3.set n0 (.lst (acc ++ [y]))))))
      → I k acc μ → μ[n0]? = some (.lst acc) → ∃ acc' μ', lcGo t c e g n0 env0 items μ = some μ' ∧ I (k + items.length) acc' μ' ∧ μ'[n0]? = some (.lst acc') := by
  intro items
  induction items with
  | nil => intro k acc μ _ hi ha; exact ⟨acc, μ, by unfold lcGo; rw [if_pos (hg _ _ _ hi)], hi, ha⟩
  | cons x xs ih =>
    intro k acc μ hs hi ha
    obtain ⟨env1, μ1, h1, h2⟩ := hs 0 x acc μ rfl hi ha
    have hs' : ∀ i x acc μ, xs[i]? = some x → I (k + 1 + i) acc μ → μ[n0]? = some (.lst acc) → ∃ env1 μ1, t x env0 μ = some (env1, μ1) ∧ ((∃ μ2, c env1 μ1 = .ok false μ2 ∧ I (k + 1 + i + 1) acc μ2 ∧ μ2[n0]? = some (.lst acc)) ∨ (∃ μ2 y μ3, c env1 μ1 = .ok true μ2 ∧ e env1 μ2 = .ok y μ3 ∧ μ3[n0]? = some (.lst acc) ∧ acc.length < sizeLine ∧ I (k + 1 + i + 1) (acc ++ [y]) (μ3.set n0 (.lst (acc ++ [y]))))) := by
      intro i x acc μ hx hI hm
      rw [show k + 1 + i = k + (i + 1) by omega] at hI ⊢
      exact hs (i + 1) x acc μ hx hI hm
    have hk : k + 0 + 1 = k + 1 := rfl
    unfold lcGo
    rw [if_pos (hg _ _ _ hi), h1, Option.bind_some]
    rw [List.length_cons, show k + (xs.length + 1) = k + 1 + xs.length by omega]
    rcases h2 with ⟨μ2, c1, i2, m2⟩ | ⟨μ2, y, μ3, c1, e1, m3, hl, i3⟩
    · rw [c1]
      simp only [get_ok, Option.bind_some, Bool.false_eq_true, if_false]
      exact ih (k + 1) acc μ2 hs' i2 m2
    · rw [c1]
      simp only [get_ok, Option.bind_some, if_true, e1, m3]
      rw [if_pos hl]
      refine ih (k + 1) _ _ hs' i3 ?_
      rw [List.getElem?_set_self (List.getElem?_eq_some_iff.mp m3).1]
/-- a list of what e gives at each -/
theorem lc_map {f : FI} {v : Nat} {e : F} {env : Env} {μ μ1 : Mem} {items : List D} {g : List (Nat × List D)} (hf : f env μ = .ok ⟨items, g⟩ μ1) (I : Nat → List D → Mem → Prop) (hg : ∀ i acc μ, I i acc μ → gok g μ)
    (h0 : I 0 [] (μ1 ++ [.lst []]))
    (hs : ∀ i x acc μ, items[i]? = some x → I i acc μ → μ[μ1.length]? = some (.lst acc) → ∃ y μ3, e (env.set v (some x)) μ = .ok y μ3 ∧ μ3[μ1.length]? = some (.lst acc) ∧ acc.length < sizeLine ∧ I (i + 1) (acc ++ [y]) (μ3.set μ1.length (.lst (acc ++ [y])))) :
    Gives (fun d μ' => ∃ acc, d = .cell μ1.length ∧ I items.length acc μ' ∧ μ'[μ1.length]? = some (.lst acc)) (fLc f (gNm v) bYes e [v] env μ) := by
  obtain ⟨acc, μ', h1, h2, h3⟩ := lc_go (t := gNm v) (c := bYes) (e := e) (g := g) (n0 := μ1.length) (env0 := wipeE env [v]) I hg items 0 [] (μ1 ++ [.lst []]) (fun i x acc μ hx hi hm => by
    obtain ⟨y, μ3, e1, e2, e3, e4⟩ := hs i x acc μ hx (by simpa using hi) hm
    refine ⟨_, _, rfl, .inr ⟨μ, y, μ3, rfl, ?_, e2, e3, by simpa using e4⟩⟩
    rw [← e1]
    congr 1
    simp [wipeE]) h0 (by simp)
  refine ⟨.cell μ1.length, μ', ?_, acc, rfl, by simpa using h2, h3⟩
  unfold fLc
  rw [hf]
  simp only [bind_ok, h1]
/-- nothing else changes -/
theorem lc_pure {f : FI} {v : Nat} {e : F} {env : Env} {μ μ1 : Mem} {items : List D} {g : List (Nat × List D)} (φ : D → D) (hf : f env μ = .ok ⟨items, g⟩ μ1) (hg : gok g μ1) (hl : items.length ≤ sizeLine)
    (hs : ∀ x ∈ items, ∀ acc, e (env.set v (some x)) (μ1 ++ [.lst acc]) = .ok (φ x) (μ1 ++ [.lst acc])) :
    fLc f (gNm v) bYes e [v] env μ = .ok (.cell μ1.length) (μ1 ++ [.lst (items.map φ)]) := by
  obtain ⟨d, μ', h1, acc, rfl, ⟨h2, h3⟩, _⟩ := lc_map (v := v) (e := e) hf (fun i acc m => m = μ1 ++ [.lst acc] ∧ acc = (items.take i).map φ) (fun i acc m q p hp => by
      rw [q.1]
      have := hg p hp
      rw [List.getElem?_append_left (List.getElem?_eq_some_iff.mp this).1]
      exact this) ⟨rfl, by simp⟩ (fun i x acc m hx q _ => by
      obtain ⟨q1, q2⟩ := q
      subst q1
      have hi := (List.getElem?_eq_some_iff.mp hx).1
      refine ⟨_, _, hs x (List.mem_of_getElem? hx) acc, by simp, ?_, ?_, ?_⟩
      · rw [q2, List.length_map, List.length_take]; omega
      · simp
      · rw [q2, List.take_add_one, hx]; simp)
  rw [h1, h2, h3, List.take_of_length_le (Nat.le_refl _)]
/-- those of which c tells yes -/
theorem lc_filter {f : FI} {v : Nat} {c : FB} {e : F} {env : Env} {μ μ1 : Mem} {items : List D} {g : List (Nat × List D)} (p : D → Bool) (φ : D → D) (hf : f env μ = .ok ⟨items, g⟩ μ1) (hg : gok g μ1) (hl : items.length ≤ sizeLine)
    (hc : ∀ x ∈ items, ∀ acc, c (env.set v (some x)) (μ1 ++ [.lst acc]) = .ok (p x) (μ1 ++ [.lst acc]))
    (hs : ∀ x ∈ items, p x = true → ∀ acc, e (env.set v (some x)) (μ1 ++ [.lst acc]) = .ok (φ x) (μ1 ++ [.lst acc])) :
    fLc f (gNm v) c e [v] env μ = .ok (.cell μ1.length) (μ1 ++ [.lst ((items.filter p).map φ)]) := by
  have hw : ∀ x : D, (wipeE env [v]).set v (some x) = env.set v (some x) := fun x => by simp [wipeE]
  obtain ⟨acc, μ', h1, ⟨h2, h3⟩, _⟩ := lc_go (t := gNm v) (c := c) (e := e) (g := g) (n0 := μ1.length) (env0 := wipeE env [v]) (fun i acc m => m = μ1 ++ [.lst acc] ∧ acc = ((items.take i).filter p).map φ) (fun i acc m q z hz => by
      rw [q.1]
      have := hg z hz
      rw [List.getElem?_append_left (List.getElem?_eq_some_iff.mp this).1]
      exact this) items 0 [] (μ1 ++ [.lst []]) (fun i x acc m hx q _ => by
      rw [Nat.zero_add] at q ⊢
      obtain ⟨q1, q2⟩ := q
      subst q1
      have hi := (List.getElem?_eq_some_iff.mp hx).1
      refine ⟨_, _, rfl, ?_⟩
      rw [hw]
      have ht : ((items.take (i + 1)).filter p).map φ = acc ++ if p x = true then [φ x] else [] := by
        rw [List.take_add_one, hx, q2]
        simp [List.filter_append]
        by_cases z : p x = true <;> simp [z]
      by_cases z : p x = true
      · refine .inr ⟨_, _, _, by rw [hc x (List.mem_of_getElem? hx), z], hs x (List.mem_of_getElem? hx) z acc, by simp, ?_, by simp, by rw [ht, if_pos z]⟩
        rw [q2, List.length_map]
        refine Nat.lt_of_le_of_lt (List.length_filter_le _ _) ?_
        rw [List.length_take]; omega
      · refine .inl ⟨_, by rw [hc x (List.mem_of_getElem? hx)]; simp [z], ⟨rfl, by rw [ht, if_neg z, List.append_nil]⟩, by simp⟩) ⟨rfl, by simp⟩ (by simp)
  unfold fLc
  rw [hf]
  simp only [bind_ok, h1]
  rw [h2, h3, Nat.zero_add, List.take_of_length_le (Nat.le_refl _)]
theorem for_go {t : G} {b : S} {g : List (Nat × List D)} (I : Nat → Env → Mem → Prop) (hg : ∀ i env μ, I i env μ → gok g μ) : ∀ (items : List D) (k : Nat) (env : Env) (μ : Mem), (∀ i x env μ, items[i]? = some x → I (k + i) env μ → ∃ e1 μ1, t x env μ = some (e1, μ1) ∧ Nexts (I (k + i + 1)) (b e1 μ1)) → I k env μ → Nexts (I (k + items.length)) (forGo t b g items env μ) := by
  intro items
  induction items with
  | nil => intro k env μ _ hi; unfold forGo; rw [if_pos (hg _ _ _ hi)]; exact ⟨env, μ, rfl, hi⟩
  | cons x xs ih =>
    intro k env μ hs hi
    obtain ⟨e1, μ1, h1, e2, μ2, h2, i2⟩ := hs 0 x env μ rfl hi
    unfold forGo
    rw [if_pos (hg _ _ _ hi), h1, onG_some, h2, List.length_cons, show k + (xs.length + 1) = k + 1 + xs.length by omega]
    exact ih (k + 1) e2 μ2 (fun i x env μ hx hI => by
      rw [show k + 1 + i = k + (i + 1) by omega] at hI ⊢
      exact hs (i + 1) x env μ hx hI) i2
/-! loops that tell no -/
theorem for_all {v : Nat} {b : S} {μ : Mem} {g : List (Nat × List D)} (hg : gok g μ) {p : D → Bool} (J : Env → Prop) : ∀ (items : List D) (env : Env), J env → (∀ x ∈ items, ∀ env, J env → ∃ env', J env' ∧ b (env.set v (some x)) μ = if p x = true then .nx env' μ else .rt (.bl false) μ) →
    ∃ env', J env' ∧ forGo (gNm v) b g items env μ = if items.all p = true then .nx env' μ else .rt (.bl false) μ := by
  intro items
  induction items with
  | nil => intro env j _; exact ⟨env, j, by simp [forGo, hg]⟩
  | cons x xs ih =>
    intro env j h
    obtain ⟨e1, j1, h1⟩ := h x (List.mem_cons_self ..) env j
    obtain ⟨e2, j2, h2⟩ := ih e1 j1 fun y hy => h y (List.mem_cons_of_mem _ hy)
    refine ⟨e2, j2, ?_⟩
    unfold forGo
    rw [if_pos hg, ap_gnm, onG_some, h1]
    by_cases c : p x = true
    · simp only [c, if_true, h2, List.all_cons, Bool.true_and]
    · have c' : p x = false := by simpa using c
      simp only [c', Bool.false_eq_true, if_false, List.all_cons, Bool.false_and]
theorem small_of {n : Nat} (h : n ≤ 16777216) : smallR (n : Int) := ⟨by omega, by omega⟩
theorem rg_of {n : Nat} (h : n ≤ 16777216) : rgOk 0 (n : Int) := RgOk.of_le (by omega) (by omega) (by omega) (by omega)
theorem rng1_ok {fs : FA} {env : Env} {μ μ1 : Mem} {n : Nat} (h : fs env μ = .ok [.int (n : Int)] μ1) (hn : n ≤ 16777216) : iRng1D fs env μ = .ok ⟨rngD 0 n, []⟩ μ1 := by
  unfold iRng1D
  rw [h, bind_ok]
  show (if smallR (n : Int) then _ else _) = _
  rw [if_pos (small_of hn)]
  rfl
theorem lstRg_ok {f : F} {env : Env} {μ μ1 : Mem} {n : Nat} (h : f env μ = .ok (.int (n : Int)) μ1) (hn : n ≤ 16777216) : fLstRg1 f env μ = .ok (.cell μ1.length) (μ1 ++ [.lst (rngD 0 n)]) := by
  unfold fLstRg1
  rw [h, bind_ok]
  show (if rgOk 0 (n : Int) then _ else _) = _
  rw [if_pos (rg_of hn)]
  rfl
theorem append_ok {μ : Mem} {n : Nat} {xs : List D} {d : D} (h : μ[n]? = some (.lst xs)) (hl : xs.length < sizeLine) : mAppend (.cell n) [d] μ = .ok .non (μ.set n (.lst (xs ++ [d]))) := by
  unfold mAppend
  simp only [onLst, h]
  rw [if_pos hl]
end Dv

set_option maxRecDepth 100000
set_option maxHeartbeats 4000000
namespace L2
open PySem PySem.Spec PyProof.Rows
/-! ### a tuple many times over -/
def RepFits (len : Nat) (many : Int) : Prop := 1 ≤ len ∧ 2 ≤ many ∧ len * many.toNat ≤ 1000000
noncomputable instance (len : Nat) (many : Int) : Decidable (RepFits len many) := Classical.propDecidable _
def rRepW (K : PySem.W.Frag) : R2 := fun v w H Q => ∃ (a : Addr) (many : Int) (zs : List V), v = .ref a ∧ w = .int many ∧ SqT K H a zs ∧ RepFits zs.length many ∧
  ∀ p, H p = none → Q (.ref p) (upd H p (.tup (List.replicate many.toNat zs).flatten))
theorem op_repW {X : Cx} : OpR X (binaryOp .Mult) (rRepW X.K) := by
  intro pins s σ H v w tv tw Q I ra rb hyp
  obtain ⟨a, many, zs, rfl, rfl, hS, ⟨f1, f2, f3⟩, go⟩ := hyp
  cases ra
  obtain ⟨tok, rfl⟩ := rb
  obtain ⟨vals, rv, ⟨⟨c0, d0, dat, slots⟩, hobj, hcls, nn, hdat⟩, hsize⟩ := I.tuple hS
  simp only at hcls hdat
  subst hcls hdat
  have same : vals.length = zs.length := rv.length.symm
  have some1 : vals.toArray.isEmpty = false := by
    cases vals with
    | nil => simp at same; omega
    | cons _ _ => rfl
  have prod : vals.length * many.toNat ≤ 1000000 := by rw [same]; exact f3
  have manyle : many.toNat ≤ 1000000 := Nat.le_trans (Nat.le_mul_of_pos_left _ (by omega)) prod
  have prodI : ((vals.toArray.size : Nat) : Int) * many ≤ 1000000 := by
    have e : many = ((many.toNat : Nat) : Int) := (Int.toNat_of_nonneg (by omega)).symm
    rw [List.size_toArray, e]
    have z : ((vals.length * many.toNat : Nat) : Int) ≤ ((1000000 : Nat) : Int) := Int.ofNat_le.mpr prod
    rw [Int.natCast_mul] at z
    exact z
  have flat : (List.replicate many.toNat vals).flatten.length ≤ sizeLine := by
    rw [PyProof.Rows.lm_len_rep_flat, sizeLine_eq, Nat.mul_comm]
    omega
  have q0 : (decide (many < -(2 ^ 63)) || decide (many ≥ 2 ^ 63)) = false := by
    rw [Bool.or_eq_false_iff]
    exact ⟨decide_eq_false (by omega), decide_eq_false (by omega)⟩
  have q1 : (vals.toArray.isEmpty || many == 1) = false := by
    rw [Bool.or_eq_false_iff]
    exact ⟨some1, beq_eq_false_iff_ne.mpr (by omega)⟩
  have q2 : (decide (many ≤ 0) || vals.toArray.isEmpty) = false := by
    rw [Bool.or_eq_false_iff]
    exact ⟨decide_eq_false (by omega), some1⟩
  have q4 : Builtin.Tuple.tupleTooMany (((vals.toArray.size : Nat) : Int) * many) = false := by
    unfold Builtin.Tuple.tupleTooMany
    rw [sizeLine_eq]
    exact decide_eq_false (by omega)
  have made := tuple_mulW a vals.toArray nn d0 slots many tok q0 q1 q2 (by omega) q4 (by rw [size_rep, List.size_toArray]; exact flat)
  refine wpAny_binaryOp_repeat_ref (T := "tuple") (U := "int") (by decide) ⟨_, hobj, rfl⟩ (fun s1 => typeIs_int s1 many tok) noFill_tuple_mul F.fills_int_mul F.slot_int_rmul repeat_tuple F.slot_int_index.lookup ?_
  refine call_meets F.slot_int_rmul (typeIs_int s many tok) F.entry_int_rmul (F.args_int_rmul_2 _ _) (int_rmul_tuple many tok a vals.toArray nn d0 slots) ⟨hobj, rfl, ⟨_, hobj, rfl⟩, ?_⟩
  refine call_meets F.slot_tuple_mul ⟨_, hobj, rfl⟩ F.entry_tuple_mul (F.args_tuple_mul_2 _ _) made ⟨hobj, ?_⟩
  rw [size_rep]
  refine ⟨.ref s.heap.objs.size, _, I.laid (t' := s.toks) (o := .tup (List.replicate many.toNat zs).flatten) (fun _ _ g => Heap.get?_push_of_some _ g) (Nat.le_refl _) ?_, rfl, go _ (I.hok.fresh (Nat.le_refl _))⟩
  exact ⟨by rw [PyProof.Rows.lm_len_rep_flat, sizeLine_eq, Nat.mul_comm]; omega, _, rv.rep many.toNat, IsTup.new _ _⟩
end L2
namespace Dv
open PySem PySem.Spec PyProof.Rows L2
theorem oRepW {X : Cx} {K : KW} (hK : X.K = K.K) : OpR X (binaryOp .Mult) (rRepW K.K) := by rw [← hK]; exact op_repW
noncomputable def dRepW : D → D → Mem → R D
  | .tup xs, .int k, μ => if RepFits xs.length k then .ok (.tup (List.replicate k.toNat xs).flatten) μ else .no
  | _, _, _ => .no
theorem r_repW {K : KW} : R2f K (rRepW K.K) dRepW := by
  intro x y a b μ ρ H Q E rp ra rb q
  cases ra with
  | @tup p vs ds h1 h2 =>
    cases rb with
    | int k =>
      have q : Pd K (if RepFits ds.length k then R.ok (.tup (List.replicate k.toNat ds).flatten) μ else .no) ρ H Q E := q
      by_cases c : RepFits ds.length k
      · rw [if_pos c] at q
        refine ⟨p, k, vs, rfl, rfl, h1, by rw [h2.len]; exact c, fun l hl => ?_⟩
        have ee := ext_upd (K := K) ρ (o := .tup (List.replicate k.toNat vs).flatten) (Wr.none hl)
        exact q ρ _ _ ee (rp.side hl) (.tup (SqT.of upd_same) ((h2.rep k.toNat).ext ee))
      · rw [if_neg c] at q
        exact q.elim
    | _ => exact q.elim
  | _ => exact q.elim
theorem repW_at {xs : List D} {k : Int} {μ : Mem} (h : RepFits xs.length k) : dRepW (.tup xs) (.int k) μ = .ok (.tup (List.replicate k.toNat xs).flatten) μ := by
  show (if RepFits xs.length k then _ else _) = _
  rw [if_pos h]
end Dv

set_option maxRecDepth 100000
set_option maxHeartbeats 4000000
namespace Law
open PySem PySem.Spec PyProof.Rows L2 Dv
/-- where the written classes stand -/
structure Adr where
  WalkError : Addr
  BadProgram : Addr
  Program : Addr
  none_ : Addr
noncomputable def b__law_dice : S := (sRet (fLst (aCons (fLc (iLstD (fSl slG (fVar 0) oNo (oAt (fCon (.int 63))))) (gNm 1) bYes (fB dAbs (aCons (fB dInt1 (aCons (fVar 1) aNil)) aNil)) [1]) (aCons (fCon (.int 0)) (aCons (fCon (.int 0)) (aCons (fCon (.int 1)) (aCons (fCon (.int 0)) aNil)))))))
noncomputable def g__law_dice : List D → Mem → R D := runB (b__law_dice) 2
noncomputable def b__law_draw : S := (sSeq (sIf (bAnd (bTest (fOp dEq (fOp ixD (fVar 0) (fCon (.int 2))) (fCon (.int 0)))) (bTest (fOp dLt (fOp ixD (fVar 0) (fCon (.int 1))) (fB dLenG (aCons (fOp ixD (fVar 0) (fCon (.int 0))) aNil))))) (sSeq (sAsg (fOp ixD (fOp ixD (fVar 0) (fCon (.int 0))) (fOp ixD (fVar 0) (fCon (.int 1)))) (gNm 2))
        (sSeq (sAsg (fOp dAddG (fOp ixD (fVar 0) (fCon (.int 1))) (fCon (.int 1))) (gSubD (fVar 0) (fCon (.int 1)) setL))
        (sIf (bTest (fOp dGe (fVar 2) (fOp dPow (fCon (.int 10)) (fCon (.int 18))))) (sAsg (fVar 2) (gSubD (fVar 0) (fCon (.int 2)) setL)) (sAsg (fOp dMod (fB dInt1 (aCons (fOp dAddG (fOp dAddG (fOp dMulG (fOp ixD (fVar 0) (fCon (.int 3))) (fCon (.int 69621))) (fOp dMulG (fVar 2) (fCon (.int 40692)))) (fOp ixD (fVar 0) (fCon (.int 1)))) aNil)) (fCon (.int 2147483647))) (gSubD (fVar 0) (fCon (.int 3)) setL))))) sNext)
    (sSeq (sIf (bTest (fOp dGt (fOp ixD (fVar 0) (fCon (.int 2))) (fCon (.int 0)))) (sSeq (sAsg (fOp dMod (fB dInt1 (aCons (fOp ixD (fVar 0) (fCon (.int 2))) aNil)) (fVar 1)) (gNm 3))
        (sSeq (sAsg (fOp dFdiv (fB dInt1 (aCons (fOp ixD (fVar 0) (fCon (.int 2))) aNil)) (fVar 1)) (gSubD (fVar 0) (fCon (.int 2)) setL))
        (sRet (fVar 3)))) sNext)
    (sSeq (sAsg (fOp dAddG (fOp ixD (fVar 0) (fCon (.int 4))) (fCon (.int 1))) (gSubD (fVar 0) (fCon (.int 4)) setL))
    (sSeq (sAsg (fOp dMod (fB dInt1 (aCons (fOp dAddG (fOp dAddG (fOp dMulG (fOp ixD (fVar 0) (fCon (.int 3))) (fCon (.int 48271))) (fOp dMulG (fOp ixD (fVar 0) (fCon (.int 4))) (fCon (.int 7919)))) (fCon (.int 1))) aNil)) (fCon (.int 2147483647))) (gSubD (fVar 0) (fCon (.int 3)) setL))
    (sSeq (sAsg (fOp dMod (fB dInt1 (aCons (fOp dMulG (fOp ixD (fVar 0) (fCon (.int 3))) (fOp dAddG (fOp dFdiv (fOp ixD (fVar 0) (fCon (.int 3))) (fCon (.int 1009))) (fCon (.int 69623)))) aNil)) (fCon (.int 2147483399))) (gNm 4))
    (sSeq (sAsg (fOp dMod (fB dInt1 (aCons (fOp dMulG (fVar 4) (fOp dAddG (fOp dFdiv (fVar 4) (fCon (.int 2003))) (fCon (.int 40693)))) aNil)) (fCon (.int 2147483563))) (gNm 4))
    (sRet (fOp dMod (fB dInt1 (aCons (fOp dFdiv (fVar 4) (fCon (.int 16))) aNil)) (fVar 1)))))))))
noncomputable def g__law_draw : List D → Mem → R D := runB (b__law_draw) 5
noncomputable def b__law_shuffled : S := (sSeq (sAsg (fB dLstOf (aCons (fVar 1) aNil)) (gNm 2))
    (sRet (fB dTupOf (aCons (fLc (iRng1D (aCons (fB dLenG (aCons (fVar 2) aNil)) aNil)) (gNm 3) bYes (fMe "list" mPopAt (fVar 2) (aCons (fCall0 (fun ds μ => if ds.length = 2 then g__law_draw ds μ else .no) (aCons (fVar 0) (aCons (fB dLenG (aCons (fVar 2) aNil)) aNil))) aNil)) [3]) aNil))))
noncomputable def g__law_shuffled : List D → Mem → R D := runB (b__law_shuffled) 4
noncomputable def b__law_dealing : S := (sSeq (sAsg (fLst aNil) (gNm 2))
    (sSeq (sFor (iRng1D (aCons (fVar 1) aNil)) (gNm 3) (sDrop (fMe "list" mAppend (fVar 2) (aCons (fCall (fun ds μ => if ds.length = 2 then g__law_draw ds μ else .no) (aCons (fVar 0) (aCons (fOp dAddG (fCon (.int 1)) (fB dLenG (aCons (fLc (iRng1D (aCons (fVar 1) aNil)) (gNm 5) (bTest (fOp (dInG false) (fVar 5) (fVar 2))) (fVar 5) [5]) aNil))) aNil))) aNil))))
    (sSeq (sAsg (fCall (fun ds μ => if ds.length = 2 then g__law_shuffled ds μ else .no) (aCons (fVar 0) (aCons (fLstRg1 (fOp dAddG (fCon (.int 1)) (fB dMaxG (aCons (fVar 2) aNil)))) aNil))) (gNm 4))
    (sRet (fB dTupOf (aCons (fLc (iLstD (fVar 2)) (gNm 5) bYes (fOp ixD (fVar 4) (fVar 5)) [5]) aNil))))))
noncomputable def g__law_dealing : List D → Mem → R D := runB (b__law_dealing) 6
noncomputable def b__law_item : S := (sSeq (sAsg (fB dTupOf (aCons (fLc (iRng1D (aCons (fOp dAddG (fVar 2) (fCon (.int 1))) aNil)) (gNm 7) bYes (fCall0 (fun ds μ => if ds.length = 2 then g__law_draw ds μ else .no) (aCons (fVar 0) (aCons (fVar 4) aNil))) [7]) aNil)) (gNm 6))
    (sSeq (sIf (bTest (fOp dLt (fVar 5) (fCon (.int 4)))) (sRet (fTup (aCons (fCon (.str "begin")) (aCons (fCall (fun ds μ => if ds.length = 2 then g__law_draw ds μ else .no) (aCons (fVar 0) (aCons (fVar 1) aNil))) (aCons (fVar 6) aNil))))) sNext)
    (sSeq (sIf (bTest (fOp dLt (fVar 5) (fCon (.int 8)))) (sRet (fTup (aCons (fCon (.str "on")) (aCons (fCall (fun ds μ => if ds.length = 2 then g__law_draw ds μ else .no) (aCons (fVar 0) (aCons (fVar 3) aNil))) (aCons (fVar 6) aNil))))) sNext)
    (sSeq (sIf (bTest (fOp dLt (fVar 5) (fCon (.int 10)))) (sRet (fTup (aCons (fCon (.str "leave")) (aCons (fCall (fun ds μ => if ds.length = 2 then g__law_draw ds μ else .no) (aCons (fVar 0) (aCons (fVar 3) aNil))) (aCons (fOp ixD (fVar 6) (fCon (.int 0))) aNil))))) sNext)
    (sSeq (sIf (bTest (fOp dEq (fVar 5) (fCon (.int 10)))) (sRet (fTup (aCons (fCon (.str "say")) (aCons (fOp ixD (fLst (aCons (fCon (.str "x")) (aCons (fCon (.str "yes")) (aCons (fCon (.str "words")) aNil)))) (fCall (fun ds μ => if ds.length = 2 then g__law_draw ds μ else .no) (aCons (fVar 0) (aCons (fCon (.int 3)) aNil)))) (aCons (fOp ixD (fVar 6) (fCon (.int 0))) aNil))))) sNext)
    (sRet (fTup (aCons (fCon (.str "stop")) aNil))))))))
noncomputable def g__law_item : List D → Mem → R D := runB (b__law_item) 8
noncomputable def b__law_program : S := (sSeq (sAsg (fOp dAddG (fCon (.int 1)) (fCall (fun ds μ => if ds.length = 2 then g__law_draw ds μ else .no) (aCons (fVar 0) (aCons (fCon (.int 3)) aNil)))) (gNm 2))
    (sSeq (sAsg (fOp dAddG (fCon (.int 1)) (fCall (fun ds μ => if ds.length = 2 then g__law_draw ds μ else .no) (aCons (fVar 0) (aCons (fCon (.int 3)) aNil)))) (gNm 3))
    (sSeq (sAsg (fCall (fun ds μ => if ds.length = 2 then g__law_dealing ds μ else .no) (aCons (fVar 0) (aCons (fVar 2) aNil))) (gNm 4))
    (sSeq (sAsg (fOp dAddG (fCon (.int 1)) (fCall (fun ds μ => if ds.length = 2 then g__law_draw ds μ else .no) (aCons (fVar 0) (aCons (fCon (.int 3)) aNil)))) (gNm 5))
    (sSeq (sIf (bAnd (bTest (fOp dEq (fB dMaxG (aCons (fVar 4) aNil)) (fCon (.int 0)))) (bTest (fOp dEq (fCall (fun ds μ => if ds.length = 2 then g__law_draw ds μ else .no) (aCons (fVar 0) (aCons (fCon (.int 3)) aNil))) (fCon (.int 0))))) (sAsg (fCon .non) (gNm 5)) sNext)
    (sSeq (sAsg (fOp dAddG (fCon (.int 1)) (fCall (fun ds μ => if ds.length = 2 then g__law_draw ds μ else .no) (aCons (fVar 0) (aCons (fVar 1) aNil)))) (gNm 6))
    (sSeq (sAsg (fLc (iRng1D (aCons (fVar 6) aNil)) (gNm 9) bYes (fCall0 (fun ds μ => if ds.length = 2 then g__law_draw ds μ else .no) (aCons (fVar 0) (aCons (fCon (.int 12)) aNil))) [9]) (gNm 7))
    (sSeq (sIf (bTest (fOp dGt (fCall (fun ds μ => if ds.length = 2 then g__law_draw ds μ else .no) (aCons (fVar 0) (aCons (fCon (.int 4)) aNil))) (fCon (.int 0)))) (sAsg (fCon (.int 0)) (gSubD (fVar 7) (fCon (.int 0)) setL)) sNext)
    (sSeq (sAsg (fLc (iLstD (fVar 7)) (gNm 10) bYes (fCall0 (fun ds μ => if ds.length = 6 then g__law_item ds μ else .no) (aCons (fVar 0) (aCons (fVar 2) (aCons (fVar 3) (aCons (fOp dAddG (fB dMaxG (aCons (fVar 4) aNil)) (fCon (.int 1))) (aCons (fVar 6) (aCons (fVar 10) aNil))))))) [10]) (gNm 8))
    (sRet (fTup (aCons (fVar 2) (aCons (fVar 3) (aCons (fVar 4) (aCons (fVar 5) (aCons (fB dTupOf (aCons (fVar 8) aNil)) aNil))))))))))))))))
noncomputable def g__law_program : List D → Mem → R D := runB (b__law_program) 11
noncomputable def b__law_is_number : S := (sRet (fAnd (fB dIsi (aCons (fVar 0) (aCons (fCon (.ty "int")) aNil))) (fAnd (fNot (fB dIsi (aCons (fVar 0) (aCons (fCon (.ty "bool")) aNil)))) (fChain dLe dLe (fVar 1) (fVar 0) (fVar 2)))))
noncomputable def g__law_is_number : List D → Mem → R D := runB (b__law_is_number) 3
noncomputable def b__law_is_dealing : S := (sSeq (sIf (bOr (bNot (bTru (fB dIsi (aCons (fVar 0) (aCons (fCon (.ty "tuple")) aNil))))) (bTest (fOp dNe (fB dLenG (aCons (fVar 0) aNil)) (fVar 1)))) (sRet (fCon (.bl false))) sNext)
    (sSeq (sIf (bNot (bTru (fB dAll (aCons (fLc (iTupD (fVar 0)) (gNm 2) bYes (fCall0 (fun ds μ => if ds.length = 3 then g__law_is_number ds μ else .no) (aCons (fVar 2) (aCons (fCon (.int 0)) (aCons (fOp dSub (fVar 1) (fCon (.int 1))) aNil)))) [2]) aNil)))) (sRet (fCon (.bl false))) sNext)
    (sRet (fOp dEq (fB dSortG (aCons (fB dSetT (aCons (fVar 0) aNil)) aNil)) (fLstRg1 (fOp dAddG (fCon (.int 1)) (fB dMaxG (aCons (fVar 0) aNil))))))))
noncomputable def g__law_is_dealing : List D → Mem → R D := runB (b__law_is_dealing) 3
noncomputable def b__law_is_word : S := (sSeq (sIf (bOr (bNot (bTru (fB dIsi (aCons (fVar 0) (aCons (fCon (.ty "str")) aNil))))) (bNot (bTest (fChain dLe dLe (fCon (.int 1)) (fB dLenG (aCons (fVar 0) aNil)) (fCon (.int 8)))))) (sRet (fCon (.bl false))) sNext)
    (sRet (fB dAll (aCons (fLc (iStrD (fVar 0)) (gNm 1) bYes (fOp (dInG false) (fVar 1) (fCon (.str "abcdefghijklmnopqrstuvwxyz"))) [1]) aNil))))
noncomputable def g__law_is_word : List D → Mem → R D := runB (b__law_is_word) 2
noncomputable def b__law_are_nexts : S := (sSeq (sIf (bOr (bNot (bTru (fB dIsi (aCons (fVar 0) (aCons (fCon (.ty "tuple")) aNil))))) (bTest (fOp dNe (fB dLenG (aCons (fVar 0) aNil)) (fOp dAddG (fVar 1) (fCon (.int 1)))))) (sRet (fCon (.bl false))) sNext)
    (sRet (fB dAll (aCons (fLc (iTupD (fVar 0)) (gNm 3) bYes (fCall0 (fun ds μ => if ds.length = 3 then g__law_is_number ds μ else .no) (aCons (fVar 3) (aCons (fCon (.int 0)) (aCons (fOp dSub (fVar 2) (fCon (.int 1))) aNil)))) [3]) aNil))))
noncomputable def g__law_are_nexts : List D → Mem → R D := runB (b__law_are_nexts) 4
noncomputable def b__law_is_item : S := (sSeq (sIf (bOr (bNot (bTru (fB dIsi (aCons (fVar 0) (aCons (fCon (.ty "tuple")) aNil))))) (bTest (fOp dEq (fB dLenG (aCons (fVar 0) aNil)) (fCon (.int 0))))) (sRet (fCon (.bl false))) sNext)
    (sSeq (sIf (bTest (fOp dEqHd (fVar 0) (fTup (aCons (fCon (.str "stop")) aNil)))) (sRet (fCon (.bl true))) sNext)
    (sSeq (sIf (bOr (bTest (fOp dNe (fB dLenG (aCons (fVar 0) aNil)) (fCon (.int 3)))) (bNot (bTru (fB dIsi (aCons (fOp ixD (fVar 0) (fCon (.int 0))) (aCons (fCon (.ty "str")) aNil)))))) (sRet (fCon (.bl false))) sNext)
    (sSeq (sIf (bTest (fOp dEq (fOp ixD (fVar 0) (fCon (.int 0))) (fCon (.str "begin")))) (sRet (fAnd (fCall (fun ds μ => if ds.length = 3 then g__law_is_number ds μ else .no) (aCons (fOp ixD (fVar 0) (fCon (.int 1))) (aCons (fCon (.int 0)) (aCons (fOp dSub (fB dLenG (aCons (fVar 1) aNil)) (fCon (.int 1))) aNil)))) (fCall (fun ds μ => if ds.length = 3 then g__law_are_nexts ds μ else .no) (aCons (fOp ixD (fVar 0) (fCon (.int 2))) (aCons (fVar 2) (aCons (fVar 3) aNil)))))) sNext)
    (sSeq (sIf (bTest (fOp dEq (fOp ixD (fVar 0) (fCon (.int 0))) (fCon (.str "on")))) (sRet (fAnd (fCall (fun ds μ => if ds.length = 3 then g__law_is_number ds μ else .no) (aCons (fOp ixD (fVar 0) (fCon (.int 1))) (aCons (fCon (.int 0)) (aCons (fB dMaxG (aCons (fVar 1) aNil)) aNil)))) (fCall (fun ds μ => if ds.length = 3 then g__law_are_nexts ds μ else .no) (aCons (fOp ixD (fVar 0) (fCon (.int 2))) (aCons (fVar 2) (aCons (fVar 3) aNil)))))) sNext)
    (sSeq (sIf (bTest (fOp dEq (fOp ixD (fVar 0) (fCon (.int 0))) (fCon (.str "leave")))) (sRet (fAnd (fCall (fun ds μ => if ds.length = 3 then g__law_is_number ds μ else .no) (aCons (fOp ixD (fVar 0) (fCon (.int 1))) (aCons (fCon (.int 0)) (aCons (fB dMaxG (aCons (fVar 1) aNil)) aNil)))) (fCall (fun ds μ => if ds.length = 3 then g__law_is_number ds μ else .no) (aCons (fOp ixD (fVar 0) (fCon (.int 2))) (aCons (fCon (.int 0)) (aCons (fOp dSub (fVar 3) (fCon (.int 1))) aNil)))))) sNext)
    (sRet (fAnd (fOp dEq (fOp ixD (fVar 0) (fCon (.int 0))) (fCon (.str "say"))) (fAnd (fCall (fun ds μ => if ds.length = 1 then g__law_is_word ds μ else .no) (aCons (fOp ixD (fVar 0) (fCon (.int 1))) aNil)) (fCall (fun ds μ => if ds.length = 3 then g__law_is_number ds μ else .no) (aCons (fOp ixD (fVar 0) (fCon (.int 2))) (aCons (fCon (.int 0)) (aCons (fOp dSub (fVar 3) (fCon (.int 1))) aNil)))))))))))))
noncomputable def g__law_is_item : List D → Mem → R D := runB (b__law_is_item) 4
noncomputable def b__law_wrong : S := (sSeq (sAsg (fVar 0) (gTupD 5 (gsCons (gNm 1) (gsCons (gNm 2) (gsCons (gNm 3) (gsCons (gNm 4) (gsCons (gNm 5) gsNil)))))))
    (sSeq (sIf (bNot (bTru (fCall (fun ds μ => if ds.length = 3 then g__law_is_number ds μ else .no) (aCons (fVar 1) (aCons (fCon (.int 1)) (aCons (fCon (.int 6)) aNil)))))) (sRet (fCon (.str "rows"))) sNext)
    (sSeq (sIf (bNot (bTru (fCall (fun ds μ => if ds.length = 3 then g__law_is_number ds μ else .no) (aCons (fVar 2) (aCons (fCon (.int 1)) (aCons (fCon (.int 3)) aNil)))))) (sRet (fCon (.str "letters"))) sNext)
    (sSeq (sIf (bNot (bTru (fCall (fun ds μ => if ds.length = 2 then g__law_is_dealing ds μ else .no) (aCons (fVar 3) (aCons (fVar 1) aNil))))) (sRet (fCon (.str "dealing"))) sNext)
    (sSeq (sIf (bAnd (bNot (bTru (fCall (fun ds μ => if ds.length = 3 then g__law_is_number ds μ else .no) (aCons (fVar 4) (aCons (fCon (.int 1)) (aCons (fCon (.int 60)) aNil)))))) (bOr (bTest (fOp dNotN (fVar 4) (fCon .non))) (bTest (fOp dGt (fB dMaxG (aCons (fVar 3) aNil)) (fCon (.int 0)))))) (sRet (fCon (.str "depth"))) sNext)
    (sSeq (sIf (bOr (bNot (bTru (fB dIsi (aCons (fVar 5) (aCons (fCon (.ty "tuple")) aNil))))) (bNot (bTest (fChain dLe dLe (fCon (.int 1)) (fB dLenG (aCons (fVar 5) aNil)) (fCon (.int 20000)))))) (sRet (fCon (.str "table"))) sNext)
    (sSeq (sIf (bNot (bTru (fB dAll (aCons (fLc (iTupD (fVar 5)) (gNm 6) bYes (fCall0 (fun ds μ => if ds.length = 4 then g__law_is_item ds μ else .no) (aCons (fVar 6) (aCons (fVar 3) (aCons (fVar 2) (aCons (fB dLenG (aCons (fVar 5) aNil)) aNil))))) [6]) aNil)))) (sRet (fCon (.str "table"))) sNext)
    (sRet (fCon .non)))))))))
noncomputable def g__law_wrong : List D → Mem → R D := runB (b__law_wrong) 7
noncomputable def b__law_odd : S := (sSeq (sAsg (fCall (fun ds μ => if ds.length = 2 then g__law_draw ds μ else .no) (aCons (fVar 0) (aCons (fCon (.int 13)) aNil))) (gNm 2))
    (sSeq (sIf (bTest (fOp dLt (fVar 2) (fCon (.int 3)))) (sRet (fOp dSub (fOp dAddG (fVar 1) (fVar 2)) (fCon (.int 1)))) sNext)
    (sRet (fOp ixD (fLst (aCons (fCon .non) (aCons (fCon (.bl true)) (aCons (fCon (.bl false)) (aCons (fCon (.str "1")) (aCons (fTup (aCons (fVar 1) aNil)) (aCons (fLst (aCons (fVar 1) aNil)) (aCons (fUn dNeg (fCon (.int 1))) (aCons (fOp dPow (fCon (.int 10)) (fCon (.int 39))) (aCons fDct (aCons (fCon (.int 0)) aNil))))))))))) (fOp dSub (fVar 2) (fCon (.int 3)))))))
noncomputable def g__law_odd : List D → Mem → R D := runB (b__law_odd) 3
noncomputable def b__law_item_changed : S := (sSeq (sAsg (fCall (fun ds μ => if ds.length = 2 then g__law_draw ds μ else .no) (aCons (fVar 0) (aCons (fCon (.int 6)) aNil))) (gNm 2))
    (sSeq (sIf (bOr (bTest (fOp dEq (fVar 2) (fCon (.int 0)))) (bTest (fOp dEq (fB dLenG (aCons (fVar 1) aNil)) (fCon (.int 1))))) (sSeq (sAsg (fLst (aCons (fCon (.str "look")) (aCons (fCon (.str "stop")) (aCons (fCon (.str "Begin")) (aCons (fCon (.str "on")) (aCons (fCon (.str "leave")) (aCons (fCon (.str "say")) (aCons (fCon (.str "begin")) (aCons (fCon (.str "")) (aCons (fCon .non) (aCons (fCon (.int 3)) aNil))))))))))) (gNm 3))
        (sRet (fOp dAddG (fTup (aCons (fOp ixD (fVar 3) (fCall (fun ds μ => if ds.length = 2 then g__law_draw ds μ else .no) (aCons (fVar 0) (aCons (fCon (.int 10)) aNil)))) aNil)) (fSl slG (fVar 1) (oAt (fCon (.int 1))) oNo)))) sNext)
    (sSeq (sIf (bTest (fOp dEq (fVar 2) (fCon (.int 1)))) (sSeq (sAsg (fLst (aCons (fCall (fun ds μ => if ds.length = 2 then g__law_odd ds μ else .no) (aCons (fVar 0) (aCons (fCon (.int 2)) aNil))) (aCons (fCon (.str "abcdefgh")) (aCons (fCon (.str "abcdefghi")) (aCons (fCon (.str "")) (aCons (fCon (.str "a b")) (aCons (fCon (.str "aB")) aNil))))))) (gNm 4))
        (sRet (fTup (aCons (fOp ixD (fVar 1) (fCon (.int 0))) (aCons (fOp ixD (fVar 4) (fCall (fun ds μ => if ds.length = 2 then g__law_draw ds μ else .no) (aCons (fVar 0) (aCons (fCon (.int 6)) aNil)))) (aCons (fOp ixD (fVar 1) (fCon (.int 2))) aNil)))))) sNext)
    (sSeq (sIf (bAnd (bTest (fOp dEq (fVar 2) (fCon (.int 2)))) (bTru (fB dIsi (aCons (fOp ixD (fVar 1) (fCon (.int 2))) (aCons (fCon (.ty "tuple")) aNil))))) (sSeq (sAsg (fCall (fun ds μ => if ds.length = 2 then g__law_draw ds μ else .no) (aCons (fVar 0) (aCons (fB dLenG (aCons (fOp ixD (fVar 1) (fCon (.int 2))) aNil)) aNil))) (gNm 5))
        (sRet (fTup (aCons (fOp ixD (fVar 1) (fCon (.int 0))) (aCons (fOp ixD (fVar 1) (fCon (.int 1))) (aCons (fOp dAddG (fOp dAddG (fSl slG (fOp ixD (fVar 1) (fCon (.int 2))) oNo (oAt (fVar 5))) (fTup (aCons (fCall (fun ds μ => if ds.length = 2 then g__law_odd ds μ else .no) (aCons (fVar 0) (aCons (fOp dAddG (fOp ixD (fOp ixD (fVar 1) (fCon (.int 2))) (fVar 5)) (fCall (fun ds μ => if ds.length = 2 then g__law_draw ds μ else .no) (aCons (fVar 0) (aCons (fCon (.int 9)) aNil)))) aNil))) aNil))) (fSl slG (fOp ixD (fVar 1) (fCon (.int 2))) (oAt (fOp dAddG (fVar 5) (fCon (.int 1)))) oNo)) aNil)))))) sNext)
    (sSeq (sIf (bTest (fOp dEq (fVar 2) (fCon (.int 3)))) (sSeq (sAsg (fLst (aCons (fCall (fun ds μ => if ds.length = 2 then g__law_odd ds μ else .no) (aCons (fVar 0) (aCons (fCon (.int 8)) aNil))) (aCons (fTup (aCons (fCon (.int 0)) (aCons (fCon (.int 0)) aNil))) (aCons (fTup (aCons (fCon (.int 0)) (aCons (fCon (.int 0)) (aCons (fCon (.int 0)) aNil)))) (aCons (fTup (aCons (fCon (.int 0)) aNil)) (aCons (fLst (aCons (fCon (.int 0)) (aCons (fCon (.int 0)) aNil))) (aCons (fTup (aCons (fCon (.int 0)) (aCons (fCon (.int 0)) (aCons (fCon (.int 0)) (aCons (fCon (.int 0)) aNil))))) aNil))))))) (gNm 6))
        (sRet (fTup (aCons (fOp ixD (fVar 1) (fCon (.int 0))) (aCons (fOp ixD (fVar 1) (fCon (.int 1))) (aCons (fOp ixD (fVar 6) (fCall (fun ds μ => if ds.length = 2 then g__law_draw ds μ else .no) (aCons (fVar 0) (aCons (fCon (.int 6)) aNil)))) aNil)))))) sNext)
    (sSeq (sIf (bTest (fOp dEq (fVar 2) (fCon (.int 4)))) (sRet (fOp ixD (fLst (aCons (fOp dAddG (fVar 1) (fTup (aCons (fCon (.int 0)) aNil))) (aCons (fSl slG (fVar 1) oNo (oAt (fCon (.int 2)))) (aCons (fB dLstOf (aCons (fVar 1) aNil)) (aCons (fTup aNil) (aCons (fCon .non) (aCons (fOp ixD (fVar 1) (fCon (.int 0))) (aCons (fTup (aCons (fVar 1) aNil)) aNil)))))))) (fCall (fun ds μ => if ds.length = 2 then g__law_draw ds μ else .no) (aCons (fVar 0) (aCons (fCon (.int 7)) aNil))))) sNext)
    (sRet (fTup (aCons (fOp ixD (fVar 1) (fCon (.int 0))) (aCons (fCall (fun ds μ => if ds.length = 2 then g__law_odd ds μ else .no) (aCons (fVar 0) (aCons (fIf (bTru (fB dIsi (aCons (fOp ixD (fVar 1) (fCon (.int 1))) (aCons (fCon (.ty "int")) aNil)))) (fOp ixD (fVar 1) (fCon (.int 1))) (fCon (.int 1))) aNil))) (aCons (fOp ixD (fVar 1) (fCon (.int 2))) aNil)))))))))))
noncomputable def g__law_item_changed : List D → Mem → R D := runB (b__law_item_changed) 7
noncomputable def b__law_changed : S := (sSeq (sAsg (fVar 1) (gTupD 5 (gsCons (gNm 2) (gsCons (gNm 3) (gsCons (gNm 4) (gsCons (gNm 5) (gsCons (gNm 6) gsNil)))))))
    (sSeq (sAsg (fCall (fun ds μ => if ds.length = 2 then g__law_draw ds μ else .no) (aCons (fVar 0) (aCons (fCon (.int 9)) aNil))) (gNm 7))
    (sSeq (sAsg (fCall (fun ds μ => if ds.length = 2 then g__law_draw ds μ else .no) (aCons (fVar 0) (aCons (fVar 2) aNil))) (gNm 8))
    (sSeq (sIf (bTest (fOp dEq (fVar 7) (fCon (.int 0)))) (sRet (fTup (aCons (fOp ixD (fLst (aCons (fCall (fun ds μ => if ds.length = 2 then g__law_odd ds μ else .no) (aCons (fVar 0) (aCons (fVar 2) aNil))) (aCons (fCon (.int 6)) (aCons (fCon (.int 7)) (aCons (fCon (.int 0)) aNil))))) (fCall (fun ds μ => if ds.length = 2 then g__law_draw ds μ else .no) (aCons (fVar 0) (aCons (fCon (.int 4)) aNil)))) (aCons (fVar 3) (aCons (fVar 4) (aCons (fVar 5) (aCons (fVar 6) aNil))))))) sNext)
    (sSeq (sIf (bTest (fOp dEq (fVar 7) (fCon (.int 1)))) (sRet (fTup (aCons (fVar 2) (aCons (fOp ixD (fLst (aCons (fCall (fun ds μ => if ds.length = 2 then g__law_odd ds μ else .no) (aCons (fVar 0) (aCons (fVar 3) aNil))) (aCons (fCon (.int 3)) (aCons (fCon (.int 4)) (aCons (fCon (.int 0)) aNil))))) (fCall (fun ds μ => if ds.length = 2 then g__law_draw ds μ else .no) (aCons (fVar 0) (aCons (fCon (.int 4)) aNil)))) (aCons (fVar 4) (aCons (fVar 5) (aCons (fVar 6) aNil))))))) sNext)
    (sSeq (sIf (bTest (fOp dEq (fVar 7) (fCon (.int 2)))) (sSeq (sAsg (fOp dAddG (fOp dAddG (fSl slG (fVar 4) oNo (oAt (fVar 8))) (fTup (aCons (fCall (fun ds μ => if ds.length = 2 then g__law_odd ds μ else .no) (aCons (fVar 0) (aCons (fOp ixD (fVar 4) (fVar 8)) aNil))) aNil))) (fSl slG (fVar 4) (oAt (fOp dAddG (fVar 8) (fCon (.int 1)))) oNo)) (gNm 9))
        (sRet (fTup (aCons (fVar 2) (aCons (fVar 3) (aCons (fOp ixD (fLst (aCons (fVar 9) (aCons (fB dLstOf (aCons (fVar 4) aNil)) (aCons (fOp dAddG (fVar 4) (fTup (aCons (fCon (.int 0)) aNil))) (aCons (fSl slG (fVar 4) (oAt (fCon (.int 1))) oNo) aNil))))) (fCall (fun ds μ => if ds.length = 2 then g__law_draw ds μ else .no) (aCons (fVar 0) (aCons (fCon (.int 4)) aNil)))) (aCons (fVar 5) (aCons (fVar 6) aNil)))))))) sNext)
    (sSeq (sIf (bTest (fOp dEq (fVar 7) (fCon (.int 3)))) (sRet (fTup (aCons (fVar 2) (aCons (fVar 3) (aCons (fVar 4) (aCons (fOp ixD (fLst (aCons (fCall (fun ds μ => if ds.length = 2 then g__law_odd ds μ else .no) (aCons (fVar 0) (aCons (fCon (.int 1)) aNil))) (aCons (fCon (.int 60)) (aCons (fCon (.int 61)) (aCons (fCon .non) aNil))))) (fCall (fun ds μ => if ds.length = 2 then g__law_draw ds μ else .no) (aCons (fVar 0) (aCons (fCon (.int 4)) aNil)))) (aCons (fVar 6) aNil))))))) sNext)
    (sSeq (sIf (bTest (fOp dEq (fVar 7) (fCon (.int 4)))) (sSeq (sAsg (fIf (bTest (fOp dEq (fCall (fun ds μ => if ds.length = 2 then g__law_draw ds μ else .no) (aCons (fVar 0) (aCons (fCon (.int 16)) aNil))) (fCon (.int 0)))) (fOp dRepW (fTup (aCons (fTup (aCons (fCon (.str "stop")) aNil)) aNil)) (fOp ixD (fLst (aCons (fCon (.int 19998)) (aCons (fCon (.int 19999)) (aCons (fCon (.int 20000)) aNil)))) (fCall (fun ds μ => if ds.length = 2 then g__law_draw ds μ else .no) (aCons (fVar 0) (aCons (fCon (.int 3)) aNil))))) (fTup aNil)) (gNm 10))
        (sRet (fTup (aCons (fVar 2) (aCons (fVar 3) (aCons (fVar 4) (aCons (fVar 5) (aCons (fOp ixD (fLst (aCons (fB dLstOf (aCons (fVar 6) aNil)) (aCons (fVar 10) (aCons (fCon .non) (aCons (fCon (.str "stop")) (aCons (fOp ixD (fVar 6) (fCon (.int 0))) aNil)))))) (fCall (fun ds μ => if ds.length = 2 then g__law_draw ds μ else .no) (aCons (fVar 0) (aCons (fCon (.int 5)) aNil)))) aNil)))))))) sNext)
    (sSeq (sAsg (fCall (fun ds μ => if ds.length = 2 then g__law_draw ds μ else .no) (aCons (fVar 0) (aCons (fB dLenG (aCons (fVar 6) aNil)) aNil))) (gNm 8))
    (sRet (fTup (aCons (fVar 2) (aCons (fVar 3) (aCons (fVar 4) (aCons (fVar 5) (aCons (fOp dAddG (fOp dAddG (fSl slG (fVar 6) oNo (oAt (fVar 8))) (fTup (aCons (fCall (fun ds μ => if ds.length = 2 then g__law_item_changed ds μ else .no) (aCons (fVar 0) (aCons (fOp ixD (fVar 6) (fVar 8)) aNil))) aNil))) (fSl slG (fVar 6) (oAt (fOp dAddG (fVar 8) (fCon (.int 1)))) oNo)) aNil))))))))))))))))
noncomputable def g__law_changed : List D → Mem → R D := runB (b__law_changed) 11
noncomputable def b_is_integer : S := (sRet (fAnd (fB dIsi (aCons (fVar 0) (aCons (fCon (.ty "int")) aNil))) (fNot (fB dIsi (aCons (fVar 0) (aCons (fCon (.ty "bool")) aNil))))))
noncomputable def g_is_integer : List D → Mem → R D := runB (b_is_integer) 1
noncomputable def b_is_between : S := (sRet (fAnd (fCall (fun ds μ => if ds.length = 1 then g_is_integer ds μ else .no) (aCons (fVar 2) aNil)) (fChain dLe dLe (fVar 0) (fVar 2) (fVar 1))))
noncomputable def g_is_between : List D → Mem → R D := runB (b_is_between) 3
noncomputable def b_is_tuple_of : S := (sRet (fAnd (fB dIsi (aCons (fVar 1) (aCons (fCon (.ty "tuple")) aNil))) (fOp dEq (fB dLenG (aCons (fVar 1) aNil)) (fVar 0))))
noncomputable def g_is_tuple_of : List D → Mem → R D := runB (b_is_tuple_of) 2
noncomputable def b_is_dealing : S := (sSeq (sIf (bNot (bTru (fCall (fun ds μ => if ds.length = 2 then g_is_tuple_of ds μ else .no) (aCons (fVar 0) (aCons (fVar 1) aNil))))) (sRet (fCon (.bl false))) sNext)
    (sSeq (sFor (iTupD (fVar 1)) (gNm 2) (sIf (bNot (bTru (fCall (fun ds μ => if ds.length = 3 then g_is_between ds μ else .no) (aCons (fCon (.int 0)) (aCons (fOp dSub (fVar 0) (fCon (.int 1))) (aCons (fVar 2) aNil)))))) (sRet (fCon (.bl false))) sNext))
    (sRet (fOp dEq (fB dLenG (aCons (fB dSetT (aCons (fVar 1) aNil)) aNil)) (fOp dAddG (fB dMaxG (aCons (fVar 1) aNil)) (fCon (.int 1)))))))
noncomputable def g_is_dealing : List D → Mem → R D := runB (b_is_dealing) 3
noncomputable def b_is_depth : S := (sSeq (sIf (bTest (fOp dIsN (fVar 1) (fCon .non))) (sRet (fOp dEq (fVar 0) (fCon (.int 1)))) sNext)
    (sRet (fCall (fun ds μ => if ds.length = 3 then g_is_between ds μ else .no) (aCons (fCon (.int 1)) (aCons (fCon (.int 60)) (aCons (fVar 1) aNil))))))
noncomputable def g_is_depth : List D → Mem → R D := runB (b_is_depth) 2
noncomputable def b_is_table : S := (sRet (fAnd (fB dIsi (aCons (fVar 1) (aCons (fCon (.ty "tuple")) aNil))) (fChain dLe dLe (fCon (.int 1)) (fB dLenG (aCons (fVar 1) aNil)) (fVar 0))))
noncomputable def g_is_table : List D → Mem → R D := runB (b_is_table) 2
noncomputable def b_is_item : S := (sRet (fAnd (fCall (fun ds μ => if ds.length = 2 then g_is_tuple_of ds μ else .no) (aCons (fVar 1) (aCons (fVar 2) aNil))) (fAnd (fB dIsi (aCons (fOp ixD (fVar 2) (fCon (.int 0))) (aCons (fCon (.ty "str")) aNil))) (fOp dEq (fOp ixD (fVar 2) (fCon (.int 0))) (fVar 0)))))
noncomputable def g_is_item : List D → Mem → R D := runB (b_is_item) 3
noncomputable def b_is_nexts : S := (sSeq (sIf (bNot (bTru (fCall (fun ds μ => if ds.length = 2 then g_is_tuple_of ds μ else .no) (aCons (fOp dAddG (fVar 0) (fCon (.int 1))) (aCons (fVar 2) aNil))))) (sRet (fCon (.bl false))) sNext)
    (sSeq (sFor (iTupD (fVar 2)) (gNm 3) (sIf (bNot (bTru (fCall (fun ds μ => if ds.length = 3 then g_is_between ds μ else .no) (aCons (fCon (.int 0)) (aCons (fOp dSub (fVar 1) (fCon (.int 1))) (aCons (fVar 3) aNil)))))) (sRet (fCon (.bl false))) sNext))
    (sRet (fCon (.bl true)))))
noncomputable def g_is_nexts : List D → Mem → R D := runB (b_is_nexts) 4
noncomputable def b_is_numbered : S := (sRet (fAnd (fCall (fun ds μ => if ds.length = 3 then g_is_item ds μ else .no) (aCons (fVar 0) (aCons (fCon (.int 3)) (aCons (fVar 4) aNil)))) (fAnd (fCall (fun ds μ => if ds.length = 3 then g_is_between ds μ else .no) (aCons (fCon (.int 0)) (aCons (fOp dSub (fVar 1) (fCon (.int 1))) (aCons (fOp ixD (fVar 4) (fCon (.int 1))) aNil)))) (fCall (fun ds μ => if ds.length = 3 then g_is_nexts ds μ else .no) (aCons (fVar 2) (aCons (fVar 3) (aCons (fOp ixD (fVar 4) (fCon (.int 2))) aNil)))))))
noncomputable def g_is_numbered : List D → Mem → R D := runB (b_is_numbered) 5
noncomputable def b_is_leave : S := (sRet (fAnd (fCall (fun ds μ => if ds.length = 3 then g_is_item ds μ else .no) (aCons (fCon (.str "leave")) (aCons (fCon (.int 3)) (aCons (fVar 2) aNil)))) (fAnd (fCall (fun ds μ => if ds.length = 3 then g_is_between ds μ else .no) (aCons (fCon (.int 0)) (aCons (fOp dSub (fVar 0) (fCon (.int 1))) (aCons (fOp ixD (fVar 2) (fCon (.int 1))) aNil)))) (fCall (fun ds μ => if ds.length = 3 then g_is_between ds μ else .no) (aCons (fCon (.int 0)) (aCons (fOp dSub (fVar 1) (fCon (.int 1))) (aCons (fOp ixD (fVar 2) (fCon (.int 2))) aNil)))))))
noncomputable def g_is_leave : List D → Mem → R D := runB (b_is_leave) 3
noncomputable def b_is_word : S := (sRet (fAnd (fB dIsi (aCons (fVar 0) (aCons (fCon (.ty "str")) aNil))) (fAnd (fChain dLe dLe (fCon (.int 1)) (fB dLenG (aCons (fVar 0) aNil)) (fCon (.int 8))) (fOp dEq (fMe "str" mStrip (fVar 0) (aCons (fCon (.str "abcdefghijklmnopqrstuvwxyz")) aNil)) (fCon (.str ""))))))
noncomputable def g_is_word : List D → Mem → R D := runB (b_is_word) 1
noncomputable def b_is_say : S := (sRet (fAnd (fCall (fun ds μ => if ds.length = 3 then g_is_item ds μ else .no) (aCons (fCon (.str "say")) (aCons (fCon (.int 3)) (aCons (fVar 1) aNil)))) (fAnd (fCall (fun ds μ => if ds.length = 1 then g_is_word ds μ else .no) (aCons (fOp ixD (fVar 1) (fCon (.int 1))) aNil)) (fCall (fun ds μ => if ds.length = 3 then g_is_between ds μ else .no) (aCons (fCon (.int 0)) (aCons (fOp dSub (fVar 0) (fCon (.int 1))) (aCons (fOp ixD (fVar 1) (fCon (.int 2))) aNil)))))))
noncomputable def g_is_say : List D → Mem → R D := runB (b_is_say) 2
noncomputable def b_is_stop : S := (sRet (fCall (fun ds μ => if ds.length = 3 then g_is_item ds μ else .no) (aCons (fCon (.str "stop")) (aCons (fCon (.int 1)) (aCons (fVar 0) aNil)))))
noncomputable def g_is_stop : List D → Mem → R D := runB (b_is_stop) 1
noncomputable def b_is_program_table : S := (sSeq (sIf (bNot (bTru (fCall (fun ds μ => if ds.length = 2 then g_is_table ds μ else .no) (aCons (fCon (.int 20000)) (aCons (fVar 3) aNil))))) (sRet (fCon (.bl false))) sNext)
    (sSeq (sAsg (fB dLenG (aCons (fVar 3) aNil)) (gNm 4))
    (sSeq (sFor (iTupD (fVar 3)) (gNm 5) (sSeq (sAsg (fOr (fCall (fun ds μ => if ds.length = 5 then g_is_numbered ds μ else .no) (aCons (fCon (.str "begin")) (aCons (fVar 0) (aCons (fVar 1) (aCons (fVar 4) (aCons (fVar 5) aNil)))))) (fCall (fun ds μ => if ds.length = 5 then g_is_numbered ds μ else .no) (aCons (fCon (.str "on")) (aCons (fVar 2) (aCons (fVar 1) (aCons (fVar 4) (aCons (fVar 5) aNil))))))) (gNm 6))
        (sIf (bNot (bOr (bTru (fVar 6)) (bOr (bTru (fCall (fun ds μ => if ds.length = 3 then g_is_leave ds μ else .no) (aCons (fVar 2) (aCons (fVar 4) (aCons (fVar 5) aNil))))) (bOr (bTru (fCall (fun ds μ => if ds.length = 2 then g_is_say ds μ else .no) (aCons (fVar 4) (aCons (fVar 5) aNil)))) (bTru (fCall (fun ds μ => if ds.length = 1 then g_is_stop ds μ else .no) (aCons (fVar 5) aNil))))))) (sRet (fCon (.bl false))) sNext)))
    (sRet (fCon (.bl true))))))
noncomputable def g_is_program_table : List D → Mem → R D := runB (b_is_program_table) 7
noncomputable def b_Program_M___init__ (K : PySem.W.Frag) (a : Adr) : S := (sSeq (sIf (bNot (bTru (fCall (fun ds μ => if ds.length = 3 then g_is_between ds μ else .no) (aCons (fCon (.int 1)) (aCons (fCon (.int 6)) (aCons (fVar 1) aNil)))))) (sRaise1 a.BadProgram "part" (fCon (.str "rows"))) sNext)
    (sSeq (sIf (bNot (bTru (fCall (fun ds μ => if ds.length = 3 then g_is_between ds μ else .no) (aCons (fCon (.int 1)) (aCons (fCon (.int 3)) (aCons (fVar 2) aNil)))))) (sRaise1 a.BadProgram "part" (fCon (.str "letters"))) sNext)
    (sSeq (sIf (bNot (bTru (fCall (fun ds μ => if ds.length = 2 then g_is_dealing ds μ else .no) (aCons (fVar 1) (aCons (fVar 3) aNil))))) (sRaise1 a.BadProgram "part" (fCon (.str "dealing"))) sNext)
    (sSeq (sAsg (fOp dAddG (fB dMaxG (aCons (fVar 3) aNil)) (fCon (.int 1))) (gNm 6))
    (sSeq (sIf (bNot (bTru (fCall (fun ds μ => if ds.length = 2 then g_is_depth ds μ else .no) (aCons (fVar 6) (aCons (fVar 4) aNil))))) (sRaise1 a.BadProgram "part" (fCon (.str "depth"))) sNext)
    (sSeq (sIf (bNot (bTru (fCall (fun ds μ => if ds.length = 4 then g_is_program_table ds μ else .no) (aCons (fVar 1) (aCons (fVar 2) (aCons (fVar 6) (aCons (fVar 5) aNil))))))) (sRaise1 a.BadProgram "part" (fCon (.str "table"))) sNext)
    (sSeq (sFldD a.Program "rows" (fVar 0) (fVar 1))
    (sSeq (sFldD a.Program "letters" (fVar 0) (fVar 2))
    (sSeq (sFldD a.Program "dealing" (fVar 0) (fVar 3))
    (sSeq (sFldD a.Program "depth" (fVar 0) (fVar 4))
    (sFldD a.Program "table" (fVar 0) (fVar 5))))))))))))
noncomputable def g_Program_M___init__ (K : PySem.W.Frag) (a : Adr) : List D → Mem → R D := runB (b_Program_M___init__ K a) 7
noncomputable def b__law_refused (K : PySem.W.Frag) (a : Adr) : S := (sSeq (sAsg (fTup (aCons (fCon (.str "let")) (aCons (fCon .non) aNil))) (gNm 1))
    (sSeq (sTryAs K (.ref a.WalkError) 2 (sDrop (fMake a.Program (g_Program_M___init__ K a) 6 (aCons (fOp ixD (fVar 0) (fCon (.int 0))) (aCons (fOp ixD (fVar 0) (fCon (.int 1))) (aCons (fOp ixD (fVar 0) (fCon (.int 2))) (aCons (fOp ixD (fVar 0) (fCon (.int 3))) (aCons (fOp ixD (fVar 0) (fCon (.int 4))) aNil))))))) (fun x => (sSeq (sAsg (fTup (aCons (fCon (.str "other")) (aCons (fCon .non) aNil))) (gNm 1))
        (sIf (bAnd (bTru (fIsX K x (.ref a.BadProgram))) (bTru (fIsX K x (.type "ValueError")))) (sAsg (fTup (aCons (fCon (.str "refused")) (aCons (fXf x a.BadProgram "part") aNil))) (gNm 1)) sNext))))
    (sRet (fVar 1))))
noncomputable def g__law_refused (K : PySem.W.Frag) (a : Adr) : List D → Mem → R D := runB (b__law_refused K a) 3
noncomputable def b_law (K : PySem.W.Frag) (a : Adr) : S := (sSeq (sAsg (fCall (fun ds μ => if ds.length = 1 then g__law_dice ds μ else .no) (aCons (fVar 0) aNil)) (gNm 1))
    (sSeq (sAsg (fCall (fun ds μ => if ds.length = 2 then g__law_draw ds μ else .no) (aCons (fVar 1) (aCons (fCon (.int 6)) aNil))) (gNm 2))
    (sSeq (sAsg (fCall (fun ds μ => if ds.length = 2 then g__law_program ds μ else .no) (aCons (fVar 1) (aCons (fCon (.int 8)) aNil))) (gNm 3))
    (sSeq (sAsg (fVar 3) (gNm 4))
    (sSeq (sIf (bTest (fOp dGt (fVar 2) (fCon (.int 0)))) (sAsg (fCall (fun ds μ => if ds.length = 2 then g__law_changed ds μ else .no) (aCons (fVar 1) (aCons (fVar 3) aNil))) (gNm 4)) sNext)
    (sSeq (sAsg (fCall (fun ds μ => if ds.length = 1 then g__law_wrong ds μ else .no) (aCons (fVar 4) aNil)) (gNm 5))
    (sSeq (sAsg (fTup (aCons (fCon (.str "refused")) (aCons (fVar 5) aNil))) (gNm 6))
    (sSeq (sIf (bTest (fOp dIsN (fVar 5) (fCon .non))) (sAsg (fTup (aCons (fCon (.str "let")) (aCons (fCon .non) aNil))) (gNm 6)) sNext)
    (sRet (fAnd (fOp dEq (fCall (fun ds μ => if ds.length = 1 then (g__law_refused K a) ds μ else .no) (aCons (fVar 4) aNil)) (fVar 6)) (fOp dEq (fCall (fun ds μ => if ds.length = 1 then (g__law_refused K a) ds μ else .no) (aCons (fVar 3) aNil)) (fTup (aCons (fCon (.str "let")) (aCons (fCon .non) aNil))))))))))))))
noncomputable def g_law (K : PySem.W.Frag) (a : Adr) : List D → Mem → R D := runB (b_law K a) 7
/-- what is known of the exceptions -/
structure PureT (K : PySem.W.Frag) (a : Adr) : Prop where
  exm_BadProgram_WalkError : PySem.W.exmOne K (.ref a.BadProgram) (.ref a.WalkError) = some true
  kit_BadProgram_BadProgram : PySem.W.kitOne K (.ref a.BadProgram) (.ref a.BadProgram) = some true
  kit_BadProgram_ValueError : PySem.W.kitOne K (.ref a.BadProgram) (.type "ValueError") = some true
  exc_BadProgram : L2.ExcC K a.BadProgram
end Law

set_option maxRecDepth 100000
set_option maxHeartbeats 4000000
namespace Law
open PySem PySem.Spec PyProof.Rows L2 Dv
structure Dice (μ : Mem) (n m : Nat) : Prop where
  ex : ∃ (i g s t : Int) (cs : List Int), μ[n]? = some (.lst [.cell m, .int i, .int g, .int s, .int t]) ∧ μ[m]? = some (.lst (cs.map .int)) ∧ n ≠ m ∧ 0 ≤ i
/-- all but cell n stays -/
def Sbn (n : Nat) (μ μ' : Mem) : Prop := ∀ j c, j ≠ n → μ[j]? = some c → μ'[j]? = some c
theorem Sbn.refl {n : Nat} {μ : Mem} : Sbn n μ μ := fun _ _ _ h => h
theorem Sbn.trans {n : Nat} {μ μ1 μ2 : Mem} (a : Sbn n μ μ1) (b : Sbn n μ1 μ2) : Sbn n μ μ2 := fun j c hj h => b j c hj (a j c hj h)
theorem Sbn.set {n : Nat} {μ : Mem} {c : C} : Sbn n μ (μ.set n c) := fun j c' hj h => by rw [List.getElem?_set_ne (Ne.symm hj)]; exact h
theorem ix_of {μ : Mem} {n : Nat} {xs : List D} {i : Int} {d : D} (h : μ[n]? = some (.lst xs)) (e : atI xs i = some d) : ixD (.cell n) (.int i) μ = .ok d μ := by rw [ix_cell h, e]
theorem set_of {μ : Mem} {n j : Nat} {xs : List D} {i : Int} {d : D} (h : μ[n]? = some (.lst xs)) (e : ixN xs.length i = some j) : setL (.cell n) (.int i) d μ = .ok () (μ.set n (.lst (xs.set j d))) := by rw [setL_at, h]; simp only [e]
theorem get_set {μ : Mem} {n : Nat} {c c' : C} (h : μ[n]? = some c) : (μ.set n c')[n]? = some c' := List.getElem?_set_self (List.getElem?_eq_some_iff.mp h).1
theorem get_set' {μ : Mem} {n m : Nat} {c c' : C} (h : μ[m]? = some c) (ne : n ≠ m) : (μ.set n c')[m]? = some c := by rw [List.getElem?_set_ne ne]; exact h
/-- the five cells of the dice -/
def dl (m : Nat) (i g s t : Int) : List D := [.cell m, .int i, .int g, .int s, .int t]
section
variable {μ : Mem} {n m : Nat} {i g s t : Int}
theorem d0 (e : μ[n]? = some (.lst (dl m i g s t))) : ixD (.cell n) (.int 0) μ = .ok (.cell m) μ := ix_of e (by simp [dl])
theorem d1 (e : μ[n]? = some (.lst (dl m i g s t))) : ixD (.cell n) (.int 1) μ = .ok (.int i) μ := ix_of e (by simp [dl])
theorem d2 (e : μ[n]? = some (.lst (dl m i g s t))) : ixD (.cell n) (.int 2) μ = .ok (.int g) μ := ix_of e (by simp [dl])
theorem d3 (e : μ[n]? = some (.lst (dl m i g s t))) : ixD (.cell n) (.int 3) μ = .ok (.int s) μ := ix_of e (by simp [dl])
theorem d4 (e : μ[n]? = some (.lst (dl m i g s t))) : ixD (.cell n) (.int 4) μ = .ok (.int t) μ := ix_of e (by simp [dl])
theorem s1 {z : Int} (e : μ[n]? = some (.lst (dl m i g s t))) : setL (.cell n) (.int 1) (.int z) μ = .ok () (μ.set n (.lst (dl m z g s t))) := set_of (j := 1) e rfl
theorem s2 {z : Int} (e : μ[n]? = some (.lst (dl m i g s t))) : setL (.cell n) (.int 2) (.int z) μ = .ok () (μ.set n (.lst (dl m i z s t))) := set_of (j := 2) e rfl
theorem s3 {z : Int} (e : μ[n]? = some (.lst (dl m i g s t))) : setL (.cell n) (.int 3) (.int z) μ = .ok () (μ.set n (.lst (dl m i g z t))) := set_of (j := 3) e rfl
theorem s4 {z : Int} (e : μ[n]? = some (.lst (dl m i g s t))) : setL (.cell n) (.int 4) (.int z) μ = .ok () (μ.set n (.lst (dl m i g s z))) := set_of (j := 4) e rfl
end
theorem Dice.mk' {μ : Mem} {n m : Nat} {i g s t : Int} {cs : List Int} (h1 : μ[n]? = some (.lst (dl m i g s t))) (h2 : μ[m]? = some (.lst (cs.map .int))) (ne : n ≠ m) (i0 : 0 ≤ i) : Dice μ n m := ⟨i, g, s, t, cs, h1, h2, ne, i0⟩
theorem Dice.put {μ : Mem} {n m L : Nat} {c : C} (P : Dice μ n m) (h1 : L ≠ n) (h2 : L ≠ m) : Dice (μ.set L c) n m := by
  obtain ⟨i, g, s, t, cs, e1, e2, ne, i0⟩ := P.ex
  exact ⟨i, g, s, t, cs, get_set' e1 h1, get_set' e2 h2, ne, i0⟩
theorem app_at {μ l : Mem} {n : Nat} {c : C} (h : μ[n]? = some c) : (μ ++ l)[n]? = some c := by rw [List.getElem?_append_left (List.getElem?_eq_some_iff.mp h).1]; exact h
theorem Dice.app {μ l : Mem} {n m : Nat} (P : Dice μ n m) : Dice (μ ++ l) n m := by
  obtain ⟨i, g, s, t, cs, e1, e2, ne, i0⟩ := P.ex
  exact ⟨i, g, s, t, cs, app_at e1, app_at e2, ne, i0⟩
theorem Sbn.app {n : Nat} {μ μ' l : Mem} (h : Sbn n μ μ') : Sbn n μ (μ' ++ l) := fun j c hj hc => app_at (h j c hj hc)
theorem Sbn.put {n L : Nat} {μ μ' : Mem} {c : C} (h : Sbn n μ μ') (hL : μ.length ≤ L) : Sbn n μ (μ'.set L c) := fun j c' hj hc => by
  have := (List.getElem?_eq_some_iff.mp hc).1
  exact get_set' (h j c' hj hc) (by omega)
theorem Dice.lt {μ : Mem} {n m : Nat} (P : Dice μ n m) : n < μ.length ∧ m < μ.length := by
  obtain ⟨i, g, s, t, cs, e1, e2, ne, i0⟩ := P.ex
  exact ⟨(List.getElem?_eq_some_iff.mp e1).1, (List.getElem?_eq_some_iff.mp e2).1⟩
theorem Sbn.len {n : Nat} {μ μ' : Mem} (h : Sbn n μ μ') (h0 : n < μ'.length) : μ.length ≤ μ'.length := by
  by_cases e : μ.length ≤ μ'.length
  · exact e
  · have h2 : μ'.length < μ.length := by omega
    have := h μ'.length μ[μ'.length] (by omega) (List.getElem?_eq_getElem h2)
    rw [List.getElem?_eq_none (Nat.le_refl _)] at this
    cases this
theorem at_intD {ns : List Int} {i : Int} (h0 : 0 ≤ i) (h1 : i < (ns.length : Int)) : ∃ z, atI (ns.map D.int) i = some (.int z) := by
  rw [atI_in h0 (by simpa using h1), List.getElem?_map]
  have : i.toNat < ns.length := by omega
  exact ⟨ns[i.toNat], by rw [List.getElem?_eq_getElem this]; rfl⟩
theorem mulL {i j : Int} {μ : Mem} (h : (-(2 ^ 64) < i ∧ i < 2 ^ 64) ∨ (-(2 ^ 64) < j ∧ j < 2 ^ 64)) : dMulG (.int i) (.int j) μ = .ok (.int (i * j)) μ := by
  show dMul (.int i) (.int j) μ = _
  exact dI_int h
theorem modL {i j : Int} {μ : Mem} (h : j ≠ 0) : dMod (.int i) (.int j) μ = .ok (.int (i.fmod j)) μ := dI_int h
theorem fdivL {i j : Int} {μ : Mem} (h : CDivN i j) : dFdiv (.int i) (.int j) μ = .ok (.int (i.fdiv j)) μ := dI_int h
theorem pow1018 {μ : Mem} : dPow (.int 10) (.int 18) μ = .ok (.int (10 ^ 18)) μ := dI_int (C := CPow) (g := fun i j => .int (i ^ j.toNat)) (i := 10) (j := 18) ⟨by decide, by decide, by decide⟩
theorem draw {μ : Mem} {n m : Nat} {k : Int} (P : Dice μ n m) (h0 : 0 < k) (h1 : k < 1073741824) : Gives (fun d μ' => ∃ r, d = .int r ∧ 0 ≤ r ∧ r < k ∧ Dice μ' n m ∧ Sbn n μ μ') (g__law_draw [.cell n, .int k] μ) := by
  refine Ends.run ?_
  refine Nexts.seq (Q := fun e μ' => Dice μ' n m ∧ Sbn n μ μ' ∧ ∃ a b c, e = [some (.cell n), some (.int k), a, b, c]) ?_ ?_
  · obtain ⟨i, g, s, t, cs, e1, e2, ne, i0⟩ := P.ex
    have e1 : μ[n]? = some (.lst (dl m i g s t)) := e1
    have l0 := len_cell e2
    simp only [ap_ifS, ap_bAnd, ap_test, ap_op, ap_var, ap_con, bind_ok, d2 e1, d1 e1, d0 e1, env0, dEq_ii, ap_B, ap_aCons, ap_aNil, l0, dLt_ii, List.map_cons, List.map_nil, List.length_cons, List.length_nil, List.replicate, List.cons_append, List.nil_append, List.getElem?_cons_zero, List.getElem?_cons_succ, Nat.zero_add, Nat.reduceAdd, Nat.reduceSub, List.length_map]
    by_cases c1 : g = 0
    rotate_left
    · simp only [c1, decide_false, Bool.false_eq_true, if_false, toS_ok]
      exact nexts_nx ⟨P, Sbn.refl, _, _, _, rfl⟩
    simp only [c1, decide_true, if_true]
    by_cases c2 : i < (cs.length : Int)
    rotate_left
    · simp only [c2, decide_false, Bool.false_eq_true, if_false, toS_ok]
      exact nexts_nx ⟨P, Sbn.refl, _, _, _, rfl⟩
    simp only [c2, decide_true, if_true, toS_ok]
    obtain ⟨z, hz⟩ := at_intD i0 c2
    have a0 : ixD (.cell m) (.int i) μ = .ok (.int z) μ := ix_of e2 hz
    have e3 := get_set (c' := .lst (dl m (i + 1) g s t)) e1
    have e4 := get_set' (c' := .lst (dl m (i + 1) g s t)) e2 ne
    subst c1
    simp only [ap_seq, ap_asg, ap_op, ap_var, ap_con, bind_ok, d1 e1, d0 e1, a0, toS_ok, ap_gnm, onG_some, then_nx, List.set_cons_succ, List.set_cons_zero, List.getElem?_cons_zero, List.getElem?_cons_succ, dAddG_ii, ap_gsub, get_ok, Option.bind_some, s1 e1, ap_ifS, ap_test, pow1018, dGe_ii]
    by_cases c3 : (10 : Int) ^ 18 ≤ z
    · simp only [c3, decide_true, if_true, s2 e3, Option.bind_some, onG_some, get_ok]
      exact nexts_nx ⟨Dice.mk' (get_set e3) (get_set' e4 ne) ne (by omega), Sbn.set.trans Sbn.set, _, _, _, rfl⟩
    · simp only [c3, decide_false, Bool.false_eq_true, if_false, ap_B, ap_aCons, ap_aNil, ap_op, ap_var, ap_con, bind_ok, d3 e3, d1 e3, mulL (i := s) (j := 69621) (.inr ⟨by decide, by decide⟩), mulL (i := z) (j := 40692) (.inr ⟨by decide, by decide⟩), List.getElem?_cons_zero, List.getElem?_cons_succ, dAddG_ii, int1_i, modL (j := 2147483647) (by decide), toS_ok, s3 e3, get_ok, Option.bind_some, onG_some]
      exact nexts_nx ⟨Dice.mk' (get_set e3) (get_set' e4 ne) ne (by omega), Sbn.set.trans Sbn.set, _, _, _, rfl⟩
  · rintro _ μ1 ⟨P, sb, a, b, c, rfl⟩
    obtain ⟨i, g, s, t, cs, e1, e2, ne, i0⟩ := P.ex
    have e1 : μ1[n]? = some (.lst (dl m i g s t)) := e1
    simp only [ap_seq, ap_ifS, ap_test, ap_op, ap_var, ap_con, bind_ok, d2 e1, List.getElem?_cons_zero, List.getElem?_cons_succ, dGt_ii, toS_ok]
    by_cases c1 : 0 < g
    · simp only [c1, decide_true, if_true, ap_seq, ap_asg, ap_B, ap_aCons, ap_aNil, ap_op, ap_var, ap_con, bind_ok, d2 e1, List.getElem?_cons_zero, List.getElem?_cons_succ, int1_i, modL (j := k) (by omega), fdivL (i := g) (j := k) ⟨by omega, by omega⟩, toS_ok, ap_gnm, onG_some, then_nx, List.set_cons_succ, List.set_cons_zero, ap_gsub, get_ok, Option.bind_some, s2 e1, ap_ret, then_rt]
      exact ends_rt ⟨_, rfl, (fmod_lt h0).1, (fmod_lt h0).2, Dice.mk' (get_set e1) (get_set' e2 ne) ne i0, sb.trans Sbn.set⟩
    · simp only [c1, decide_false, Bool.false_eq_true, if_false, ap_next, then_nx, ap_seq, ap_asg, ap_op, ap_var, ap_con, bind_ok, d4 e1, List.getElem?_cons_zero, List.getElem?_cons_succ, dAddG_ii, toS_ok, ap_gsub, get_ok, Option.bind_some, s4 e1, onG_some]
      have e3 := get_set (c' := .lst (dl m i g s (t + 1))) e1
      have e4 := get_set' (c' := .lst (dl m i g s (t + 1))) e2 ne
      simp only [ap_seq, ap_asg, ap_gsub, ap_B, ap_aCons, ap_aNil, ap_op, ap_var, ap_con, bind_ok, d3 e3, d4 e3, mulL (i := s) (j := 48271) (.inr ⟨by decide, by decide⟩), mulL (i := t + 1) (j := 7919) (.inr ⟨by decide, by decide⟩), List.getElem?_cons_zero, List.getElem?_cons_succ, dAddG_ii, int1_i, modL (j := 2147483647) (by decide), toS_ok, s3 e3, get_ok, Option.bind_some, onG_some, then_nx]
      generalize hs : (s * 48271 + (t + 1) * 7919 + 1).fmod 2147483647 = s'
      have q1 := fmod_lt (x := s * 48271 + (t + 1) * 7919 + 1) (m := 2147483647) (by decide)
      rw [hs] at q1
      have e5 := get_set (c' := .lst (dl m i g s' (t + 1))) e3
      have e6 := get_set' (c' := .lst (dl m i g s' (t + 1))) e4 ne
      simp only [ap_seq, ap_asg, ap_gsub, ap_B, ap_aCons, ap_aNil, ap_op, ap_var, ap_con, bind_ok, d3 e5, fdivL (i := s') (j := 1009) ⟨by decide, by decide⟩, List.getElem?_cons_zero, List.getElem?_cons_succ, dAddG_ii, mulL (i := s') (j := s'.fdiv 1009 + 69623) (.inl ⟨by omega, by omega⟩), int1_i, modL (j := 2147483399) (by decide), toS_ok, ap_gnm, onG_some, then_nx, List.set_cons_succ, List.set_cons_zero]
      generalize hx : (s' * (s'.fdiv 1009 + 69623)).fmod 2147483399 = x
      have q2 := fmod_lt (x := s' * (s'.fdiv 1009 + 69623)) (m := 2147483399) (by decide)
      rw [hx] at q2
      simp only [ap_seq, ap_asg, ap_B, ap_aCons, ap_aNil, ap_op, ap_var, ap_con, bind_ok, fdivL (i := x) (j := 2003) ⟨by decide, by decide⟩, List.getElem?_cons_zero, List.getElem?_cons_succ, dAddG_ii, mulL (i := x) (j := x.fdiv 2003 + 40693) (.inl ⟨by omega, by omega⟩), int1_i, modL (j := 2147483563) (by decide), toS_ok, ap_gnm, onG_some, then_nx, List.set_cons_succ, List.set_cons_zero, ap_ret, fdivL (j := 16) ⟨by decide, by decide⟩, modL (j := k) (by omega)]
      exact ends_rt ⟨_, rfl, (fmod_lt h0).1, (fmod_lt h0).2, Dice.mk' e5 e6 ne i0, ((sb.trans Sbn.set).trans Sbn.set)⟩
end Law

set_option maxRecDepth 100000
set_option maxHeartbeats 4000000
namespace Law
open PySem PySem.Spec PyProof.Rows L2 Dv
theorem intsOf_map : ∀ ns : List Int, intsOf (ns.map .int) = some ns
  | [] => rfl
  | n :: ns => by rw [List.map_cons]; show (intsOf (ns.map .int)).map _ = _; rw [intsOf_map ns]; rfl
theorem blsOf_map : ∀ ns : List Bool, blsOf (ns.map .bl) = some ns
  | [] => rfl
  | n :: ns => by rw [List.map_cons]; show (blsOf (ns.map .bl)).map _ = _; rw [blsOf_map ns]; rfl
theorem len_rng {lo : Int} {n : Nat} : (rngD lo n).length = n := by simp [rngD]
theorem cutD63 {ns : List Int} (hl : ns.length ≤ 63) : Dv.cutD (ns.map D.int) none (some 63) = ns.map D.int := by
  unfold Dv.cutD
  rw [HT.sIx_none, show (63 : Int) = ((63 : Nat) : Int) from rfl, HT.sIx_nat, List.length_map, List.drop_zero, Nat.min_eq_right hl, Nat.sub_zero]
  exact List.take_of_length_le (by rw [List.length_map]; exact Nat.le_refl _)
theorem small64 {n : Nat} (h : n ≤ 100000) : n < sizeLine := by rw [sizeLine_eq]; omega
theorem pop_at' {n j : Nat} (hj : j < n) : seqIndex? (j : Int) n = some j := (ixN_seq (by unfold ixN; rw [if_pos (by omega), if_pos (by omega)]; simp)).1
theorem dice {ns : List Int} (hl : ns.length ≤ 63) : Gives (fun d μ' => ∃ n m, d = .cell n ∧ Dice μ' n m) (g__law_dice [.scr ns] []) := by
  refine Ends.run ?_
  have hf : iLstD (fSl slG (fVar 0) oNo (oAt (fCon (.int 63)))) (env0 2 [D.scr ns]) [] = .ok ⟨ns.map .int, [(0, ns.map .int)]⟩ [.lst (ns.map .int)] := by
    simp only [Dv.ap_seq, Dv.ap_next, Dv.ap_ret, Dv.ap_retN, Dv.ap_drop, Dv.ap_break, Dv.ap_cont, Dv.ap_ifS, Dv.ap_asg, Dv.ap_par, Dv.ap_gnm, Dv.ap_gtup, Dv.ap_gcons, Dv.ap_gnil, Dv.ap_gsub, Dv.ap_var, Dv.ap_con, Dv.ap_op, Dv.ap_un, Dv.ap_chain, Dv.ap_and, Dv.ap_or, Dv.ap_not, Dv.ap_if, Dv.ap_test, Dv.ap_bAnd, Dv.ap_bOr, Dv.ap_bNot, Dv.ap_bTru, Dv.ap_bYes, Dv.ap_aNil, Dv.ap_aCons, Dv.ap_tup, Dv.ap_lst, Dv.ap_dct, Dv.ap_B, Dv.ap_call, Dv.ap_call0, Dv.ap_sl, Dv.ap_oNo, Dv.ap_oAt, Dv.ap_me, Dv.ap_me0, Dv.ap_for, Dv.ap_iTup, Dv.ap_iLst, Dv.ap_iStr, Dv.ap_raise0, Dv.ap_raise1, Dv.bind_ok, Dv.toS_ok, Dv.get_ok, Dv.noEx_ok, Dv.onG_some, Dv.then_nx, Dv.then_rt, Option.bind_some, List.set_cons_succ, List.set_cons_zero, List.getElem?_cons_zero, List.getElem?_cons_succ, Dv.dEq_ii, Dv.dEq_ss, Dv.dNe_ii, Dv.dNe_ss, Dv.dLt_ii, Dv.dLe_ii, Dv.dGt_ii, Dv.dGe_ii, Dv.dAddG_ii, Dv.dSub_ii, Dv.int1_i, Dv.abs_i, decide_true, decide_false, Bool.false_eq_true, if_true, if_false, Dv.env0, List.map_cons, List.map_nil, List.length_cons, List.length_nil, List.replicate, List.cons_append, List.nil_append, Nat.zero_add, Nat.reduceAdd, Nat.reduceSub, Dv.len_tup, Dv.len_str, Dv.ix_tup', Dv.tru_bl, Dv.dIsN_n, Dv.dNotN_n, Dv.seqOf_tup, Dv.setOf_tup, beq_self_eq_true, Dv.at0, Dv.at1, Dv.at2, Dv.at3, Dv.at4, Bool.not_true, Bool.not_false, Int.reduceEq]
    simp [slG, slL, seqOf, cutD63 hl]
  obtain h := lc_pure (v := 1) (e := fB dAbs (aCons (fB dInt1 (aCons (fVar 1) aNil)) aNil)) (fun d => match d with | .int i => .int (if i < 0 then -i else i) | d => d) hf (by rw [gok_one]; rfl) (by rw [List.length_map]; exact Nat.le_of_lt (small64 (by omega))) (by
    intro x hx acc
    obtain ⟨i, _, rfl⟩ := List.mem_map.mp hx
    simp only [Dv.ap_seq, Dv.ap_next, Dv.ap_ret, Dv.ap_retN, Dv.ap_drop, Dv.ap_break, Dv.ap_cont, Dv.ap_ifS, Dv.ap_asg, Dv.ap_par, Dv.ap_gnm, Dv.ap_gtup, Dv.ap_gcons, Dv.ap_gnil, Dv.ap_gsub, Dv.ap_var, Dv.ap_con, Dv.ap_op, Dv.ap_un, Dv.ap_chain, Dv.ap_and, Dv.ap_or, Dv.ap_not, Dv.ap_if, Dv.ap_test, Dv.ap_bAnd, Dv.ap_bOr, Dv.ap_bNot, Dv.ap_bTru, Dv.ap_bYes, Dv.ap_aNil, Dv.ap_aCons, Dv.ap_tup, Dv.ap_lst, Dv.ap_dct, Dv.ap_B, Dv.ap_call, Dv.ap_call0, Dv.ap_sl, Dv.ap_oNo, Dv.ap_oAt, Dv.ap_me, Dv.ap_me0, Dv.ap_for, Dv.ap_iTup, Dv.ap_iLst, Dv.ap_iStr, Dv.ap_raise0, Dv.ap_raise1, Dv.bind_ok, Dv.toS_ok, Dv.get_ok, Dv.noEx_ok, Dv.onG_some, Dv.then_nx, Dv.then_rt, Option.bind_some, List.set_cons_succ, List.set_cons_zero, List.getElem?_cons_zero, List.getElem?_cons_succ, Dv.dEq_ii, Dv.dEq_ss, Dv.dNe_ii, Dv.dNe_ss, Dv.dLt_ii, Dv.dLe_ii, Dv.dGt_ii, Dv.dGe_ii, Dv.dAddG_ii, Dv.dSub_ii, Dv.int1_i, Dv.abs_i, decide_true, decide_false, Bool.false_eq_true, if_true, if_false, Dv.env0, List.map_cons, List.map_nil, List.length_cons, List.length_nil, List.replicate, List.cons_append, List.nil_append, Nat.zero_add, Nat.reduceAdd, Nat.reduceSub, Dv.len_tup, Dv.len_str, Dv.ix_tup', Dv.tru_bl, Dv.dIsN_n, Dv.dNotN_n, Dv.seqOf_tup, Dv.setOf_tup, beq_self_eq_true, Dv.at0, Dv.at1, Dv.at2, Dv.at3, Dv.at4, Bool.not_true, Bool.not_false, Int.reduceEq])
  have e : b__law_dice (env0 2 [D.scr ns]) [] = .rt (.cell 2) ([C.lst (ns.map .int)] ++ [.lst ((ns.map .int).map fun d => match d with | D.int i => D.int (if i < 0 then -i else i) | d => d)] ++ [.lst (dl 1 0 0 1 0)]) := by
    rw [b__law_dice, ap_ret, ap_lst, ap_aCons, h]
    simp only [Dv.ap_seq, Dv.ap_next, Dv.ap_ret, Dv.ap_retN, Dv.ap_drop, Dv.ap_break, Dv.ap_cont, Dv.ap_ifS, Dv.ap_asg, Dv.ap_par, Dv.ap_gnm, Dv.ap_gtup, Dv.ap_gcons, Dv.ap_gnil, Dv.ap_gsub, Dv.ap_var, Dv.ap_con, Dv.ap_op, Dv.ap_un, Dv.ap_chain, Dv.ap_and, Dv.ap_or, Dv.ap_not, Dv.ap_if, Dv.ap_test, Dv.ap_bAnd, Dv.ap_bOr, Dv.ap_bNot, Dv.ap_bTru, Dv.ap_bYes, Dv.ap_aNil, Dv.ap_aCons, Dv.ap_tup, Dv.ap_lst, Dv.ap_dct, Dv.ap_B, Dv.ap_call, Dv.ap_call0, Dv.ap_sl, Dv.ap_oNo, Dv.ap_oAt, Dv.ap_me, Dv.ap_me0, Dv.ap_for, Dv.ap_iTup, Dv.ap_iLst, Dv.ap_iStr, Dv.ap_raise0, Dv.ap_raise1, Dv.bind_ok, Dv.toS_ok, Dv.get_ok, Dv.noEx_ok, Dv.onG_some, Dv.then_nx, Dv.then_rt, Option.bind_some, List.set_cons_succ, List.set_cons_zero, List.getElem?_cons_zero, List.getElem?_cons_succ, Dv.dEq_ii, Dv.dEq_ss, Dv.dNe_ii, Dv.dNe_ss, Dv.dLt_ii, Dv.dLe_ii, Dv.dGt_ii, Dv.dGe_ii, Dv.dAddG_ii, Dv.dSub_ii, Dv.int1_i, Dv.abs_i, decide_true, decide_false, Bool.false_eq_true, if_true, if_false, Dv.env0, List.map_cons, List.map_nil, List.length_cons, List.length_nil, List.replicate, List.cons_append, List.nil_append, Nat.zero_add, Nat.reduceAdd, Nat.reduceSub, Dv.len_tup, Dv.len_str, Dv.ix_tup', Dv.tru_bl, Dv.dIsN_n, Dv.dNotN_n, Dv.seqOf_tup, Dv.setOf_tup, beq_self_eq_true, Dv.at0, Dv.at1, Dv.at2, Dv.at3, Dv.at4, Bool.not_true, Bool.not_false, Int.reduceEq, List.length_append]
    rw [if_pos (by decide)]
    rfl
  rw [e]
  refine ends_rt ⟨2, 1, rfl, ?_⟩
  · refine Dice.mk' (i := 0) (g := 0) (s := 1) (t := 0) (cs := ns.map fun i => if i < 0 then -i else i) rfl ?_ (by decide) (by decide)
    simp [List.map_map, Function.comp_def]
theorem shuffled {μ : Mem} {n m : Nat} {d : D} {xs : List D} (P : Dice μ n m) (hd : seqOf μ d = some xs) (hl : xs.length ≤ 1000) : Gives (fun d μ' => ∃ ys, d = .tup ys ∧ ys.Perm xs ∧ Dice μ' n m ∧ Sbn n μ μ') (g__law_shuffled [.cell n, d] μ) := by
  have lt := P.lt
  refine Ends.run ?_
  have hsm : smallR (xs.length : Int) := ⟨by omega, by omega⟩
  have eL : (μ ++ [C.lst xs])[μ.length]? = some (.lst xs) := by simp
  have e1 : (sAsg (fB dLstOf (aCons (fVar 1) aNil)) (gNm 2)) (env0 4 [.cell n, d]) μ = .nx [some (.cell n), some d, some (.cell μ.length), none] (μ ++ [.lst xs]) := by
    simp only [Dv.ap_seq, Dv.ap_next, Dv.ap_ret, Dv.ap_retN, Dv.ap_drop, Dv.ap_break, Dv.ap_cont, Dv.ap_ifS, Dv.ap_asg, Dv.ap_par, Dv.ap_gnm, Dv.ap_gtup, Dv.ap_gcons, Dv.ap_gnil, Dv.ap_gsub, Dv.ap_var, Dv.ap_con, Dv.ap_op, Dv.ap_un, Dv.ap_chain, Dv.ap_and, Dv.ap_or, Dv.ap_not, Dv.ap_if, Dv.ap_test, Dv.ap_bAnd, Dv.ap_bOr, Dv.ap_bNot, Dv.ap_bTru, Dv.ap_bYes, Dv.ap_aNil, Dv.ap_aCons, Dv.ap_tup, Dv.ap_lst, Dv.ap_dct, Dv.ap_B, Dv.ap_call, Dv.ap_call0, Dv.ap_sl, Dv.ap_oNo, Dv.ap_oAt, Dv.ap_me, Dv.ap_me0, Dv.ap_for, Dv.ap_iTup, Dv.ap_iLst, Dv.ap_iStr, Dv.ap_raise0, Dv.ap_raise1, Dv.bind_ok, Dv.toS_ok, Dv.get_ok, Dv.noEx_ok, Dv.onG_some, Dv.then_nx, Dv.then_rt, Option.bind_some, List.set_cons_succ, List.set_cons_zero, List.getElem?_cons_zero, List.getElem?_cons_succ, Dv.dEq_ii, Dv.dEq_ss, Dv.dNe_ii, Dv.dNe_ss, Dv.dLt_ii, Dv.dLe_ii, Dv.dGt_ii, Dv.dGe_ii, Dv.dAddG_ii, Dv.dSub_ii, Dv.int1_i, Dv.abs_i, decide_true, decide_false, Bool.false_eq_true, if_true, if_false, Dv.env0, List.map_cons, List.map_nil, List.length_cons, List.length_nil, List.replicate, List.cons_append, List.nil_append, Nat.zero_add, Nat.reduceAdd, Nat.reduceSub, Dv.len_tup, Dv.len_str, Dv.ix_tup', Dv.tru_bl, Dv.dIsN_n, Dv.dNotN_n, Dv.seqOf_tup, Dv.setOf_tup, beq_self_eq_true, Dv.at0, Dv.at1, Dv.at2, Dv.at3, Dv.at4, Bool.not_true, Bool.not_false, Int.reduceEq, dLstOf, hd]
  unfold b__law_shuffled
  rw [ap_seq, e1, then_nx, ap_ret, ap_B, ap_aCons]
  obtain ⟨d', μ', h1, acc, rfl, ⟨hi, hD, hS, left, hL, hp, hlen⟩, hA⟩ := lc_map (f := iRng1D (aCons (fB dLenG (aCons (fVar 2) aNil)) aNil)) (v := 3) (e := fMe "list" mPopAt (fVar 2) (aCons (fCall0 (fun ds μ => if ds.length = 2 then g__law_draw ds μ else .no) (aCons (fVar 0) (aCons (fB dLenG (aCons (fVar 2) aNil)) aNil))) aNil)) (env := [some (.cell n), some d, some (.cell μ.length), none]) (μ := μ ++ [.lst xs]) (μ1 := μ ++ [.lst xs]) (items := rngD 0 xs.length) (g := [])
    (rng1_ok (by simp only [Dv.ap_seq, Dv.ap_next, Dv.ap_ret, Dv.ap_retN, Dv.ap_drop, Dv.ap_break, Dv.ap_cont, Dv.ap_ifS, Dv.ap_asg, Dv.ap_par, Dv.ap_gnm, Dv.ap_gtup, Dv.ap_gcons, Dv.ap_gnil, Dv.ap_gsub, Dv.ap_var, Dv.ap_con, Dv.ap_op, Dv.ap_un, Dv.ap_chain, Dv.ap_and, Dv.ap_or, Dv.ap_not, Dv.ap_if, Dv.ap_test, Dv.ap_bAnd, Dv.ap_bOr, Dv.ap_bNot, Dv.ap_bTru, Dv.ap_bYes, Dv.ap_aNil, Dv.ap_aCons, Dv.ap_tup, Dv.ap_lst, Dv.ap_dct, Dv.ap_B, Dv.ap_call, Dv.ap_call0, Dv.ap_sl, Dv.ap_oNo, Dv.ap_oAt, Dv.ap_me, Dv.ap_me0, Dv.ap_for, Dv.ap_iTup, Dv.ap_iLst, Dv.ap_iStr, Dv.ap_raise0, Dv.ap_raise1, Dv.bind_ok, Dv.toS_ok, Dv.get_ok, Dv.noEx_ok, Dv.onG_some, Dv.then_nx, Dv.then_rt, Option.bind_some, List.set_cons_succ, List.set_cons_zero, List.getElem?_cons_zero, List.getElem?_cons_succ, Dv.dEq_ii, Dv.dEq_ss, Dv.dNe_ii, Dv.dNe_ss, Dv.dLt_ii, Dv.dLe_ii, Dv.dGt_ii, Dv.dGe_ii, Dv.dAddG_ii, Dv.dSub_ii, Dv.int1_i, Dv.abs_i, decide_true, decide_false, Bool.false_eq_true, if_true, if_false, Dv.env0, List.map_cons, List.map_nil, List.length_cons, List.length_nil, List.replicate, List.cons_append, List.nil_append, Nat.zero_add, Nat.reduceAdd, Nat.reduceSub, Dv.len_tup, Dv.len_str, Dv.ix_tup', Dv.tru_bl, Dv.dIsN_n, Dv.dNotN_n, Dv.seqOf_tup, Dv.setOf_tup, beq_self_eq_true, Dv.at0, Dv.at1, Dv.at2, Dv.at3, Dv.at4, Bool.not_true, Bool.not_false, Int.reduceEq, len_cell eL]) (by omega))
    (fun i acc μ' => i ≤ xs.length ∧ Dice μ' n m ∧ Sbn n μ μ' ∧ ∃ left, μ'[μ.length]? = some (.lst left) ∧ (acc ++ left).Perm xs ∧ acc.length = i)
    (fun _ _ _ _ => gok_nil)
    ⟨by omega, P.app.app, Sbn.refl.app.app, xs, app_at eL, List.Perm.refl _, rfl⟩ (by
      intro i x acc μ' hx q hA
      obtain ⟨hi, hD, hS, left, hL, hp, hlen⟩ := q
      have hi2 := (List.getElem?_eq_some_iff.mp hx).1
      rw [len_rng] at hi2
      have hpl := hp.length_eq
      rw [List.length_append] at hpl
      obtain ⟨_, μ2, h1, r, rfl, r0, r1, hD2, hS2⟩ := draw (k := (left.length : Int)) hD (by omega) (by omega)
      have hL2 := hS2 _ _ (by omega) hL
      have hA2 := hS2 _ _ (by simp; omega) hA
      obtain ⟨j, rfl⟩ := nat_of r0
      have hj : j < left.length := by omega
      have hb : idxOk (j : Int) := ⟨by omega, by omega⟩
      refine ⟨left[j], μ2.set μ.length (.lst (left.eraseIdx j)), ?_, get_set' hA2 (by simp), by rw [sizeLine_eq]; omega, by omega, ?_, ?_, left.eraseIdx j, ?_, ?_, by simp [hlen]⟩
      · simp only [Dv.ap_seq, Dv.ap_next, Dv.ap_ret, Dv.ap_retN, Dv.ap_drop, Dv.ap_break, Dv.ap_cont, Dv.ap_ifS, Dv.ap_asg, Dv.ap_par, Dv.ap_gnm, Dv.ap_gtup, Dv.ap_gcons, Dv.ap_gnil, Dv.ap_gsub, Dv.ap_var, Dv.ap_con, Dv.ap_op, Dv.ap_un, Dv.ap_chain, Dv.ap_and, Dv.ap_or, Dv.ap_not, Dv.ap_if, Dv.ap_test, Dv.ap_bAnd, Dv.ap_bOr, Dv.ap_bNot, Dv.ap_bTru, Dv.ap_bYes, Dv.ap_aNil, Dv.ap_aCons, Dv.ap_tup, Dv.ap_lst, Dv.ap_dct, Dv.ap_B, Dv.ap_call, Dv.ap_call0, Dv.ap_sl, Dv.ap_oNo, Dv.ap_oAt, Dv.ap_me, Dv.ap_me0, Dv.ap_for, Dv.ap_iTup, Dv.ap_iLst, Dv.ap_iStr, Dv.ap_raise0, Dv.ap_raise1, Dv.bind_ok, Dv.toS_ok, Dv.get_ok, Dv.noEx_ok, Dv.onG_some, Dv.then_nx, Dv.then_rt, Option.bind_some, List.set_cons_succ, List.set_cons_zero, List.getElem?_cons_zero, List.getElem?_cons_succ, Dv.dEq_ii, Dv.dEq_ss, Dv.dNe_ii, Dv.dNe_ss, Dv.dLt_ii, Dv.dLe_ii, Dv.dGt_ii, Dv.dGe_ii, Dv.dAddG_ii, Dv.dSub_ii, Dv.int1_i, Dv.abs_i, decide_true, decide_false, Bool.false_eq_true, if_true, if_false, Dv.env0, List.map_cons, List.map_nil, List.length_cons, List.length_nil, List.replicate, List.cons_append, List.nil_append, Nat.zero_add, Nat.reduceAdd, Nat.reduceSub, Dv.len_tup, Dv.len_str, Dv.ix_tup', Dv.tru_bl, Dv.dIsN_n, Dv.dNotN_n, Dv.seqOf_tup, Dv.setOf_tup, beq_self_eq_true, Dv.at0, Dv.at1, Dv.at2, Dv.at3, Dv.at4, Bool.not_true, Bool.not_false, Int.reduceEq, tyM, hL, len_cell hL, h1, mPopAt, onLst, hL2, beq_self_eq_true, pop_at' hj, List.getElem?_eq_getElem hj]
        rw [if_pos hb]
      · exact (hD2.put (by omega) (by omega)).put (by simp; omega) (by simp; omega)
      · exact ((hS.trans hS2).put (Nat.le_refl _)).put (by simp)
      · exact get_set' (get_set hL2) (by simp)
      · refine List.Perm.trans ?_ hp
        rw [List.append_assoc]
        exact List.Perm.append_left _ (mem_of_perm_pop (List.getElem?_eq_getElem hj)))
  rw [h1]
  simp only [Dv.ap_seq, Dv.ap_next, Dv.ap_ret, Dv.ap_retN, Dv.ap_drop, Dv.ap_break, Dv.ap_cont, Dv.ap_ifS, Dv.ap_asg, Dv.ap_par, Dv.ap_gnm, Dv.ap_gtup, Dv.ap_gcons, Dv.ap_gnil, Dv.ap_gsub, Dv.ap_var, Dv.ap_con, Dv.ap_op, Dv.ap_un, Dv.ap_chain, Dv.ap_and, Dv.ap_or, Dv.ap_not, Dv.ap_if, Dv.ap_test, Dv.ap_bAnd, Dv.ap_bOr, Dv.ap_bNot, Dv.ap_bTru, Dv.ap_bYes, Dv.ap_aNil, Dv.ap_aCons, Dv.ap_tup, Dv.ap_lst, Dv.ap_dct, Dv.ap_B, Dv.ap_call, Dv.ap_call0, Dv.ap_sl, Dv.ap_oNo, Dv.ap_oAt, Dv.ap_me, Dv.ap_me0, Dv.ap_for, Dv.ap_iTup, Dv.ap_iLst, Dv.ap_iStr, Dv.ap_raise0, Dv.ap_raise1, Dv.bind_ok, Dv.toS_ok, Dv.get_ok, Dv.noEx_ok, Dv.onG_some, Dv.then_nx, Dv.then_rt, Option.bind_some, List.set_cons_succ, List.set_cons_zero, List.getElem?_cons_zero, List.getElem?_cons_succ, Dv.dEq_ii, Dv.dEq_ss, Dv.dNe_ii, Dv.dNe_ss, Dv.dLt_ii, Dv.dLe_ii, Dv.dGt_ii, Dv.dGe_ii, Dv.dAddG_ii, Dv.dSub_ii, Dv.int1_i, Dv.abs_i, decide_true, decide_false, Bool.false_eq_true, if_true, if_false, Dv.env0, List.map_cons, List.map_nil, List.length_cons, List.length_nil, List.replicate, List.cons_append, List.nil_append, Nat.zero_add, Nat.reduceAdd, Nat.reduceSub, Dv.len_tup, Dv.len_str, Dv.ix_tup', Dv.tru_bl, Dv.dIsN_n, Dv.dNotN_n, Dv.seqOf_tup, Dv.setOf_tup, beq_self_eq_true, Dv.at0, Dv.at1, Dv.at2, Dv.at3, Dv.at4, Bool.not_true, Bool.not_false, Int.reduceEq, dTupOf, seqOf, hA]
  refine ends_rt ⟨acc, rfl, ?_, hD, hS⟩
  rw [len_rng] at hlen
  have := hp.length_eq
  rw [List.length_append] at this
  have : left = [] := List.length_eq_zero_iff.mp (by omega)
  subst this
  simpa using hp
end Law

set_option maxRecDepth 100000
set_option maxHeartbeats 4000000
namespace Law
open PySem PySem.Spec PyProof.Rows L2 Dv
theorem any_eqF {fs : List Int} {i : Int} : (fs.map D.int).any (fun y => eqF y (.int i)) = decide (i ∈ fs) := by
  rw [Bool.eq_iff_iff]
  simp [eqF]
theorem flat_ints {fs : List Int} : (fs.map D.int).all flatD = true := by
  rw [List.all_map, List.all_eq_true]; intro x _; rfl
theorem in_cell {μ : Mem} {n : Nat} {fs : List Int} {i : Int} (h : μ[n]? = some (.lst (fs.map .int))) : dInG false (.int i) (.cell n) μ = .ok (.bl (decide (i ∈ fs))) μ := by
  show dIn false (.int i) (.cell n) μ = _
  have e : seqOf μ (.cell n) = some (fs.map .int) := by simp only [seqOf, h]
  have e2 : flatD (D.int i) = true ∧ (fs.map D.int).all flatD = true := ⟨rfl, flat_ints⟩
  simp only [dIn, e, any_eqF, Bool.false_eq_true, if_false]
  rw [if_pos e2]
theorem maxI_some : ∀ {ns : List Int}, ns ≠ [] → ∃ m, maxI ns = some m
  | [], h => absurd rfl h
  | _ :: _, _ => ⟨_, rfl⟩
theorem max_cell {μ : Mem} {n : Nat} {fs : List Int} {m : Int} (h : μ[n]? = some (.lst (fs.map .int))) (e : maxI fs = some m) : dMaxG [.cell n] μ = .ok (.int m) μ := by
  show dMaxL [.cell n] μ = _
  simp only [dMaxL, onInts, lstOf, h, intsOf_map, e]
theorem max_tup {μ : Mem} {fs : List Int} {m : Int} (e : maxI fs = some m) : dMaxG [.tup (fs.map .int)] μ = .ok (.int m) μ := by
  show dMaxT [.tup (fs.map .int)] μ = _
  simp only [dMaxT, maxTD, intsOf_map, Option.bind_some, e]
theorem perm_intsD {L : List Int} {ys : List D} (h : ys.Perm (L.map D.int)) : ∃ zs : List Int, ys = zs.map D.int ∧ zs.Perm L := by
  let g : D → Int := fun v => match v with | .int i => i | _ => 0
  refine ⟨ys.map g, ?_, ?_⟩
  · rw [List.map_map]
    have : ∀ y, y ∈ ys → (D.int ∘ g) y = y := fun y hy => by
      obtain ⟨i, _, rfl⟩ := List.mem_map.mp (h.mem_iff.mp hy)
      rfl
    rw [List.map_congr_left this, List.map_id']
  · have := h.map g
    rw [List.map_map] at this
    have e : (L.map (g ∘ D.int)) = L := by rw [show (g ∘ D.int) = id from rfl, List.map_id]
    rw [e] at this
    exact this
theorem rngD_map (n : Nat) : rngD 0 n = ((List.range n).map fun i : Nat => (i : Int)).map D.int := by
  unfold rngD
  rw [List.map_map]
  refine List.map_congr_left fun i _ => ?_
  simp
theorem filter_lt (n c : Nat) : ((List.range n).filter fun k => decide (k < c)).length = min n c := by
  induction n with
  | zero => simp
  | succ n ih =>
    rw [List.range_succ, List.filter_append, List.length_append, ih]
    by_cases h : n < c
    · simp [h]; omega
    · simp [h]; omega
def pIn (fs : List Int) : D → Bool
  | .int i => decide (i ∈ fs)
  | _ => false
theorem pIn_len {fs : List Int} {c n : Nat} (h : Seg fs c) : ((rngD 0 n).filter (pIn fs)).length ≤ c := by
  have e : (rngD 0 n).filter (pIn fs) = ((List.range n).filter fun k => decide (k < c)).map fun k : Nat => D.int (0 + (k : Int)) := by
    unfold rngD
    rw [List.filter_map]
    congr 1
    refine List.filter_congr fun k _ => ?_
    show decide ((0 + (k : Int)) ∈ fs) = decide (k < c)
    rw [Int.zero_add, Bool.eq_iff_iff, decide_eq_true_iff, decide_eq_true_iff]
    exact h.mem
  rw [e, List.length_map, filter_lt]
  omega
theorem dealing {μ : Mem} {n m rows : Nat} (P : Dice μ n m) (r1 : 1 ≤ rows) (r6 : rows ≤ 6) : Gives (fun d μ' => ∃ (dl : List Int) (hands : Nat), d = .tup (dl.map .int) ∧ Dealing rows dl hands ∧ Dice μ' n m ∧ Sbn n μ μ') (g__law_dealing [.cell n, .int rows] μ) := by
  have lt := P.lt
  refine Ends.run ?_
  refine Nexts.seq (Q := fun e μ' => e = [some (.cell n), some (.int rows), some (.cell μ.length), none, none, none] ∧ μ' = μ ++ [.lst []]) ⟨_, _, by simp only [Dv.ap_seq, Dv.ap_next, Dv.ap_ret, Dv.ap_retN, Dv.ap_drop, Dv.ap_break, Dv.ap_cont, Dv.ap_ifS, Dv.ap_asg, Dv.ap_par, Dv.ap_gnm, Dv.ap_gtup, Dv.ap_gcons, Dv.ap_gnil, Dv.ap_gsub, Dv.ap_var, Dv.ap_con, Dv.ap_op, Dv.ap_un, Dv.ap_chain, Dv.ap_and, Dv.ap_or, Dv.ap_not, Dv.ap_if, Dv.ap_test, Dv.ap_bAnd, Dv.ap_bOr, Dv.ap_bNot, Dv.ap_bTru, Dv.ap_bYes, Dv.ap_aNil, Dv.ap_aCons, Dv.ap_tup, Dv.ap_lst, Dv.ap_dct, Dv.ap_B, Dv.ap_call, Dv.ap_call0, Dv.ap_sl, Dv.ap_oNo, Dv.ap_oAt, Dv.ap_me, Dv.ap_me0, Dv.ap_for, Dv.ap_iTup, Dv.ap_iLst, Dv.ap_iStr, Dv.ap_raise0, Dv.ap_raise1, Dv.bind_ok, Dv.toS_ok, Dv.get_ok, Dv.noEx_ok, Dv.onG_some, Dv.then_nx, Dv.then_rt, Option.bind_some, List.set_cons_succ, List.set_cons_zero, List.getElem?_cons_zero, List.getElem?_cons_succ, Dv.dEq_ii, Dv.dEq_ss, Dv.dNe_ii, Dv.dNe_ss, Dv.dLt_ii, Dv.dLe_ii, Dv.dGt_ii, Dv.dGe_ii, Dv.dAddG_ii, Dv.dSub_ii, Dv.int1_i, Dv.abs_i, decide_true, decide_false, Bool.false_eq_true, if_true, if_false, Dv.env0, List.map_cons, List.map_nil, List.length_cons, List.length_nil, List.replicate, List.cons_append, List.nil_append, Nat.zero_add, Nat.reduceAdd, Nat.reduceSub, Dv.len_tup, Dv.len_str, Dv.ix_tup', Dv.tru_bl, Dv.dIsN_n, Dv.dNotN_n, Dv.seqOf_tup, Dv.setOf_tup, beq_self_eq_true, Dv.at0, Dv.at1, Dv.at2, Dv.at3, Dv.at4, Bool.not_true, Bool.not_false, Int.reduceEq, Nat.zero_le], rfl, rfl⟩ ?_
  rintro _ _ ⟨rfl, rfl⟩
  refine Nexts.seq (Q := fun e μ' => Dice μ' n m ∧ Sbn n μ μ' ∧ ∃ (fs : List Int) (c : Nat) (a3 : Option D), e = [some (.cell n), some (.int rows), some (.cell μ.length), a3, none, none] ∧ μ'[μ.length]? = some (.lst (fs.map .int)) ∧ fs.length = rows ∧ Seg fs c ∧ c ≤ rows ∧ (0 < rows → 0 < c)) ?_ ?_
  · rw [ap_for, rng1_ok (n := rows) (μ1 := μ ++ [.lst []]) (by simp only [Dv.ap_seq, Dv.ap_next, Dv.ap_ret, Dv.ap_retN, Dv.ap_drop, Dv.ap_break, Dv.ap_cont, Dv.ap_ifS, Dv.ap_asg, Dv.ap_par, Dv.ap_gnm, Dv.ap_gtup, Dv.ap_gcons, Dv.ap_gnil, Dv.ap_gsub, Dv.ap_var, Dv.ap_con, Dv.ap_op, Dv.ap_un, Dv.ap_chain, Dv.ap_and, Dv.ap_or, Dv.ap_not, Dv.ap_if, Dv.ap_test, Dv.ap_bAnd, Dv.ap_bOr, Dv.ap_bNot, Dv.ap_bTru, Dv.ap_bYes, Dv.ap_aNil, Dv.ap_aCons, Dv.ap_tup, Dv.ap_lst, Dv.ap_dct, Dv.ap_B, Dv.ap_call, Dv.ap_call0, Dv.ap_sl, Dv.ap_oNo, Dv.ap_oAt, Dv.ap_me, Dv.ap_me0, Dv.ap_for, Dv.ap_iTup, Dv.ap_iLst, Dv.ap_iStr, Dv.ap_raise0, Dv.ap_raise1, Dv.bind_ok, Dv.toS_ok, Dv.get_ok, Dv.noEx_ok, Dv.onG_some, Dv.then_nx, Dv.then_rt, Option.bind_some, List.set_cons_succ, List.set_cons_zero, List.getElem?_cons_zero, List.getElem?_cons_succ, Dv.dEq_ii, Dv.dEq_ss, Dv.dNe_ii, Dv.dNe_ss, Dv.dLt_ii, Dv.dLe_ii, Dv.dGt_ii, Dv.dGe_ii, Dv.dAddG_ii, Dv.dSub_ii, Dv.int1_i, Dv.abs_i, decide_true, decide_false, Bool.false_eq_true, if_true, if_false, Dv.env0, List.map_cons, List.map_nil, List.length_cons, List.length_nil, List.replicate, List.cons_append, List.nil_append, Nat.zero_add, Nat.reduceAdd, Nat.reduceSub, Dv.len_tup, Dv.len_str, Dv.ix_tup', Dv.tru_bl, Dv.dIsN_n, Dv.dNotN_n, Dv.seqOf_tup, Dv.setOf_tup, beq_self_eq_true, Dv.at0, Dv.at1, Dv.at2, Dv.at3, Dv.at4, Bool.not_true, Bool.not_false, Int.reduceEq]) (by omega), toS_ok]
    have := for_go (t := gNm 3) (b := sDrop (fMe "list" mAppend (fVar 2) (aCons (fCall (fun ds μ => if ds.length = 2 then g__law_draw ds μ else .no) (aCons (fVar 0) (aCons (fOp dAddG (fCon (.int 1)) (fB dLenG (aCons (fLc (iRng1D (aCons (fVar 1) aNil)) (gNm 5) (bTest (fOp (dInG false) (fVar 5) (fVar 2))) (fVar 5) [5]) aNil))) aNil))) aNil))) (g := [])
      (fun i e μ' => Dice μ' n m ∧ Sbn n μ μ' ∧ ∃ (fs : List Int) (c : Nat) (a3 : Option D), e = [some (.cell n), some (.int rows), some (.cell μ.length), a3, none, none] ∧ μ'[μ.length]? = some (.lst (fs.map .int)) ∧ fs.length = i ∧ Seg fs c ∧ c ≤ i ∧ (0 < i → 0 < c)) (fun _ _ _ _ => gok_nil) (rngD 0 rows) 0 [some (.cell n), some (.int rows), some (.cell μ.length), none, none, none] (μ ++ [.lst []]) ?_ ⟨P.app, Sbn.refl.app, [], 0, none, rfl, by simp, rfl, Seg.nil, Nat.le_refl _, fun h => h⟩
    · rw [len_rng, Nat.zero_add] at this
      exact this
    intro i x env μ' hx q
    rw [Nat.zero_add] at q ⊢
    obtain ⟨hD, hS, fs, c, a3, rfl, hB, hl, hs, hc, hc0⟩ := q
    have hi := (List.getElem?_eq_some_iff.mp hx).1
    rw [len_rng] at hi
    refine ⟨_, _, rfl, ?_⟩
    have hL := lc_filter (v := 5) (c := bTest (fOp (dInG false) (fVar 5) (fVar 2))) (e := fVar 5) (env := [some (.cell n), some (.int rows), some (.cell μ.length), some x, none, none]) (pIn fs) id (rng1_ok (μ := μ') (μ1 := μ') (n := rows) (fs := aCons (fVar 1) aNil) (by simp only [Dv.ap_seq, Dv.ap_next, Dv.ap_ret, Dv.ap_retN, Dv.ap_drop, Dv.ap_break, Dv.ap_cont, Dv.ap_ifS, Dv.ap_asg, Dv.ap_par, Dv.ap_gnm, Dv.ap_gtup, Dv.ap_gcons, Dv.ap_gnil, Dv.ap_gsub, Dv.ap_var, Dv.ap_con, Dv.ap_op, Dv.ap_un, Dv.ap_chain, Dv.ap_and, Dv.ap_or, Dv.ap_not, Dv.ap_if, Dv.ap_test, Dv.ap_bAnd, Dv.ap_bOr, Dv.ap_bNot, Dv.ap_bTru, Dv.ap_bYes, Dv.ap_aNil, Dv.ap_aCons, Dv.ap_tup, Dv.ap_lst, Dv.ap_dct, Dv.ap_B, Dv.ap_call, Dv.ap_call0, Dv.ap_sl, Dv.ap_oNo, Dv.ap_oAt, Dv.ap_me, Dv.ap_me0, Dv.ap_for, Dv.ap_iTup, Dv.ap_iLst, Dv.ap_iStr, Dv.ap_raise0, Dv.ap_raise1, Dv.bind_ok, Dv.toS_ok, Dv.get_ok, Dv.noEx_ok, Dv.onG_some, Dv.then_nx, Dv.then_rt, Option.bind_some, List.set_cons_succ, List.set_cons_zero, List.getElem?_cons_zero, List.getElem?_cons_succ, Dv.dEq_ii, Dv.dEq_ss, Dv.dNe_ii, Dv.dNe_ss, Dv.dLt_ii, Dv.dLe_ii, Dv.dGt_ii, Dv.dGe_ii, Dv.dAddG_ii, Dv.dSub_ii, Dv.int1_i, Dv.abs_i, decide_true, decide_false, Bool.false_eq_true, if_true, if_false, Dv.env0, List.map_cons, List.map_nil, List.length_cons, List.length_nil, List.replicate, List.cons_append, List.nil_append, Nat.zero_add, Nat.reduceAdd, Nat.reduceSub, Dv.len_tup, Dv.len_str, Dv.ix_tup', Dv.tru_bl, Dv.dIsN_n, Dv.dNotN_n, Dv.seqOf_tup, Dv.setOf_tup, beq_self_eq_true, Dv.at0, Dv.at1, Dv.at2, Dv.at3, Dv.at4, Bool.not_true, Bool.not_false, Int.reduceEq]) (by omega)) gok_nil (by rw [len_rng, sizeLine_eq]; omega) (by
      intro y hy acc
      rw [rngD_map] at hy
      obtain ⟨k, _, rfl⟩ := List.mem_map.mp hy
      simp only [Dv.ap_seq, Dv.ap_next, Dv.ap_ret, Dv.ap_retN, Dv.ap_drop, Dv.ap_break, Dv.ap_cont, Dv.ap_ifS, Dv.ap_asg, Dv.ap_par, Dv.ap_gnm, Dv.ap_gtup, Dv.ap_gcons, Dv.ap_gnil, Dv.ap_gsub, Dv.ap_var, Dv.ap_con, Dv.ap_op, Dv.ap_un, Dv.ap_chain, Dv.ap_and, Dv.ap_or, Dv.ap_not, Dv.ap_if, Dv.ap_test, Dv.ap_bAnd, Dv.ap_bOr, Dv.ap_bNot, Dv.ap_bTru, Dv.ap_bYes, Dv.ap_aNil, Dv.ap_aCons, Dv.ap_tup, Dv.ap_lst, Dv.ap_dct, Dv.ap_B, Dv.ap_call, Dv.ap_call0, Dv.ap_sl, Dv.ap_oNo, Dv.ap_oAt, Dv.ap_me, Dv.ap_me0, Dv.ap_for, Dv.ap_iTup, Dv.ap_iLst, Dv.ap_iStr, Dv.ap_raise0, Dv.ap_raise1, Dv.bind_ok, Dv.toS_ok, Dv.get_ok, Dv.noEx_ok, Dv.onG_some, Dv.then_nx, Dv.then_rt, Option.bind_some, List.set_cons_succ, List.set_cons_zero, List.getElem?_cons_zero, List.getElem?_cons_succ, Dv.dEq_ii, Dv.dEq_ss, Dv.dNe_ii, Dv.dNe_ss, Dv.dLt_ii, Dv.dLe_ii, Dv.dGt_ii, Dv.dGe_ii, Dv.dAddG_ii, Dv.dSub_ii, Dv.int1_i, Dv.abs_i, decide_true, decide_false, Bool.false_eq_true, if_true, if_false, Dv.env0, List.map_cons, List.map_nil, List.length_cons, List.length_nil, List.replicate, List.cons_append, List.nil_append, Nat.zero_add, Nat.reduceAdd, Nat.reduceSub, Dv.len_tup, Dv.len_str, Dv.ix_tup', Dv.tru_bl, Dv.dIsN_n, Dv.dNotN_n, Dv.seqOf_tup, Dv.setOf_tup, beq_self_eq_true, Dv.at0, Dv.at1, Dv.at2, Dv.at3, Dv.at4, Bool.not_true, Bool.not_false, Int.reduceEq, in_cell (app_at hB), pIn]) (by intro y hy _ acc; simp only [Dv.ap_seq, Dv.ap_next, Dv.ap_ret, Dv.ap_retN, Dv.ap_drop, Dv.ap_break, Dv.ap_cont, Dv.ap_ifS, Dv.ap_asg, Dv.ap_par, Dv.ap_gnm, Dv.ap_gtup, Dv.ap_gcons, Dv.ap_gnil, Dv.ap_gsub, Dv.ap_var, Dv.ap_con, Dv.ap_op, Dv.ap_un, Dv.ap_chain, Dv.ap_and, Dv.ap_or, Dv.ap_not, Dv.ap_if, Dv.ap_test, Dv.ap_bAnd, Dv.ap_bOr, Dv.ap_bNot, Dv.ap_bTru, Dv.ap_bYes, Dv.ap_aNil, Dv.ap_aCons, Dv.ap_tup, Dv.ap_lst, Dv.ap_dct, Dv.ap_B, Dv.ap_call, Dv.ap_call0, Dv.ap_sl, Dv.ap_oNo, Dv.ap_oAt, Dv.ap_me, Dv.ap_me0, Dv.ap_for, Dv.ap_iTup, Dv.ap_iLst, Dv.ap_iStr, Dv.ap_raise0, Dv.ap_raise1, Dv.bind_ok, Dv.toS_ok, Dv.get_ok, Dv.noEx_ok, Dv.onG_some, Dv.then_nx, Dv.then_rt, Option.bind_some, List.set_cons_succ, List.set_cons_zero, List.getElem?_cons_zero, List.getElem?_cons_succ, Dv.dEq_ii, Dv.dEq_ss, Dv.dNe_ii, Dv.dNe_ss, Dv.dLt_ii, Dv.dLe_ii, Dv.dGt_ii, Dv.dGe_ii, Dv.dAddG_ii, Dv.dSub_ii, Dv.int1_i, Dv.abs_i, decide_true, decide_false, Bool.false_eq_true, if_true, if_false, Dv.env0, List.map_cons, List.map_nil, List.length_cons, List.length_nil, List.replicate, List.cons_append, List.nil_append, Nat.zero_add, Nat.reduceAdd, Nat.reduceSub, Dv.len_tup, Dv.len_str, Dv.ix_tup', Dv.tru_bl, Dv.dIsN_n, Dv.dNotN_n, Dv.seqOf_tup, Dv.setOf_tup, beq_self_eq_true, Dv.at0, Dv.at1, Dv.at2, Dv.at3, Dv.at4, Bool.not_true, Bool.not_false, Int.reduceEq, id])
    have hlen := pIn_len (n := rows) hs
    rw [List.map_id] at hL
    have hN : (μ' ++ [C.lst ((rngD 0 rows).filter (pIn fs))])[μ'.length]? = some (.lst ((rngD 0 rows).filter (pIn fs))) := by simp
    have hlt := hD.lt
    obtain ⟨_, μ2, h1, r, rfl, r0, r1', hD2, hS2⟩ := draw (k := 1 + (((rngD 0 rows).filter (pIn fs)).length : Int)) (hD.app (l := [C.lst ((rngD 0 rows).filter (pIn fs))])) (by omega) (by omega)
    have hB2 := hS2 _ _ (by omega) (app_at hB)
    obtain ⟨c', hs', g1, g2, g3⟩ := hs.snoc (r := r) r0 (by omega)
    have hsz : (fs.map D.int).length < sizeLine := by rw [List.length_map, sizeLine_eq]; omega
    refine ⟨_, _, ?_, hD2.put (L := μ.length) (c := .lst ((fs ++ [r]).map .int)) (by omega) (by omega), ((hS.app.trans hS2).put (Nat.le_refl _)), fs ++ [r], c', some x, rfl, ?_, by simp [hl], hs', by omega, fun _ => g3⟩
    · simp only [Dv.ap_seq, Dv.ap_next, Dv.ap_ret, Dv.ap_retN, Dv.ap_drop, Dv.ap_break, Dv.ap_cont, Dv.ap_ifS, Dv.ap_asg, Dv.ap_par, Dv.ap_gnm, Dv.ap_gtup, Dv.ap_gcons, Dv.ap_gnil, Dv.ap_gsub, Dv.ap_var, Dv.ap_con, Dv.ap_op, Dv.ap_un, Dv.ap_chain, Dv.ap_and, Dv.ap_or, Dv.ap_not, Dv.ap_if, Dv.ap_test, Dv.ap_bAnd, Dv.ap_bOr, Dv.ap_bNot, Dv.ap_bTru, Dv.ap_bYes, Dv.ap_aNil, Dv.ap_aCons, Dv.ap_tup, Dv.ap_lst, Dv.ap_dct, Dv.ap_B, Dv.ap_call, Dv.ap_call0, Dv.ap_sl, Dv.ap_oNo, Dv.ap_oAt, Dv.ap_me, Dv.ap_me0, Dv.ap_for, Dv.ap_iTup, Dv.ap_iLst, Dv.ap_iStr, Dv.ap_raise0, Dv.ap_raise1, Dv.bind_ok, Dv.toS_ok, Dv.get_ok, Dv.noEx_ok, Dv.onG_some, Dv.then_nx, Dv.then_rt, Option.bind_some, List.set_cons_succ, List.set_cons_zero, List.getElem?_cons_zero, List.getElem?_cons_succ, Dv.dEq_ii, Dv.dEq_ss, Dv.dNe_ii, Dv.dNe_ss, Dv.dLt_ii, Dv.dLe_ii, Dv.dGt_ii, Dv.dGe_ii, Dv.dAddG_ii, Dv.dSub_ii, Dv.int1_i, Dv.abs_i, decide_true, decide_false, Bool.false_eq_true, if_true, if_false, Dv.env0, List.map_cons, List.map_nil, List.length_cons, List.length_nil, List.replicate, List.cons_append, List.nil_append, Nat.zero_add, Nat.reduceAdd, Nat.reduceSub, Dv.len_tup, Dv.len_str, Dv.ix_tup', Dv.tru_bl, Dv.dIsN_n, Dv.dNotN_n, Dv.seqOf_tup, Dv.setOf_tup, beq_self_eq_true, Dv.at0, Dv.at1, Dv.at2, Dv.at3, Dv.at4, Bool.not_true, Bool.not_false, Int.reduceEq, tyM, hB, hL, len_cell hN, h1, append_ok hB2 hsz, List.map_append]
    · rw [get_set hB2]
  · rintro _ μ2 ⟨hD, hS, fs, c, a3, rfl, hB, hl, hs, hc, hc0⟩
    have c0 := hc0 (by omega)
    obtain ⟨mx, hm⟩ := maxI_some (ns := fs) (by intro e; rw [e] at hl; simp at hl; omega)
    obtain ⟨m1, m2⟩ := maxI_spec hm
    have em := seg_max hs m1 m2
    have hlt := hD.lt
    obtain ⟨_, μ3, h1, ys, rfl, hp, hD3, hS3⟩ := shuffled (μ := μ2 ++ [.lst (rngD 0 c)]) (d := .cell μ2.length) (xs := rngD 0 c) hD.app (by simp [seqOf]) (by rw [len_rng]; omega)
    rw [rngD_map] at hp
    obtain ⟨zs, rfl, hz⟩ := perm_intsD hp
    have hzl : zs.length = c := by rw [hz.length_eq, List.length_map, List.length_range]
    have hB3 := hS3 _ _ (by omega) (app_at hB)
    have hR := lstRg_ok (f := fOp dAddG (fCon (.int 1)) (fB dMaxG (aCons (fVar 2) aNil))) (env := [some (.cell n), some (.int rows), some (.cell μ.length), a3, none, none]) (μ := μ2) (n := c) (by
      simp only [Dv.ap_seq, Dv.ap_next, Dv.ap_ret, Dv.ap_retN, Dv.ap_drop, Dv.ap_break, Dv.ap_cont, Dv.ap_ifS, Dv.ap_asg, Dv.ap_par, Dv.ap_gnm, Dv.ap_gtup, Dv.ap_gcons, Dv.ap_gnil, Dv.ap_gsub, Dv.ap_var, Dv.ap_con, Dv.ap_op, Dv.ap_un, Dv.ap_chain, Dv.ap_and, Dv.ap_or, Dv.ap_not, Dv.ap_if, Dv.ap_test, Dv.ap_bAnd, Dv.ap_bOr, Dv.ap_bNot, Dv.ap_bTru, Dv.ap_bYes, Dv.ap_aNil, Dv.ap_aCons, Dv.ap_tup, Dv.ap_lst, Dv.ap_dct, Dv.ap_B, Dv.ap_call, Dv.ap_call0, Dv.ap_sl, Dv.ap_oNo, Dv.ap_oAt, Dv.ap_me, Dv.ap_me0, Dv.ap_for, Dv.ap_iTup, Dv.ap_iLst, Dv.ap_iStr, Dv.ap_raise0, Dv.ap_raise1, Dv.bind_ok, Dv.toS_ok, Dv.get_ok, Dv.noEx_ok, Dv.onG_some, Dv.then_nx, Dv.then_rt, Option.bind_some, List.set_cons_succ, List.set_cons_zero, List.getElem?_cons_zero, List.getElem?_cons_succ, Dv.dEq_ii, Dv.dEq_ss, Dv.dNe_ii, Dv.dNe_ss, Dv.dLt_ii, Dv.dLe_ii, Dv.dGt_ii, Dv.dGe_ii, Dv.dAddG_ii, Dv.dSub_ii, Dv.int1_i, Dv.abs_i, decide_true, decide_false, Bool.false_eq_true, if_true, if_false, Dv.env0, List.map_cons, List.map_nil, List.length_cons, List.length_nil, List.replicate, List.cons_append, List.nil_append, Nat.zero_add, Nat.reduceAdd, Nat.reduceSub, Dv.len_tup, Dv.len_str, Dv.ix_tup', Dv.tru_bl, Dv.dIsN_n, Dv.dNotN_n, Dv.seqOf_tup, Dv.setOf_tup, beq_self_eq_true, Dv.at0, Dv.at1, Dv.at2, Dv.at3, Dv.at4, Bool.not_true, Bool.not_false, Int.reduceEq, max_cell hB hm]
      rw [em, show 1 + ((c : Int) - 1) = c by omega]) (by omega)
    have hT := lc_pure (f := iLstD (fVar 2)) (v := 5) (e := fOp ixD (fVar 4) (fVar 5)) (env := [some (.cell n), some (.int rows), some (.cell μ.length), a3, some (.tup (zs.map .int)), none]) (μ := μ3) (μ1 := μ3) (g := [(μ.length, fs.map .int)]) (items := fs.map .int) (fun x => match x with | .int i => .int (cellOf zs i.toNat) | d => d) (by simp only [Dv.ap_seq, Dv.ap_next, Dv.ap_ret, Dv.ap_retN, Dv.ap_drop, Dv.ap_break, Dv.ap_cont, Dv.ap_ifS, Dv.ap_asg, Dv.ap_par, Dv.ap_gnm, Dv.ap_gtup, Dv.ap_gcons, Dv.ap_gnil, Dv.ap_gsub, Dv.ap_var, Dv.ap_con, Dv.ap_op, Dv.ap_un, Dv.ap_chain, Dv.ap_and, Dv.ap_or, Dv.ap_not, Dv.ap_if, Dv.ap_test, Dv.ap_bAnd, Dv.ap_bOr, Dv.ap_bNot, Dv.ap_bTru, Dv.ap_bYes, Dv.ap_aNil, Dv.ap_aCons, Dv.ap_tup, Dv.ap_lst, Dv.ap_dct, Dv.ap_B, Dv.ap_call, Dv.ap_call0, Dv.ap_sl, Dv.ap_oNo, Dv.ap_oAt, Dv.ap_me, Dv.ap_me0, Dv.ap_for, Dv.ap_iTup, Dv.ap_iLst, Dv.ap_iStr, Dv.ap_raise0, Dv.ap_raise1, Dv.bind_ok, Dv.toS_ok, Dv.get_ok, Dv.noEx_ok, Dv.onG_some, Dv.then_nx, Dv.then_rt, Option.bind_some, List.set_cons_succ, List.set_cons_zero, List.getElem?_cons_zero, List.getElem?_cons_succ, Dv.dEq_ii, Dv.dEq_ss, Dv.dNe_ii, Dv.dNe_ss, Dv.dLt_ii, Dv.dLe_ii, Dv.dGt_ii, Dv.dGe_ii, Dv.dAddG_ii, Dv.dSub_ii, Dv.int1_i, Dv.abs_i, decide_true, decide_false, Bool.false_eq_true, if_true, if_false, Dv.env0, List.map_cons, List.map_nil, List.length_cons, List.length_nil, List.replicate, List.cons_append, List.nil_append, Nat.zero_add, Nat.reduceAdd, Nat.reduceSub, Dv.len_tup, Dv.len_str, Dv.ix_tup', Dv.tru_bl, Dv.dIsN_n, Dv.dNotN_n, Dv.seqOf_tup, Dv.setOf_tup, beq_self_eq_true, Dv.at0, Dv.at1, Dv.at2, Dv.at3, Dv.at4, Bool.not_true, Bool.not_false, Int.reduceEq, hB3]) (by rw [gok_one]; exact hB3) (by rw [List.length_map, sizeLine_eq]; omega) (by
      intro x hx acc
      obtain ⟨f, hf, rfl⟩ := List.mem_map.mp hx
      have b := hs.1 f hf
      simp only [Dv.ap_seq, Dv.ap_next, Dv.ap_ret, Dv.ap_retN, Dv.ap_drop, Dv.ap_break, Dv.ap_cont, Dv.ap_ifS, Dv.ap_asg, Dv.ap_par, Dv.ap_gnm, Dv.ap_gtup, Dv.ap_gcons, Dv.ap_gnil, Dv.ap_gsub, Dv.ap_var, Dv.ap_con, Dv.ap_op, Dv.ap_un, Dv.ap_chain, Dv.ap_and, Dv.ap_or, Dv.ap_not, Dv.ap_if, Dv.ap_test, Dv.ap_bAnd, Dv.ap_bOr, Dv.ap_bNot, Dv.ap_bTru, Dv.ap_bYes, Dv.ap_aNil, Dv.ap_aCons, Dv.ap_tup, Dv.ap_lst, Dv.ap_dct, Dv.ap_B, Dv.ap_call, Dv.ap_call0, Dv.ap_sl, Dv.ap_oNo, Dv.ap_oAt, Dv.ap_me, Dv.ap_me0, Dv.ap_for, Dv.ap_iTup, Dv.ap_iLst, Dv.ap_iStr, Dv.ap_raise0, Dv.ap_raise1, Dv.bind_ok, Dv.toS_ok, Dv.get_ok, Dv.noEx_ok, Dv.onG_some, Dv.then_nx, Dv.then_rt, Option.bind_some, List.set_cons_succ, List.set_cons_zero, List.getElem?_cons_zero, List.getElem?_cons_succ, Dv.dEq_ii, Dv.dEq_ss, Dv.dNe_ii, Dv.dNe_ss, Dv.dLt_ii, Dv.dLe_ii, Dv.dGt_ii, Dv.dGe_ii, Dv.dAddG_ii, Dv.dSub_ii, Dv.int1_i, Dv.abs_i, decide_true, decide_false, Bool.false_eq_true, if_true, if_false, Dv.env0, List.map_cons, List.map_nil, List.length_cons, List.length_nil, List.replicate, List.cons_append, List.nil_append, Nat.zero_add, Nat.reduceAdd, Nat.reduceSub, Dv.len_tup, Dv.len_str, Dv.ix_tup', Dv.tru_bl, Dv.dIsN_n, Dv.dNotN_n, Dv.seqOf_tup, Dv.setOf_tup, beq_self_eq_true, Dv.at0, Dv.at1, Dv.at2, Dv.at3, Dv.at4, Bool.not_true, Bool.not_false, Int.reduceEq, atI_in (xs := zs.map D.int) (i := f) b.1 (by rw [List.length_map]; omega)]
      rw [List.getElem?_map, (cell_mem (zs := zs) (j := f.toNat) (by omega)).2]
      rfl)
    refine ⟨.tup ((fs.map fun f => cellOf zs f.toNat).map .int), μ3 ++ [.lst ((fs.map fun f => cellOf zs f.toNat).map .int)], ?_, _, c, rfl, dealing_of hl hs c0 hc hz, hD3.app, (hS.app.trans hS3).app⟩
    simp only [Dv.ap_seq, Dv.ap_next, Dv.ap_ret, Dv.ap_retN, Dv.ap_drop, Dv.ap_break, Dv.ap_cont, Dv.ap_ifS, Dv.ap_asg, Dv.ap_par, Dv.ap_gnm, Dv.ap_gtup, Dv.ap_gcons, Dv.ap_gnil, Dv.ap_gsub, Dv.ap_var, Dv.ap_con, Dv.ap_op, Dv.ap_un, Dv.ap_chain, Dv.ap_and, Dv.ap_or, Dv.ap_not, Dv.ap_if, Dv.ap_test, Dv.ap_bAnd, Dv.ap_bOr, Dv.ap_bNot, Dv.ap_bTru, Dv.ap_bYes, Dv.ap_aNil, Dv.ap_aCons, Dv.ap_tup, Dv.ap_lst, Dv.ap_dct, Dv.ap_B, Dv.ap_call, Dv.ap_call0, Dv.ap_sl, Dv.ap_oNo, Dv.ap_oAt, Dv.ap_me, Dv.ap_me0, Dv.ap_for, Dv.ap_iTup, Dv.ap_iLst, Dv.ap_iStr, Dv.ap_raise0, Dv.ap_raise1, Dv.bind_ok, Dv.toS_ok, Dv.get_ok, Dv.noEx_ok, Dv.onG_some, Dv.then_nx, Dv.then_rt, Option.bind_some, List.set_cons_succ, List.set_cons_zero, List.getElem?_cons_zero, List.getElem?_cons_succ, Dv.dEq_ii, Dv.dEq_ss, Dv.dNe_ii, Dv.dNe_ss, Dv.dLt_ii, Dv.dLe_ii, Dv.dGt_ii, Dv.dGe_ii, Dv.dAddG_ii, Dv.dSub_ii, Dv.int1_i, Dv.abs_i, decide_true, decide_false, Bool.false_eq_true, if_true, if_false, Dv.env0, List.map_cons, List.map_nil, List.length_cons, List.length_nil, List.replicate, List.cons_append, List.nil_append, Nat.zero_add, Nat.reduceAdd, Nat.reduceSub, Dv.len_tup, Dv.len_str, Dv.ix_tup', Dv.tru_bl, Dv.dIsN_n, Dv.dNotN_n, Dv.seqOf_tup, Dv.setOf_tup, beq_self_eq_true, Dv.at0, Dv.at1, Dv.at2, Dv.at3, Dv.at4, Bool.not_true, Bool.not_false, Int.reduceEq, hR, h1, hT, dTupOf, seqOf, List.map_map]
    simp [Function.comp_def]
end Law

set_option maxRecDepth 100000
set_option maxHeartbeats 4000000
namespace Law
open PySem PySem.Spec PyProof.Rows L2 Dv
inductive Good (μ : Mem) : D → Prop
  | non : Good μ .non
  | bl (b : Bool) : Good μ (.bl b)
  | int (i : Int) : Good μ (.int i)
  | str (z : Str) : Good μ (.str z)
  | tup {xs : List D} (h : ∀ x ∈ xs, Good μ x) : Good μ (.tup xs)
  | lst {n : Nat} (h : tyN μ (.cell n) = some "list") : Good μ (.cell n)
  | dct {n : Nat} (h : tyN μ (.cell n) = some "dict") : Good μ (.cell n)
/-- what is a list or a dict stays so -/
def Ty (μ μ' : Mem) : Prop := ∀ n t, tyN μ (.cell n) = some t → tyN μ' (.cell n) = some t
theorem Good.keep {μ μ' : Mem} (s : Ty μ μ') {d : D} (h : Good μ d) : Good μ' d := by
  induction h with
  | non => exact .non
  | bl b => exact .bl b
  | int i => exact .int i
  | str z => exact .str z
  | tup _ ih => exact .tup ih
  | lst h => exact .lst (s _ _ h)
  | dct h => exact .dct (s _ _ h)
theorem Ty.refl {μ : Mem} : Ty μ μ := fun _ _ h => h
theorem Ty.trans {μ μ1 μ2 : Mem} (a : Ty μ μ1) (b : Ty μ1 μ2) : Ty μ μ2 := fun n t h => b n t (a n t h)
theorem Ty.app {μ l : Mem} : Ty μ (μ ++ l) := fun n t h => by
  simp only [tyN] at h ⊢
  cases e : μ[n]? with
  | none => rw [e] at h; cases h
  | some c => rw [app_at e]; rw [e] at h; exact h
theorem Ty.of {μ μ' : Mem} {n m : Nat} (P : Dice μ n m) (P' : Dice μ' n m) (s : Sbn n μ μ') : Ty μ μ' := fun k t h => by
  simp only [tyN] at h ⊢
  by_cases e : k = n
  · subst e
    obtain ⟨i, g, s, t, cs, e1, _⟩ := P.ex
    obtain ⟨i', g', s', t', cs', e1', _⟩ := P'.ex
    rw [e1] at h; rw [e1']; exact h
  · cases e2 : μ[k]? with
    | none => rw [e2] at h; cases h
    | some c => rw [s k c e e2]; rw [e2] at h; exact h
/-- a flag and perhaps some new cells -/
def Says (b : Bool) (μ : Mem) (r : R D) : Prop := ∃ l, r = .ok (.bl b) (μ ++ l)
def btw (lo hi : Int) : D → Bool
  | .int i => decide (lo ≤ i) && decide (i ≤ hi)
  | _ => false
theorem isInt {μ : Mem} {d : D} (g : Good μ d) : dIsi [d, .ty "int"] μ = .ok (.bl (match d with | .int _ => true | .bl _ => true | _ => false)) μ ∧ dIsi [d, .ty "bool"] μ = .ok (.bl (match d with | .bl _ => true | _ => false)) μ := by
  cases g with
  | lst h => simp [dIsi, h, kb_6, kb_16]
  | dct h => simp [dIsi, h, kb_7, kb_17]
  | _ => simp [dIsi, tyN, kb_1, kb_2, kb_3, kb_4, kb_5, kb_11, kb_12, kb_13, kb_14, kb_15]
theorem isTup {μ : Mem} {d : D} (g : Good μ d) : dIsi [d, .ty "tuple"] μ = .ok (.bl (match d with | .tup _ => true | _ => false)) μ := by
  cases g with
  | lst h => simp [dIsi, h, kb_36]
  | dct h => simp [dIsi, h, kb_37]
  | _ => simp [dIsi, tyN, kb_31, kb_32, kb_33, kb_34, kb_35]
theorem isStr {μ : Mem} {d : D} (g : Good μ d) : dIsi [d, .ty "str"] μ = .ok (.bl (match d with | .str _ => true | _ => false)) μ := by
  cases g with
  | lst h => simp [dIsi, h, kb_26]
  | dct h => simp [dIsi, h, kb_27]
  | _ => simp [dIsi, tyN, kb_21, kb_22, kb_23, kb_24, kb_25]
theorem is_integer {μ : Mem} {d : D} (g : Good μ d) : g_is_integer [d] μ = .ok (.bl (match d with | .int _ => true | _ => false)) μ := by
  have h := isInt g
  unfold g_is_integer b_is_integer runB
  simp only [Dv.ap_seq, Dv.ap_next, Dv.ap_ret, Dv.ap_retN, Dv.ap_drop, Dv.ap_break, Dv.ap_cont, Dv.ap_ifS, Dv.ap_asg, Dv.ap_par, Dv.ap_gnm, Dv.ap_gtup, Dv.ap_gcons, Dv.ap_gnil, Dv.ap_gsub, Dv.ap_var, Dv.ap_con, Dv.ap_op, Dv.ap_un, Dv.ap_chain, Dv.ap_and, Dv.ap_or, Dv.ap_not, Dv.ap_if, Dv.ap_test, Dv.ap_bAnd, Dv.ap_bOr, Dv.ap_bNot, Dv.ap_bTru, Dv.ap_bYes, Dv.ap_aNil, Dv.ap_aCons, Dv.ap_tup, Dv.ap_lst, Dv.ap_dct, Dv.ap_B, Dv.ap_call, Dv.ap_call0, Dv.ap_sl, Dv.ap_oNo, Dv.ap_oAt, Dv.ap_me, Dv.ap_me0, Dv.ap_for, Dv.ap_iTup, Dv.ap_iLst, Dv.ap_iStr, Dv.ap_raise0, Dv.ap_raise1, Dv.bind_ok, Dv.toS_ok, Dv.get_ok, Dv.noEx_ok, Dv.onG_some, Dv.then_nx, Dv.then_rt, Option.bind_some, List.set_cons_succ, List.set_cons_zero, List.getElem?_cons_zero, List.getElem?_cons_succ, Dv.dEq_ii, Dv.dEq_ss, Dv.dNe_ii, Dv.dNe_ss, Dv.dLt_ii, Dv.dLe_ii, Dv.dGt_ii, Dv.dGe_ii, Dv.dAddG_ii, Dv.dSub_ii, Dv.int1_i, Dv.abs_i, decide_true, decide_false, Bool.false_eq_true, if_true, if_false, Dv.env0, List.map_cons, List.map_nil, List.length_cons, List.length_nil, List.replicate, List.cons_append, List.nil_append, Nat.zero_add, Nat.reduceAdd, Nat.reduceSub, Dv.len_tup, Dv.len_str, Dv.ix_tup', Dv.tru_bl, Dv.dIsN_n, Dv.dNotN_n, Dv.seqOf_tup, Dv.setOf_tup, beq_self_eq_true, Dv.at0, Dv.at1, Dv.at2, Dv.at3, Dv.at4, Bool.not_true, Bool.not_false, Int.reduceEq, h.1, h.2]
  cases d <;> simp
theorem is_between {μ : Mem} {d : D} {lo hi : Int} (g : Good μ d) : g_is_between [.int lo, .int hi, d] μ = .ok (.bl (btw lo hi d)) μ := by
  unfold g_is_between b_is_between runB
  simp only [Dv.ap_seq, Dv.ap_next, Dv.ap_ret, Dv.ap_retN, Dv.ap_drop, Dv.ap_break, Dv.ap_cont, Dv.ap_ifS, Dv.ap_asg, Dv.ap_par, Dv.ap_gnm, Dv.ap_gtup, Dv.ap_gcons, Dv.ap_gnil, Dv.ap_gsub, Dv.ap_var, Dv.ap_con, Dv.ap_op, Dv.ap_un, Dv.ap_chain, Dv.ap_and, Dv.ap_or, Dv.ap_not, Dv.ap_if, Dv.ap_test, Dv.ap_bAnd, Dv.ap_bOr, Dv.ap_bNot, Dv.ap_bTru, Dv.ap_bYes, Dv.ap_aNil, Dv.ap_aCons, Dv.ap_tup, Dv.ap_lst, Dv.ap_dct, Dv.ap_B, Dv.ap_call, Dv.ap_call0, Dv.ap_sl, Dv.ap_oNo, Dv.ap_oAt, Dv.ap_me, Dv.ap_me0, Dv.ap_for, Dv.ap_iTup, Dv.ap_iLst, Dv.ap_iStr, Dv.ap_raise0, Dv.ap_raise1, Dv.bind_ok, Dv.toS_ok, Dv.get_ok, Dv.noEx_ok, Dv.onG_some, Dv.then_nx, Dv.then_rt, Option.bind_some, List.set_cons_succ, List.set_cons_zero, List.getElem?_cons_zero, List.getElem?_cons_succ, Dv.dEq_ii, Dv.dEq_ss, Dv.dNe_ii, Dv.dNe_ss, Dv.dLt_ii, Dv.dLe_ii, Dv.dGt_ii, Dv.dGe_ii, Dv.dAddG_ii, Dv.dSub_ii, Dv.int1_i, Dv.abs_i, decide_true, decide_false, Bool.false_eq_true, if_true, if_false, Dv.env0, List.map_cons, List.map_nil, List.length_cons, List.length_nil, List.replicate, List.cons_append, List.nil_append, Nat.zero_add, Nat.reduceAdd, Nat.reduceSub, Dv.len_tup, Dv.len_str, Dv.ix_tup', Dv.tru_bl, Dv.dIsN_n, Dv.dNotN_n, Dv.seqOf_tup, Dv.setOf_tup, beq_self_eq_true, Dv.at0, Dv.at1, Dv.at2, Dv.at3, Dv.at4, Bool.not_true, Bool.not_false, Int.reduceEq, is_integer g]
  cases d with
  | int i =>
    simp only [btw]
    simp only [Dv.ap_seq, Dv.ap_next, Dv.ap_ret, Dv.ap_retN, Dv.ap_drop, Dv.ap_break, Dv.ap_cont, Dv.ap_ifS, Dv.ap_asg, Dv.ap_par, Dv.ap_gnm, Dv.ap_gtup, Dv.ap_gcons, Dv.ap_gnil, Dv.ap_gsub, Dv.ap_var, Dv.ap_con, Dv.ap_op, Dv.ap_un, Dv.ap_chain, Dv.ap_and, Dv.ap_or, Dv.ap_not, Dv.ap_if, Dv.ap_test, Dv.ap_bAnd, Dv.ap_bOr, Dv.ap_bNot, Dv.ap_bTru, Dv.ap_bYes, Dv.ap_aNil, Dv.ap_aCons, Dv.ap_tup, Dv.ap_lst, Dv.ap_dct, Dv.ap_B, Dv.ap_call, Dv.ap_call0, Dv.ap_sl, Dv.ap_oNo, Dv.ap_oAt, Dv.ap_me, Dv.ap_me0, Dv.ap_for, Dv.ap_iTup, Dv.ap_iLst, Dv.ap_iStr, Dv.ap_raise0, Dv.ap_raise1, Dv.bind_ok, Dv.toS_ok, Dv.get_ok, Dv.noEx_ok, Dv.onG_some, Dv.then_nx, Dv.then_rt, Option.bind_some, List.set_cons_succ, List.set_cons_zero, List.getElem?_cons_zero, List.getElem?_cons_succ, Dv.dEq_ii, Dv.dEq_ss, Dv.dNe_ii, Dv.dNe_ss, Dv.dLt_ii, Dv.dLe_ii, Dv.dGt_ii, Dv.dGe_ii, Dv.dAddG_ii, Dv.dSub_ii, Dv.int1_i, Dv.abs_i, decide_true, decide_false, Bool.false_eq_true, if_true, if_false, Dv.env0, List.map_cons, List.map_nil, List.length_cons, List.length_nil, List.replicate, List.cons_append, List.nil_append, Nat.zero_add, Nat.reduceAdd, Nat.reduceSub, Dv.len_tup, Dv.len_str, Dv.ix_tup', Dv.tru_bl, Dv.dIsN_n, Dv.dNotN_n, Dv.seqOf_tup, Dv.setOf_tup, beq_self_eq_true, Dv.at0, Dv.at1, Dv.at2, Dv.at3, Dv.at4, Bool.not_true, Bool.not_false, Int.reduceEq]
    by_cases c : lo ≤ i <;> simp [c]
  | _ => simp [btw]
theorem law_is_number {μ : Mem} {d : D} {lo hi : Int} (g : Good μ d) : g__law_is_number [d, .int lo, .int hi] μ = .ok (.bl (btw lo hi d)) μ := by
  have h := isInt g
  unfold g__law_is_number b__law_is_number runB
  simp only [Dv.ap_seq, Dv.ap_next, Dv.ap_ret, Dv.ap_retN, Dv.ap_drop, Dv.ap_break, Dv.ap_cont, Dv.ap_ifS, Dv.ap_asg, Dv.ap_par, Dv.ap_gnm, Dv.ap_gtup, Dv.ap_gcons, Dv.ap_gnil, Dv.ap_gsub, Dv.ap_var, Dv.ap_con, Dv.ap_op, Dv.ap_un, Dv.ap_chain, Dv.ap_and, Dv.ap_or, Dv.ap_not, Dv.ap_if, Dv.ap_test, Dv.ap_bAnd, Dv.ap_bOr, Dv.ap_bNot, Dv.ap_bTru, Dv.ap_bYes, Dv.ap_aNil, Dv.ap_aCons, Dv.ap_tup, Dv.ap_lst, Dv.ap_dct, Dv.ap_B, Dv.ap_call, Dv.ap_call0, Dv.ap_sl, Dv.ap_oNo, Dv.ap_oAt, Dv.ap_me, Dv.ap_me0, Dv.ap_for, Dv.ap_iTup, Dv.ap_iLst, Dv.ap_iStr, Dv.ap_raise0, Dv.ap_raise1, Dv.bind_ok, Dv.toS_ok, Dv.get_ok, Dv.noEx_ok, Dv.onG_some, Dv.then_nx, Dv.then_rt, Option.bind_some, List.set_cons_succ, List.set_cons_zero, List.getElem?_cons_zero, List.getElem?_cons_succ, Dv.dEq_ii, Dv.dEq_ss, Dv.dNe_ii, Dv.dNe_ss, Dv.dLt_ii, Dv.dLe_ii, Dv.dGt_ii, Dv.dGe_ii, Dv.dAddG_ii, Dv.dSub_ii, Dv.int1_i, Dv.abs_i, decide_true, decide_false, Bool.false_eq_true, if_true, if_false, Dv.env0, List.map_cons, List.map_nil, List.length_cons, List.length_nil, List.replicate, List.cons_append, List.nil_append, Nat.zero_add, Nat.reduceAdd, Nat.reduceSub, Dv.len_tup, Dv.len_str, Dv.ix_tup', Dv.tru_bl, Dv.dIsN_n, Dv.dNotN_n, Dv.seqOf_tup, Dv.setOf_tup, beq_self_eq_true, Dv.at0, Dv.at1, Dv.at2, Dv.at3, Dv.at4, Bool.not_true, Bool.not_false, Int.reduceEq, h.1, h.2]
  cases d with
  | int i =>
    simp only [btw]
    simp only [Dv.ap_seq, Dv.ap_next, Dv.ap_ret, Dv.ap_retN, Dv.ap_drop, Dv.ap_break, Dv.ap_cont, Dv.ap_ifS, Dv.ap_asg, Dv.ap_par, Dv.ap_gnm, Dv.ap_gtup, Dv.ap_gcons, Dv.ap_gnil, Dv.ap_gsub, Dv.ap_var, Dv.ap_con, Dv.ap_op, Dv.ap_un, Dv.ap_chain, Dv.ap_and, Dv.ap_or, Dv.ap_not, Dv.ap_if, Dv.ap_test, Dv.ap_bAnd, Dv.ap_bOr, Dv.ap_bNot, Dv.ap_bTru, Dv.ap_bYes, Dv.ap_aNil, Dv.ap_aCons, Dv.ap_tup, Dv.ap_lst, Dv.ap_dct, Dv.ap_B, Dv.ap_call, Dv.ap_call0, Dv.ap_sl, Dv.ap_oNo, Dv.ap_oAt, Dv.ap_me, Dv.ap_me0, Dv.ap_for, Dv.ap_iTup, Dv.ap_iLst, Dv.ap_iStr, Dv.ap_raise0, Dv.ap_raise1, Dv.bind_ok, Dv.toS_ok, Dv.get_ok, Dv.noEx_ok, Dv.onG_some, Dv.then_nx, Dv.then_rt, Option.bind_some, List.set_cons_succ, List.set_cons_zero, List.getElem?_cons_zero, List.getElem?_cons_succ, Dv.dEq_ii, Dv.dEq_ss, Dv.dNe_ii, Dv.dNe_ss, Dv.dLt_ii, Dv.dLe_ii, Dv.dGt_ii, Dv.dGe_ii, Dv.dAddG_ii, Dv.dSub_ii, Dv.int1_i, Dv.abs_i, decide_true, decide_false, Bool.false_eq_true, if_true, if_false, Dv.env0, List.map_cons, List.map_nil, List.length_cons, List.length_nil, List.replicate, List.cons_append, List.nil_append, Nat.zero_add, Nat.reduceAdd, Nat.reduceSub, Dv.len_tup, Dv.len_str, Dv.ix_tup', Dv.tru_bl, Dv.dIsN_n, Dv.dNotN_n, Dv.seqOf_tup, Dv.setOf_tup, beq_self_eq_true, Dv.at0, Dv.at1, Dv.at2, Dv.at3, Dv.at4, Bool.not_true, Bool.not_false, Int.reduceEq]
    by_cases c : lo ≤ i <;> simp [c]
  | _ => simp [btw]
theorem is_tuple_of {μ : Mem} {d : D} {k : Int} (g : Good μ d) : g_is_tuple_of [.int k, d] μ = .ok (.bl (match d with | .tup xs => decide ((xs.length : Int) = k) | _ => false)) μ := by
  unfold g_is_tuple_of b_is_tuple_of runB
  simp only [Dv.ap_seq, Dv.ap_next, Dv.ap_ret, Dv.ap_retN, Dv.ap_drop, Dv.ap_break, Dv.ap_cont, Dv.ap_ifS, Dv.ap_asg, Dv.ap_par, Dv.ap_gnm, Dv.ap_gtup, Dv.ap_gcons, Dv.ap_gnil, Dv.ap_gsub, Dv.ap_var, Dv.ap_con, Dv.ap_op, Dv.ap_un, Dv.ap_chain, Dv.ap_and, Dv.ap_or, Dv.ap_not, Dv.ap_if, Dv.ap_test, Dv.ap_bAnd, Dv.ap_bOr, Dv.ap_bNot, Dv.ap_bTru, Dv.ap_bYes, Dv.ap_aNil, Dv.ap_aCons, Dv.ap_tup, Dv.ap_lst, Dv.ap_dct, Dv.ap_B, Dv.ap_call, Dv.ap_call0, Dv.ap_sl, Dv.ap_oNo, Dv.ap_oAt, Dv.ap_me, Dv.ap_me0, Dv.ap_for, Dv.ap_iTup, Dv.ap_iLst, Dv.ap_iStr, Dv.ap_raise0, Dv.ap_raise1, Dv.bind_ok, Dv.toS_ok, Dv.get_ok, Dv.noEx_ok, Dv.onG_some, Dv.then_nx, Dv.then_rt, Option.bind_some, List.set_cons_succ, List.set_cons_zero, List.getElem?_cons_zero, List.getElem?_cons_succ, Dv.dEq_ii, Dv.dEq_ss, Dv.dNe_ii, Dv.dNe_ss, Dv.dLt_ii, Dv.dLe_ii, Dv.dGt_ii, Dv.dGe_ii, Dv.dAddG_ii, Dv.dSub_ii, Dv.int1_i, Dv.abs_i, decide_true, decide_false, Bool.false_eq_true, if_true, if_false, Dv.env0, List.map_cons, List.map_nil, List.length_cons, List.length_nil, List.replicate, List.cons_append, List.nil_append, Nat.zero_add, Nat.reduceAdd, Nat.reduceSub, Dv.len_tup, Dv.len_str, Dv.ix_tup', Dv.tru_bl, Dv.dIsN_n, Dv.dNotN_n, Dv.seqOf_tup, Dv.setOf_tup, beq_self_eq_true, Dv.at0, Dv.at1, Dv.at2, Dv.at3, Dv.at4, Bool.not_true, Bool.not_false, Int.reduceEq, isTup g]
  cases d with
  | tup xs => simp only [Dv.ap_seq, Dv.ap_next, Dv.ap_ret, Dv.ap_retN, Dv.ap_drop, Dv.ap_break, Dv.ap_cont, Dv.ap_ifS, Dv.ap_asg, Dv.ap_par, Dv.ap_gnm, Dv.ap_gtup, Dv.ap_gcons, Dv.ap_gnil, Dv.ap_gsub, Dv.ap_var, Dv.ap_con, Dv.ap_op, Dv.ap_un, Dv.ap_chain, Dv.ap_and, Dv.ap_or, Dv.ap_not, Dv.ap_if, Dv.ap_test, Dv.ap_bAnd, Dv.ap_bOr, Dv.ap_bNot, Dv.ap_bTru, Dv.ap_bYes, Dv.ap_aNil, Dv.ap_aCons, Dv.ap_tup, Dv.ap_lst, Dv.ap_dct, Dv.ap_B, Dv.ap_call, Dv.ap_call0, Dv.ap_sl, Dv.ap_oNo, Dv.ap_oAt, Dv.ap_me, Dv.ap_me0, Dv.ap_for, Dv.ap_iTup, Dv.ap_iLst, Dv.ap_iStr, Dv.ap_raise0, Dv.ap_raise1, Dv.bind_ok, Dv.toS_ok, Dv.get_ok, Dv.noEx_ok, Dv.onG_some, Dv.then_nx, Dv.then_rt, Option.bind_some, List.set_cons_succ, List.set_cons_zero, List.getElem?_cons_zero, List.getElem?_cons_succ, Dv.dEq_ii, Dv.dEq_ss, Dv.dNe_ii, Dv.dNe_ss, Dv.dLt_ii, Dv.dLe_ii, Dv.dGt_ii, Dv.dGe_ii, Dv.dAddG_ii, Dv.dSub_ii, Dv.int1_i, Dv.abs_i, decide_true, decide_false, Bool.false_eq_true, if_true, if_false, Dv.env0, List.map_cons, List.map_nil, List.length_cons, List.length_nil, List.replicate, List.cons_append, List.nil_append, Nat.zero_add, Nat.reduceAdd, Nat.reduceSub, Dv.len_tup, Dv.len_str, Dv.ix_tup', Dv.tru_bl, Dv.dIsN_n, Dv.dNotN_n, Dv.seqOf_tup, Dv.setOf_tup, beq_self_eq_true, Dv.at0, Dv.at1, Dv.at2, Dv.at3, Dv.at4, Bool.not_true, Bool.not_false, Int.reduceEq]; simp
  | _ => simp
end Law

set_option maxRecDepth 100000
set_option maxHeartbeats 4000000
namespace Law
open PySem PySem.Spec PyProof.Rows L2 Dv
def wordD : D → Bool
  | .str z => (decide (1 ≤ z.length) && decide (z.length ≤ 8)) && lettB 26 z
  | _ => false
def nextsD (letters many : Int) : D → Bool
  | .tup xs => decide ((xs.length : Int) = letters + 1) && xs.all (btw 0 (many - 1))
  | _ => false
theorem strip_eq {z : Str} : decide (Txt.stripChars z "abcdefghijklmnopqrstuvwxyz" = ("" : Str)) = lettB 26 z := by
  rw [← str_letters, Bool.eq_iff_iff, decide_eq_true_iff, decide_eq_true_iff]
  exact ⟨fun h => by rw [h], fun h => V.str.inj h⟩
theorem is_word {μ : Mem} {d : D} (g : Good μ d) : g_is_word [d] μ = .ok (.bl (wordD d)) μ := by
  unfold g_is_word b_is_word runB
  simp only [Dv.ap_seq, Dv.ap_next, Dv.ap_ret, Dv.ap_retN, Dv.ap_drop, Dv.ap_break, Dv.ap_cont, Dv.ap_ifS, Dv.ap_asg, Dv.ap_par, Dv.ap_gnm, Dv.ap_gtup, Dv.ap_gcons, Dv.ap_gnil, Dv.ap_gsub, Dv.ap_var, Dv.ap_con, Dv.ap_op, Dv.ap_un, Dv.ap_chain, Dv.ap_and, Dv.ap_or, Dv.ap_not, Dv.ap_if, Dv.ap_test, Dv.ap_bAnd, Dv.ap_bOr, Dv.ap_bNot, Dv.ap_bTru, Dv.ap_bYes, Dv.ap_aNil, Dv.ap_aCons, Dv.ap_tup, Dv.ap_lst, Dv.ap_dct, Dv.ap_B, Dv.ap_call, Dv.ap_call0, Dv.ap_sl, Dv.ap_oNo, Dv.ap_oAt, Dv.ap_me, Dv.ap_me0, Dv.ap_for, Dv.ap_iTup, Dv.ap_iLst, Dv.ap_iStr, Dv.ap_raise0, Dv.ap_raise1, Dv.bind_ok, Dv.toS_ok, Dv.get_ok, Dv.noEx_ok, Dv.onG_some, Dv.then_nx, Dv.then_rt, Option.bind_some, List.set_cons_succ, List.set_cons_zero, List.getElem?_cons_zero, List.getElem?_cons_succ, Dv.dEq_ii, Dv.dEq_ss, Dv.dNe_ii, Dv.dNe_ss, Dv.dLt_ii, Dv.dLe_ii, Dv.dGt_ii, Dv.dGe_ii, Dv.dAddG_ii, Dv.dSub_ii, Dv.int1_i, Dv.abs_i, decide_true, decide_false, Bool.false_eq_true, if_true, if_false, Dv.env0, List.map_cons, List.map_nil, List.length_cons, List.length_nil, List.replicate, List.cons_append, List.nil_append, Nat.zero_add, Nat.reduceAdd, Nat.reduceSub, Dv.len_tup, Dv.len_str, Dv.ix_tup', Dv.tru_bl, Dv.dIsN_n, Dv.dNotN_n, Dv.seqOf_tup, Dv.setOf_tup, beq_self_eq_true, Dv.at0, Dv.at1, Dv.at2, Dv.at3, Dv.at4, Bool.not_true, Bool.not_false, Int.reduceEq, isStr g]
  cases d with
  | str z =>
    simp only [Dv.ap_seq, Dv.ap_next, Dv.ap_ret, Dv.ap_retN, Dv.ap_drop, Dv.ap_break, Dv.ap_cont, Dv.ap_ifS, Dv.ap_asg, Dv.ap_par, Dv.ap_gnm, Dv.ap_gtup, Dv.ap_gcons, Dv.ap_gnil, Dv.ap_gsub, Dv.ap_var, Dv.ap_con, Dv.ap_op, Dv.ap_un, Dv.ap_chain, Dv.ap_and, Dv.ap_or, Dv.ap_not, Dv.ap_if, Dv.ap_test, Dv.ap_bAnd, Dv.ap_bOr, Dv.ap_bNot, Dv.ap_bTru, Dv.ap_bYes, Dv.ap_aNil, Dv.ap_aCons, Dv.ap_tup, Dv.ap_lst, Dv.ap_dct, Dv.ap_B, Dv.ap_call, Dv.ap_call0, Dv.ap_sl, Dv.ap_oNo, Dv.ap_oAt, Dv.ap_me, Dv.ap_me0, Dv.ap_for, Dv.ap_iTup, Dv.ap_iLst, Dv.ap_iStr, Dv.ap_raise0, Dv.ap_raise1, Dv.bind_ok, Dv.toS_ok, Dv.get_ok, Dv.noEx_ok, Dv.onG_some, Dv.then_nx, Dv.then_rt, Option.bind_some, List.set_cons_succ, List.set_cons_zero, List.getElem?_cons_zero, List.getElem?_cons_succ, Dv.dEq_ii, Dv.dEq_ss, Dv.dNe_ii, Dv.dNe_ss, Dv.dLt_ii, Dv.dLe_ii, Dv.dGt_ii, Dv.dGe_ii, Dv.dAddG_ii, Dv.dSub_ii, Dv.int1_i, Dv.abs_i, decide_true, decide_false, Bool.false_eq_true, if_true, if_false, Dv.env0, List.map_cons, List.map_nil, List.length_cons, List.length_nil, List.replicate, List.cons_append, List.nil_append, Nat.zero_add, Nat.reduceAdd, Nat.reduceSub, Dv.len_tup, Dv.len_str, Dv.ix_tup', Dv.tru_bl, Dv.dIsN_n, Dv.dNotN_n, Dv.seqOf_tup, Dv.setOf_tup, beq_self_eq_true, Dv.at0, Dv.at1, Dv.at2, Dv.at3, Dv.at4, Bool.not_true, Bool.not_false, Int.reduceEq, mStrip, tyM, strip_eq]
    simp only [wordD]
    by_cases c1 : 1 ≤ z.length
    · have c1' : (1 : Int) ≤ (z.length : Int) := by omega
      by_cases c2 : z.length ≤ 8
      · have c2' : (z.length : Int) ≤ 8 := by omega
        simp [c1, c2, c1', c2']
      · have c2' : ¬ (z.length : Int) ≤ 8 := by omega
        simp [c1, c2, c1', c2']
    · have c1' : ¬ (1 : Int) ≤ (z.length : Int) := by omega
      simp [c1, c1']
  | _ => simp [wordD]
theorem dAll_cell {μ : Mem} {n : Nat} {bs : List Bool} (h : μ[n]? = some (.lst (bs.map .bl))) : dAll [.cell n] μ = .ok (.bl (bs.all id)) μ := by
  simp only [dAll, lstOf, h, blsOf_map]
theorem abc_mem (c : Nat) : decide (c ∈ ("abcdefghijklmnopqrstuvwxyz" : Str).cps.toList) = decide (97 ≤ c ∧ (c : Int) < 97 + 26) := by
  have e : ("abcdefghijklmnopqrstuvwxyz" : Str) = ⟨#[97, 98, 99, 100, 101, 102, 103, 104, 105, 106, 107, 108, 109, 110, 111, 112, 113, 114, 115, 116, 117, 118, 119, 120, 121, 122]⟩ := by decide +kernel
  rw [e, Bool.eq_iff_iff]
  simp
  omega
def pL : D → Bool
  | .str z => match z.cps.toList with
    | [c] => decide (97 ≤ c ∧ (c : Int) < 97 + 26)
    | _ => false
  | _ => false
/-- all of what a test tells of each -/
theorem all_pure {f : FI} {v : Nat} {e : F} {env : Dv.Env} {μ μ1 : Mem} {items : List D} {g : List (Nat × List D)} (p : D → Bool) (hf : f env μ = .ok ⟨items, g⟩ μ1) (hg : gok g μ1) (hl : items.length ≤ sizeLine)
    (hs : ∀ x ∈ items, ∀ acc, e (env.set v (some x)) (μ1 ++ [.lst acc]) = .ok (.bl (p x)) (μ1 ++ [.lst acc])) :
    ((fLc f (gNm v) bYes e [v] env μ).bind fun x μ1 => (R.ok [x] μ1 : R (List D))).bind dAll = .ok (.bl (items.all p)) (μ1 ++ [.lst (items.map fun x => .bl (p x))]) := by
  have := lc_pure (φ := fun x => .bl (p x)) hf hg hl hs
  rw [this, bind_ok, bind_ok]
  rw [dAll_cell (bs := items.map p) (by rw [List.map_map]; simp [Function.comp_def])]
  rw [List.all_map]
  rfl
theorem law_is_word {μ : Mem} {d : D} (g : Good μ d) : Says (wordD d) μ (g__law_is_word [d] μ) := by
  unfold g__law_is_word b__law_is_word runB
  cases d with
  | str z =>
    by_cases c1 : 1 ≤ z.length
    · have c1' : (1 : Int) ≤ (z.length : Int) := by omega
      by_cases c2 : z.length ≤ 8
      · have c2' : (z.length : Int) ≤ 8 := by omega
        have h := all_pure (f := iStrD (fVar 0)) (v := 1) (e := fOp (dInG false) (fVar 1) (fCon (.str "abcdefghijklmnopqrstuvwxyz"))) (env := [some (.str z), none]) (μ := μ) (μ1 := μ) (items := z.cps.toList.map fun c => .str ⟨#[c]⟩) (g := []) pL (by simp only [Dv.ap_seq, Dv.ap_next, Dv.ap_ret, Dv.ap_retN, Dv.ap_drop, Dv.ap_break, Dv.ap_cont, Dv.ap_ifS, Dv.ap_asg, Dv.ap_par, Dv.ap_gnm, Dv.ap_gtup, Dv.ap_gcons, Dv.ap_gnil, Dv.ap_gsub, Dv.ap_var, Dv.ap_con, Dv.ap_op, Dv.ap_un, Dv.ap_chain, Dv.ap_and, Dv.ap_or, Dv.ap_not, Dv.ap_if, Dv.ap_test, Dv.ap_bAnd, Dv.ap_bOr, Dv.ap_bNot, Dv.ap_bTru, Dv.ap_bYes, Dv.ap_aNil, Dv.ap_aCons, Dv.ap_tup, Dv.ap_lst, Dv.ap_dct, Dv.ap_B, Dv.ap_call, Dv.ap_call0, Dv.ap_sl, Dv.ap_oNo, Dv.ap_oAt, Dv.ap_me, Dv.ap_me0, Dv.ap_for, Dv.ap_iTup, Dv.ap_iLst, Dv.ap_iStr, Dv.ap_raise0, Dv.ap_raise1, Dv.bind_ok, Dv.toS_ok, Dv.get_ok, Dv.noEx_ok, Dv.onG_some, Dv.then_nx, Dv.then_rt, Option.bind_some, List.set_cons_succ, List.set_cons_zero, List.getElem?_cons_zero, List.getElem?_cons_succ, Dv.dEq_ii, Dv.dEq_ss, Dv.dNe_ii, Dv.dNe_ss, Dv.dLt_ii, Dv.dLe_ii, Dv.dGt_ii, Dv.dGe_ii, Dv.dAddG_ii, Dv.dSub_ii, Dv.int1_i, Dv.abs_i, decide_true, decide_false, Bool.false_eq_true, if_true, if_false, Dv.env0, List.map_cons, List.map_nil, List.length_cons, List.length_nil, List.replicate, List.cons_append, List.nil_append, Nat.zero_add, Nat.reduceAdd, Nat.reduceSub, Dv.len_tup, Dv.len_str, Dv.ix_tup', Dv.tru_bl, Dv.dIsN_n, Dv.dNotN_n, Dv.seqOf_tup, Dv.setOf_tup, beq_self_eq_true, Dv.at0, Dv.at1, Dv.at2, Dv.at3, Dv.at4, Bool.not_true, Bool.not_false, Int.reduceEq]) gok_nil (by rw [List.length_map, ← str_len, sizeLine_eq]; omega) (by
          intro x hx acc
          obtain ⟨c, _, rfl⟩ := List.mem_map.mp hx
          simp only [Dv.ap_seq, Dv.ap_next, Dv.ap_ret, Dv.ap_retN, Dv.ap_drop, Dv.ap_break, Dv.ap_cont, Dv.ap_ifS, Dv.ap_asg, Dv.ap_par, Dv.ap_gnm, Dv.ap_gtup, Dv.ap_gcons, Dv.ap_gnil, Dv.ap_gsub, Dv.ap_var, Dv.ap_con, Dv.ap_op, Dv.ap_un, Dv.ap_chain, Dv.ap_and, Dv.ap_or, Dv.ap_not, Dv.ap_if, Dv.ap_test, Dv.ap_bAnd, Dv.ap_bOr, Dv.ap_bNot, Dv.ap_bTru, Dv.ap_bYes, Dv.ap_aNil, Dv.ap_aCons, Dv.ap_tup, Dv.ap_lst, Dv.ap_dct, Dv.ap_B, Dv.ap_call, Dv.ap_call0, Dv.ap_sl, Dv.ap_oNo, Dv.ap_oAt, Dv.ap_me, Dv.ap_me0, Dv.ap_for, Dv.ap_iTup, Dv.ap_iLst, Dv.ap_iStr, Dv.ap_raise0, Dv.ap_raise1, Dv.bind_ok, Dv.toS_ok, Dv.get_ok, Dv.noEx_ok, Dv.onG_some, Dv.then_nx, Dv.then_rt, Option.bind_some, List.set_cons_succ, List.set_cons_zero, List.getElem?_cons_zero, List.getElem?_cons_succ, Dv.dEq_ii, Dv.dEq_ss, Dv.dNe_ii, Dv.dNe_ss, Dv.dLt_ii, Dv.dLe_ii, Dv.dGt_ii, Dv.dGe_ii, Dv.dAddG_ii, Dv.dSub_ii, Dv.int1_i, Dv.abs_i, decide_true, decide_false, Bool.false_eq_true, if_true, if_false, Dv.env0, List.map_cons, List.map_nil, List.length_cons, List.length_nil, List.replicate, List.cons_append, List.nil_append, Nat.zero_add, Nat.reduceAdd, Nat.reduceSub, Dv.len_tup, Dv.len_str, Dv.ix_tup', Dv.tru_bl, Dv.dIsN_n, Dv.dNotN_n, Dv.seqOf_tup, Dv.setOf_tup, beq_self_eq_true, Dv.at0, Dv.at1, Dv.at2, Dv.at3, Dv.at4, Bool.not_true, Bool.not_false, Int.reduceEq, dInG, dInS, sgn, abc_mem, pL])
        refine ⟨[.lst ((z.cps.toList.map fun c => D.str ⟨#[c]⟩).map fun x => .bl (pL x))], ?_⟩
        rw [ap_seq, ap_ifS]
        simp only [Dv.ap_seq, Dv.ap_next, Dv.ap_ret, Dv.ap_retN, Dv.ap_drop, Dv.ap_break, Dv.ap_cont, Dv.ap_ifS, Dv.ap_asg, Dv.ap_par, Dv.ap_gnm, Dv.ap_gtup, Dv.ap_gcons, Dv.ap_gnil, Dv.ap_gsub, Dv.ap_var, Dv.ap_con, Dv.ap_op, Dv.ap_un, Dv.ap_chain, Dv.ap_and, Dv.ap_or, Dv.ap_not, Dv.ap_if, Dv.ap_test, Dv.ap_bAnd, Dv.ap_bOr, Dv.ap_bNot, Dv.ap_bTru, Dv.ap_bYes, Dv.ap_aNil, Dv.ap_aCons, Dv.ap_tup, Dv.ap_lst, Dv.ap_dct, Dv.ap_B, Dv.ap_call, Dv.ap_call0, Dv.ap_sl, Dv.ap_oNo, Dv.ap_oAt, Dv.ap_me, Dv.ap_me0, Dv.ap_for, Dv.ap_iTup, Dv.ap_iLst, Dv.ap_iStr, Dv.ap_raise0, Dv.ap_raise1, Dv.bind_ok, Dv.toS_ok, Dv.get_ok, Dv.noEx_ok, Dv.onG_some, Dv.then_nx, Dv.then_rt, Option.bind_some, List.set_cons_succ, List.set_cons_zero, List.getElem?_cons_zero, List.getElem?_cons_succ, Dv.dEq_ii, Dv.dEq_ss, Dv.dNe_ii, Dv.dNe_ss, Dv.dLt_ii, Dv.dLe_ii, Dv.dGt_ii, Dv.dGe_ii, Dv.dAddG_ii, Dv.dSub_ii, Dv.int1_i, Dv.abs_i, decide_true, decide_false, Bool.false_eq_true, if_true, if_false, Dv.env0, List.map_cons, List.map_nil, List.length_cons, List.length_nil, List.replicate, List.cons_append, List.nil_append, Nat.zero_add, Nat.reduceAdd, Nat.reduceSub, Dv.len_tup, Dv.len_str, Dv.ix_tup', Dv.tru_bl, Dv.dIsN_n, Dv.dNotN_n, Dv.seqOf_tup, Dv.setOf_tup, beq_self_eq_true, Dv.at0, Dv.at1, Dv.at2, Dv.at3, Dv.at4, Bool.not_true, Bool.not_false, Int.reduceEq, isStr g, Bool.not_true, c1', c2']
        rw [h]
        simp only [wordD, c1, c2, decide_true, Bool.true_and, toS_ok, outS_rt, List.all_map]
        rfl
      · have c2' : ¬ (z.length : Int) ≤ 8 := by omega
        refine ⟨[], ?_⟩
        rw [List.append_nil]
        simp only [Dv.ap_seq, Dv.ap_next, Dv.ap_ret, Dv.ap_retN, Dv.ap_drop, Dv.ap_break, Dv.ap_cont, Dv.ap_ifS, Dv.ap_asg, Dv.ap_par, Dv.ap_gnm, Dv.ap_gtup, Dv.ap_gcons, Dv.ap_gnil, Dv.ap_gsub, Dv.ap_var, Dv.ap_con, Dv.ap_op, Dv.ap_un, Dv.ap_chain, Dv.ap_and, Dv.ap_or, Dv.ap_not, Dv.ap_if, Dv.ap_test, Dv.ap_bAnd, Dv.ap_bOr, Dv.ap_bNot, Dv.ap_bTru, Dv.ap_bYes, Dv.ap_aNil, Dv.ap_aCons, Dv.ap_tup, Dv.ap_lst, Dv.ap_dct, Dv.ap_B, Dv.ap_call, Dv.ap_call0, Dv.ap_sl, Dv.ap_oNo, Dv.ap_oAt, Dv.ap_me, Dv.ap_me0, Dv.ap_for, Dv.ap_iTup, Dv.ap_iLst, Dv.ap_iStr, Dv.ap_raise0, Dv.ap_raise1, Dv.bind_ok, Dv.toS_ok, Dv.get_ok, Dv.noEx_ok, Dv.onG_some, Dv.then_nx, Dv.then_rt, Option.bind_some, List.set_cons_succ, List.set_cons_zero, List.getElem?_cons_zero, List.getElem?_cons_succ, Dv.dEq_ii, Dv.dEq_ss, Dv.dNe_ii, Dv.dNe_ss, Dv.dLt_ii, Dv.dLe_ii, Dv.dGt_ii, Dv.dGe_ii, Dv.dAddG_ii, Dv.dSub_ii, Dv.int1_i, Dv.abs_i, decide_true, decide_false, Bool.false_eq_true, if_true, if_false, Dv.env0, List.map_cons, List.map_nil, List.length_cons, List.length_nil, List.replicate, List.cons_append, List.nil_append, Nat.zero_add, Nat.reduceAdd, Nat.reduceSub, Dv.len_tup, Dv.len_str, Dv.ix_tup', Dv.tru_bl, Dv.dIsN_n, Dv.dNotN_n, Dv.seqOf_tup, Dv.setOf_tup, beq_self_eq_true, Dv.at0, Dv.at1, Dv.at2, Dv.at3, Dv.at4, Bool.not_true, Bool.not_false, Int.reduceEq, isStr g, Bool.not_true, c1', c2']
        simp [wordD, c1, c2]
    · have c1' : ¬ (1 : Int) ≤ (z.length : Int) := by omega
      refine ⟨[], ?_⟩
      rw [List.append_nil]
      simp only [Dv.ap_seq, Dv.ap_next, Dv.ap_ret, Dv.ap_retN, Dv.ap_drop, Dv.ap_break, Dv.ap_cont, Dv.ap_ifS, Dv.ap_asg, Dv.ap_par, Dv.ap_gnm, Dv.ap_gtup, Dv.ap_gcons, Dv.ap_gnil, Dv.ap_gsub, Dv.ap_var, Dv.ap_con, Dv.ap_op, Dv.ap_un, Dv.ap_chain, Dv.ap_and, Dv.ap_or, Dv.ap_not, Dv.ap_if, Dv.ap_test, Dv.ap_bAnd, Dv.ap_bOr, Dv.ap_bNot, Dv.ap_bTru, Dv.ap_bYes, Dv.ap_aNil, Dv.ap_aCons, Dv.ap_tup, Dv.ap_lst, Dv.ap_dct, Dv.ap_B, Dv.ap_call, Dv.ap_call0, Dv.ap_sl, Dv.ap_oNo, Dv.ap_oAt, Dv.ap_me, Dv.ap_me0, Dv.ap_for, Dv.ap_iTup, Dv.ap_iLst, Dv.ap_iStr, Dv.ap_raise0, Dv.ap_raise1, Dv.bind_ok, Dv.toS_ok, Dv.get_ok, Dv.noEx_ok, Dv.onG_some, Dv.then_nx, Dv.then_rt, Option.bind_some, List.set_cons_succ, List.set_cons_zero, List.getElem?_cons_zero, List.getElem?_cons_succ, Dv.dEq_ii, Dv.dEq_ss, Dv.dNe_ii, Dv.dNe_ss, Dv.dLt_ii, Dv.dLe_ii, Dv.dGt_ii, Dv.dGe_ii, Dv.dAddG_ii, Dv.dSub_ii, Dv.int1_i, Dv.abs_i, decide_true, decide_false, Bool.false_eq_true, if_true, if_false, Dv.env0, List.map_cons, List.map_nil, List.length_cons, List.length_nil, List.replicate, List.cons_append, List.nil_append, Nat.zero_add, Nat.reduceAdd, Nat.reduceSub, Dv.len_tup, Dv.len_str, Dv.ix_tup', Dv.tru_bl, Dv.dIsN_n, Dv.dNotN_n, Dv.seqOf_tup, Dv.setOf_tup, beq_self_eq_true, Dv.at0, Dv.at1, Dv.at2, Dv.at3, Dv.at4, Bool.not_true, Bool.not_false, Int.reduceEq, isStr g, Bool.not_true, c1']
      simp [wordD, c1]
  | _ =>
    refine ⟨[], ?_⟩
    rw [List.append_nil]
    simp only [Dv.ap_seq, Dv.ap_next, Dv.ap_ret, Dv.ap_retN, Dv.ap_drop, Dv.ap_break, Dv.ap_cont, Dv.ap_ifS, Dv.ap_asg, Dv.ap_par, Dv.ap_gnm, Dv.ap_gtup, Dv.ap_gcons, Dv.ap_gnil, Dv.ap_gsub, Dv.ap_var, Dv.ap_con, Dv.ap_op, Dv.ap_un, Dv.ap_chain, Dv.ap_and, Dv.ap_or, Dv.ap_not, Dv.ap_if, Dv.ap_test, Dv.ap_bAnd, Dv.ap_bOr, Dv.ap_bNot, Dv.ap_bTru, Dv.ap_bYes, Dv.ap_aNil, Dv.ap_aCons, Dv.ap_tup, Dv.ap_lst, Dv.ap_dct, Dv.ap_B, Dv.ap_call, Dv.ap_call0, Dv.ap_sl, Dv.ap_oNo, Dv.ap_oAt, Dv.ap_me, Dv.ap_me0, Dv.ap_for, Dv.ap_iTup, Dv.ap_iLst, Dv.ap_iStr, Dv.ap_raise0, Dv.ap_raise1, Dv.bind_ok, Dv.toS_ok, Dv.get_ok, Dv.noEx_ok, Dv.onG_some, Dv.then_nx, Dv.then_rt, Option.bind_some, List.set_cons_succ, List.set_cons_zero, List.getElem?_cons_zero, List.getElem?_cons_succ, Dv.dEq_ii, Dv.dEq_ss, Dv.dNe_ii, Dv.dNe_ss, Dv.dLt_ii, Dv.dLe_ii, Dv.dGt_ii, Dv.dGe_ii, Dv.dAddG_ii, Dv.dSub_ii, Dv.int1_i, Dv.abs_i, decide_true, decide_false, Bool.false_eq_true, if_true, if_false, Dv.env0, List.map_cons, List.map_nil, List.length_cons, List.length_nil, List.replicate, List.cons_append, List.nil_append, Nat.zero_add, Nat.reduceAdd, Nat.reduceSub, Dv.len_tup, Dv.len_str, Dv.ix_tup', Dv.tru_bl, Dv.dIsN_n, Dv.dNotN_n, Dv.seqOf_tup, Dv.setOf_tup, beq_self_eq_true, Dv.at0, Dv.at1, Dv.at2, Dv.at3, Dv.at4, Bool.not_true, Bool.not_false, Int.reduceEq, isStr g]
    simp [wordD]
theorem is_nexts {μ : Mem} {d : D} {letters many : Int} (g : Good μ d) : g_is_nexts [.int letters, .int many, d] μ = .ok (.bl (nextsD letters many d)) μ := by
  unfold g_is_nexts b_is_nexts runB
  simp only [Dv.ap_seq, Dv.ap_next, Dv.ap_ret, Dv.ap_retN, Dv.ap_drop, Dv.ap_break, Dv.ap_cont, Dv.ap_ifS, Dv.ap_asg, Dv.ap_par, Dv.ap_gnm, Dv.ap_gtup, Dv.ap_gcons, Dv.ap_gnil, Dv.ap_gsub, Dv.ap_var, Dv.ap_con, Dv.ap_op, Dv.ap_un, Dv.ap_chain, Dv.ap_and, Dv.ap_or, Dv.ap_not, Dv.ap_if, Dv.ap_test, Dv.ap_bAnd, Dv.ap_bOr, Dv.ap_bNot, Dv.ap_bTru, Dv.ap_bYes, Dv.ap_aNil, Dv.ap_aCons, Dv.ap_tup, Dv.ap_lst, Dv.ap_dct, Dv.ap_B, Dv.ap_call, Dv.ap_call0, Dv.ap_sl, Dv.ap_oNo, Dv.ap_oAt, Dv.ap_me, Dv.ap_me0, Dv.ap_for, Dv.ap_iTup, Dv.ap_iLst, Dv.ap_iStr, Dv.ap_raise0, Dv.ap_raise1, Dv.bind_ok, Dv.toS_ok, Dv.get_ok, Dv.noEx_ok, Dv.onG_some, Dv.then_nx, Dv.then_rt, Option.bind_some, List.set_cons_succ, List.set_cons_zero, List.getElem?_cons_zero, List.getElem?_cons_succ, Dv.dEq_ii, Dv.dEq_ss, Dv.dNe_ii, Dv.dNe_ss, Dv.dLt_ii, Dv.dLe_ii, Dv.dGt_ii, Dv.dGe_ii, Dv.dAddG_ii, Dv.dSub_ii, Dv.int1_i, Dv.abs_i, decide_true, decide_false, Bool.false_eq_true, if_true, if_false, Dv.env0, List.map_cons, List.map_nil, List.length_cons, List.length_nil, List.replicate, List.cons_append, List.nil_append, Nat.zero_add, Nat.reduceAdd, Nat.reduceSub, Dv.len_tup, Dv.len_str, Dv.ix_tup', Dv.tru_bl, Dv.dIsN_n, Dv.dNotN_n, Dv.seqOf_tup, Dv.setOf_tup, beq_self_eq_true, Dv.at0, Dv.at1, Dv.at2, Dv.at3, Dv.at4, Bool.not_true, Bool.not_false, Int.reduceEq, is_tuple_of g]
  cases d with
  | tup xs =>
    cases g with
    | tup gs =>
    simp only [nextsD]
    by_cases c : (xs.length : Int) = letters + 1
    · simp only [Dv.ap_seq, Dv.ap_next, Dv.ap_ret, Dv.ap_retN, Dv.ap_drop, Dv.ap_break, Dv.ap_cont, Dv.ap_ifS, Dv.ap_asg, Dv.ap_par, Dv.ap_gnm, Dv.ap_gtup, Dv.ap_gcons, Dv.ap_gnil, Dv.ap_gsub, Dv.ap_var, Dv.ap_con, Dv.ap_op, Dv.ap_un, Dv.ap_chain, Dv.ap_and, Dv.ap_or, Dv.ap_not, Dv.ap_if, Dv.ap_test, Dv.ap_bAnd, Dv.ap_bOr, Dv.ap_bNot, Dv.ap_bTru, Dv.ap_bYes, Dv.ap_aNil, Dv.ap_aCons, Dv.ap_tup, Dv.ap_lst, Dv.ap_dct, Dv.ap_B, Dv.ap_call, Dv.ap_call0, Dv.ap_sl, Dv.ap_oNo, Dv.ap_oAt, Dv.ap_me, Dv.ap_me0, Dv.ap_for, Dv.ap_iTup, Dv.ap_iLst, Dv.ap_iStr, Dv.ap_raise0, Dv.ap_raise1, Dv.bind_ok, Dv.toS_ok, Dv.get_ok, Dv.noEx_ok, Dv.onG_some, Dv.then_nx, Dv.then_rt, Option.bind_some, List.set_cons_succ, List.set_cons_zero, List.getElem?_cons_zero, List.getElem?_cons_succ, Dv.dEq_ii, Dv.dEq_ss, Dv.dNe_ii, Dv.dNe_ss, Dv.dLt_ii, Dv.dLe_ii, Dv.dGt_ii, Dv.dGe_ii, Dv.dAddG_ii, Dv.dSub_ii, Dv.int1_i, Dv.abs_i, decide_true, decide_false, Bool.false_eq_true, if_true, if_false, Dv.env0, List.map_cons, List.map_nil, List.length_cons, List.length_nil, List.replicate, List.cons_append, List.nil_append, Nat.zero_add, Nat.reduceAdd, Nat.reduceSub, Dv.len_tup, Dv.len_str, Dv.ix_tup', Dv.tru_bl, Dv.dIsN_n, Dv.dNotN_n, Dv.seqOf_tup, Dv.setOf_tup, beq_self_eq_true, Dv.at0, Dv.at1, Dv.at2, Dv.at3, Dv.at4, Bool.not_true, Bool.not_false, Int.reduceEq, c, Bool.not_true]
      obtain ⟨env', _, h⟩ := for_all (v := 3) (b := sIf (bNot (bTru (fCall (fun ds μ => if ds.length = 3 then g_is_between ds μ else .no) (aCons (fCon (.int 0)) (aCons (fOp dSub (fVar 1) (fCon (.int 1))) (aCons (fVar 3) aNil)))))) (sRet (fCon (.bl false))) sNext) (μ := μ) (g := []) gok_nil (p := btw 0 (many - 1)) (fun e => ∃ a, e = [some (.int letters), some (.int many), some (.tup xs), a]) xs [some (.int letters), some (.int many), some (.tup xs), none] ⟨_, rfl⟩ (by
        rintro x hx _ ⟨a, rfl⟩
        refine ⟨[some (.int letters), some (.int many), some (.tup xs), some x], ⟨_, rfl⟩, ?_⟩
        simp only [Dv.ap_seq, Dv.ap_next, Dv.ap_ret, Dv.ap_retN, Dv.ap_drop, Dv.ap_break, Dv.ap_cont, Dv.ap_ifS, Dv.ap_asg, Dv.ap_par, Dv.ap_gnm, Dv.ap_gtup, Dv.ap_gcons, Dv.ap_gnil, Dv.ap_gsub, Dv.ap_var, Dv.ap_con, Dv.ap_op, Dv.ap_un, Dv.ap_chain, Dv.ap_and, Dv.ap_or, Dv.ap_not, Dv.ap_if, Dv.ap_test, Dv.ap_bAnd, Dv.ap_bOr, Dv.ap_bNot, Dv.ap_bTru, Dv.ap_bYes, Dv.ap_aNil, Dv.ap_aCons, Dv.ap_tup, Dv.ap_lst, Dv.ap_dct, Dv.ap_B, Dv.ap_call, Dv.ap_call0, Dv.ap_sl, Dv.ap_oNo, Dv.ap_oAt, Dv.ap_me, Dv.ap_me0, Dv.ap_for, Dv.ap_iTup, Dv.ap_iLst, Dv.ap_iStr, Dv.ap_raise0, Dv.ap_raise1, Dv.bind_ok, Dv.toS_ok, Dv.get_ok, Dv.noEx_ok, Dv.onG_some, Dv.then_nx, Dv.then_rt, Option.bind_some, List.set_cons_succ, List.set_cons_zero, List.getElem?_cons_zero, List.getElem?_cons_succ, Dv.dEq_ii, Dv.dEq_ss, Dv.dNe_ii, Dv.dNe_ss, Dv.dLt_ii, Dv.dLe_ii, Dv.dGt_ii, Dv.dGe_ii, Dv.dAddG_ii, Dv.dSub_ii, Dv.int1_i, Dv.abs_i, decide_true, decide_false, Bool.false_eq_true, if_true, if_false, Dv.env0, List.map_cons, List.map_nil, List.length_cons, List.length_nil, List.replicate, List.cons_append, List.nil_append, Nat.zero_add, Nat.reduceAdd, Nat.reduceSub, Dv.len_tup, Dv.len_str, Dv.ix_tup', Dv.tru_bl, Dv.dIsN_n, Dv.dNotN_n, Dv.seqOf_tup, Dv.setOf_tup, beq_self_eq_true, Dv.at0, Dv.at1, Dv.at2, Dv.at3, Dv.at4, Bool.not_true, Bool.not_false, Int.reduceEq, is_between (gs x hx)]
        cases btw 0 (many - 1) x <;> simp)
      rw [h]
      cases xs.all (btw 0 (many - 1)) <;> simp
    · simp only [Dv.ap_seq, Dv.ap_next, Dv.ap_ret, Dv.ap_retN, Dv.ap_drop, Dv.ap_break, Dv.ap_cont, Dv.ap_ifS, Dv.ap_asg, Dv.ap_par, Dv.ap_gnm, Dv.ap_gtup, Dv.ap_gcons, Dv.ap_gnil, Dv.ap_gsub, Dv.ap_var, Dv.ap_con, Dv.ap_op, Dv.ap_un, Dv.ap_chain, Dv.ap_and, Dv.ap_or, Dv.ap_not, Dv.ap_if, Dv.ap_test, Dv.ap_bAnd, Dv.ap_bOr, Dv.ap_bNot, Dv.ap_bTru, Dv.ap_bYes, Dv.ap_aNil, Dv.ap_aCons, Dv.ap_tup, Dv.ap_lst, Dv.ap_dct, Dv.ap_B, Dv.ap_call, Dv.ap_call0, Dv.ap_sl, Dv.ap_oNo, Dv.ap_oAt, Dv.ap_me, Dv.ap_me0, Dv.ap_for, Dv.ap_iTup, Dv.ap_iLst, Dv.ap_iStr, Dv.ap_raise0, Dv.ap_raise1, Dv.bind_ok, Dv.toS_ok, Dv.get_ok, Dv.noEx_ok, Dv.onG_some, Dv.then_nx, Dv.then_rt, Option.bind_some, List.set_cons_succ, List.set_cons_zero, List.getElem?_cons_zero, List.getElem?_cons_succ, Dv.dEq_ii, Dv.dEq_ss, Dv.dNe_ii, Dv.dNe_ss, Dv.dLt_ii, Dv.dLe_ii, Dv.dGt_ii, Dv.dGe_ii, Dv.dAddG_ii, Dv.dSub_ii, Dv.int1_i, Dv.abs_i, decide_true, decide_false, Bool.false_eq_true, if_true, if_false, Dv.env0, List.map_cons, List.map_nil, List.length_cons, List.length_nil, List.replicate, List.cons_append, List.nil_append, Nat.zero_add, Nat.reduceAdd, Nat.reduceSub, Dv.len_tup, Dv.len_str, Dv.ix_tup', Dv.tru_bl, Dv.dIsN_n, Dv.dNotN_n, Dv.seqOf_tup, Dv.setOf_tup, beq_self_eq_true, Dv.at0, Dv.at1, Dv.at2, Dv.at3, Dv.at4, Bool.not_true, Bool.not_false, Int.reduceEq, c, Bool.not_false]
      simp [c]
  | _ => simp only [Dv.ap_seq, Dv.ap_next, Dv.ap_ret, Dv.ap_retN, Dv.ap_drop, Dv.ap_break, Dv.ap_cont, Dv.ap_ifS, Dv.ap_asg, Dv.ap_par, Dv.ap_gnm, Dv.ap_gtup, Dv.ap_gcons, Dv.ap_gnil, Dv.ap_gsub, Dv.ap_var, Dv.ap_con, Dv.ap_op, Dv.ap_un, Dv.ap_chain, Dv.ap_and, Dv.ap_or, Dv.ap_not, Dv.ap_if, Dv.ap_test, Dv.ap_bAnd, Dv.ap_bOr, Dv.ap_bNot, Dv.ap_bTru, Dv.ap_bYes, Dv.ap_aNil, Dv.ap_aCons, Dv.ap_tup, Dv.ap_lst, Dv.ap_dct, Dv.ap_B, Dv.ap_call, Dv.ap_call0, Dv.ap_sl, Dv.ap_oNo, Dv.ap_oAt, Dv.ap_me, Dv.ap_me0, Dv.ap_for, Dv.ap_iTup, Dv.ap_iLst, Dv.ap_iStr, Dv.ap_raise0, Dv.ap_raise1, Dv.bind_ok, Dv.toS_ok, Dv.get_ok, Dv.noEx_ok, Dv.onG_some, Dv.then_nx, Dv.then_rt, Option.bind_some, List.set_cons_succ, List.set_cons_zero, List.getElem?_cons_zero, List.getElem?_cons_succ, Dv.dEq_ii, Dv.dEq_ss, Dv.dNe_ii, Dv.dNe_ss, Dv.dLt_ii, Dv.dLe_ii, Dv.dGt_ii, Dv.dGe_ii, Dv.dAddG_ii, Dv.dSub_ii, Dv.int1_i, Dv.abs_i, decide_true, decide_false, Bool.false_eq_true, if_true, if_false, Dv.env0, List.map_cons, List.map_nil, List.length_cons, List.length_nil, List.replicate, List.cons_append, List.nil_append, Nat.zero_add, Nat.reduceAdd, Nat.reduceSub, Dv.len_tup, Dv.len_str, Dv.ix_tup', Dv.tru_bl, Dv.dIsN_n, Dv.dNotN_n, Dv.seqOf_tup, Dv.setOf_tup, beq_self_eq_true, Dv.at0, Dv.at1, Dv.at2, Dv.at3, Dv.at4, Bool.not_true, Bool.not_false, Int.reduceEq, Bool.not_false]; simp [nextsD]
theorem law_are_nexts {μ : Mem} {d : D} {letters many : Int} (g : Good μ d) (hl : letters ≤ 1000) : Says (nextsD letters many d) μ (g__law_are_nexts [d, .int letters, .int many] μ) := by
  unfold g__law_are_nexts b__law_are_nexts runB
  cases d with
  | tup xs =>
    cases g with
    | tup gs =>
    simp only [nextsD]
    by_cases c : (xs.length : Int) = letters + 1
    · have h := all_pure (f := iTupD (fVar 0)) (v := 3) (e := fCall0 (fun ds μ => if ds.length = 3 then g__law_is_number ds μ else .no) (aCons (fVar 3) (aCons (fCon (.int 0)) (aCons (fOp dSub (fVar 2) (fCon (.int 1))) aNil)))) (env := [some (.tup xs), some (.int letters), some (.int many), none]) (μ := μ) (μ1 := μ) (items := xs) (g := []) (btw 0 (many - 1)) (by simp only [Dv.ap_seq, Dv.ap_next, Dv.ap_ret, Dv.ap_retN, Dv.ap_drop, Dv.ap_break, Dv.ap_cont, Dv.ap_ifS, Dv.ap_asg, Dv.ap_par, Dv.ap_gnm, Dv.ap_gtup, Dv.ap_gcons, Dv.ap_gnil, Dv.ap_gsub, Dv.ap_var, Dv.ap_con, Dv.ap_op, Dv.ap_un, Dv.ap_chain, Dv.ap_and, Dv.ap_or, Dv.ap_not, Dv.ap_if, Dv.ap_test, Dv.ap_bAnd, Dv.ap_bOr, Dv.ap_bNot, Dv.ap_bTru, Dv.ap_bYes, Dv.ap_aNil, Dv.ap_aCons, Dv.ap_tup, Dv.ap_lst, Dv.ap_dct, Dv.ap_B, Dv.ap_call, Dv.ap_call0, Dv.ap_sl, Dv.ap_oNo, Dv.ap_oAt, Dv.ap_me, Dv.ap_me0, Dv.ap_for, Dv.ap_iTup, Dv.ap_iLst, Dv.ap_iStr, Dv.ap_raise0, Dv.ap_raise1, Dv.bind_ok, Dv.toS_ok, Dv.get_ok, Dv.noEx_ok, Dv.onG_some, Dv.then_nx, Dv.then_rt, Option.bind_some, List.set_cons_succ, List.set_cons_zero, List.getElem?_cons_zero, List.getElem?_cons_succ, Dv.dEq_ii, Dv.dEq_ss, Dv.dNe_ii, Dv.dNe_ss, Dv.dLt_ii, Dv.dLe_ii, Dv.dGt_ii, Dv.dGe_ii, Dv.dAddG_ii, Dv.dSub_ii, Dv.int1_i, Dv.abs_i, decide_true, decide_false, Bool.false_eq_true, if_true, if_false, Dv.env0, List.map_cons, List.map_nil, List.length_cons, List.length_nil, List.replicate, List.cons_append, List.nil_append, Nat.zero_add, Nat.reduceAdd, Nat.reduceSub, Dv.len_tup, Dv.len_str, Dv.ix_tup', Dv.tru_bl, Dv.dIsN_n, Dv.dNotN_n, Dv.seqOf_tup, Dv.setOf_tup, beq_self_eq_true, Dv.at0, Dv.at1, Dv.at2, Dv.at3, Dv.at4, Bool.not_true, Bool.not_false, Int.reduceEq]) gok_nil (by rw [sizeLine_eq]; omega) (by
        intro x hx acc
        simp only [Dv.ap_seq, Dv.ap_next, Dv.ap_ret, Dv.ap_retN, Dv.ap_drop, Dv.ap_break, Dv.ap_cont, Dv.ap_ifS, Dv.ap_asg, Dv.ap_par, Dv.ap_gnm, Dv.ap_gtup, Dv.ap_gcons, Dv.ap_gnil, Dv.ap_gsub, Dv.ap_var, Dv.ap_con, Dv.ap_op, Dv.ap_un, Dv.ap_chain, Dv.ap_and, Dv.ap_or, Dv.ap_not, Dv.ap_if, Dv.ap_test, Dv.ap_bAnd, Dv.ap_bOr, Dv.ap_bNot, Dv.ap_bTru, Dv.ap_bYes, Dv.ap_aNil, Dv.ap_aCons, Dv.ap_tup, Dv.ap_lst, Dv.ap_dct, Dv.ap_B, Dv.ap_call, Dv.ap_call0, Dv.ap_sl, Dv.ap_oNo, Dv.ap_oAt, Dv.ap_me, Dv.ap_me0, Dv.ap_for, Dv.ap_iTup, Dv.ap_iLst, Dv.ap_iStr, Dv.ap_raise0, Dv.ap_raise1, Dv.bind_ok, Dv.toS_ok, Dv.get_ok, Dv.noEx_ok, Dv.onG_some, Dv.then_nx, Dv.then_rt, Option.bind_some, List.set_cons_succ, List.set_cons_zero, List.getElem?_cons_zero, List.getElem?_cons_succ, Dv.dEq_ii, Dv.dEq_ss, Dv.dNe_ii, Dv.dNe_ss, Dv.dLt_ii, Dv.dLe_ii, Dv.dGt_ii, Dv.dGe_ii, Dv.dAddG_ii, Dv.dSub_ii, Dv.int1_i, Dv.abs_i, decide_true, decide_false, Bool.false_eq_true, if_true, if_false, Dv.env0, List.map_cons, List.map_nil, List.length_cons, List.length_nil, List.replicate, List.cons_append, List.nil_append, Nat.zero_add, Nat.reduceAdd, Nat.reduceSub, Dv.len_tup, Dv.len_str, Dv.ix_tup', Dv.tru_bl, Dv.dIsN_n, Dv.dNotN_n, Dv.seqOf_tup, Dv.setOf_tup, beq_self_eq_true, Dv.at0, Dv.at1, Dv.at2, Dv.at3, Dv.at4, Bool.not_true, Bool.not_false, Int.reduceEq, law_is_number ((gs x hx).keep (Ty.app (l := [.lst acc])))])
      refine ⟨[.lst (xs.map fun x => .bl (btw 0 (many - 1) x))], ?_⟩
      simp only [Dv.ap_seq, Dv.ap_next, Dv.ap_ret, Dv.ap_retN, Dv.ap_drop, Dv.ap_break, Dv.ap_cont, Dv.ap_ifS, Dv.ap_asg, Dv.ap_par, Dv.ap_gnm, Dv.ap_gtup, Dv.ap_gcons, Dv.ap_gnil, Dv.ap_gsub, Dv.ap_var, Dv.ap_con, Dv.ap_op, Dv.ap_un, Dv.ap_chain, Dv.ap_and, Dv.ap_or, Dv.ap_not, Dv.ap_if, Dv.ap_test, Dv.ap_bAnd, Dv.ap_bOr, Dv.ap_bNot, Dv.ap_bTru, Dv.ap_bYes, Dv.ap_aNil, Dv.ap_aCons, Dv.ap_tup, Dv.ap_lst, Dv.ap_dct, Dv.ap_B, Dv.ap_call, Dv.ap_call0, Dv.ap_sl, Dv.ap_oNo, Dv.ap_oAt, Dv.ap_me, Dv.ap_me0, Dv.ap_for, Dv.ap_iTup, Dv.ap_iLst, Dv.ap_iStr, Dv.ap_raise0, Dv.ap_raise1, Dv.bind_ok, Dv.toS_ok, Dv.get_ok, Dv.noEx_ok, Dv.onG_some, Dv.then_nx, Dv.then_rt, Option.bind_some, List.set_cons_succ, List.set_cons_zero, List.getElem?_cons_zero, List.getElem?_cons_succ, Dv.dEq_ii, Dv.dEq_ss, Dv.dNe_ii, Dv.dNe_ss, Dv.dLt_ii, Dv.dLe_ii, Dv.dGt_ii, Dv.dGe_ii, Dv.dAddG_ii, Dv.dSub_ii, Dv.int1_i, Dv.abs_i, decide_true, decide_false, Bool.false_eq_true, if_true, if_false, Dv.env0, List.map_cons, List.map_nil, List.length_cons, List.length_nil, List.replicate, List.cons_append, List.nil_append, Nat.zero_add, Nat.reduceAdd, Nat.reduceSub, Dv.len_tup, Dv.len_str, Dv.ix_tup', Dv.tru_bl, Dv.dIsN_n, Dv.dNotN_n, Dv.seqOf_tup, Dv.setOf_tup, beq_self_eq_true, Dv.at0, Dv.at1, Dv.at2, Dv.at3, Dv.at4, Bool.not_true, Bool.not_false, Int.reduceEq, isTup (Good.tup gs), Bool.not_true, c, Bool.not_false]
      rw [h]
      simp
    · refine ⟨[], ?_⟩
      rw [List.append_nil]
      simp only [Dv.ap_seq, Dv.ap_next, Dv.ap_ret, Dv.ap_retN, Dv.ap_drop, Dv.ap_break, Dv.ap_cont, Dv.ap_ifS, Dv.ap_asg, Dv.ap_par, Dv.ap_gnm, Dv.ap_gtup, Dv.ap_gcons, Dv.ap_gnil, Dv.ap_gsub, Dv.ap_var, Dv.ap_con, Dv.ap_op, Dv.ap_un, Dv.ap_chain, Dv.ap_and, Dv.ap_or, Dv.ap_not, Dv.ap_if, Dv.ap_test, Dv.ap_bAnd, Dv.ap_bOr, Dv.ap_bNot, Dv.ap_bTru, Dv.ap_bYes, Dv.ap_aNil, Dv.ap_aCons, Dv.ap_tup, Dv.ap_lst, Dv.ap_dct, Dv.ap_B, Dv.ap_call, Dv.ap_call0, Dv.ap_sl, Dv.ap_oNo, Dv.ap_oAt, Dv.ap_me, Dv.ap_me0, Dv.ap_for, Dv.ap_iTup, Dv.ap_iLst, Dv.ap_iStr, Dv.ap_raise0, Dv.ap_raise1, Dv.bind_ok, Dv.toS_ok, Dv.get_ok, Dv.noEx_ok, Dv.onG_some, Dv.then_nx, Dv.then_rt, Option.bind_some, List.set_cons_succ, List.set_cons_zero, List.getElem?_cons_zero, List.getElem?_cons_succ, Dv.dEq_ii, Dv.dEq_ss, Dv.dNe_ii, Dv.dNe_ss, Dv.dLt_ii, Dv.dLe_ii, Dv.dGt_ii, Dv.dGe_ii, Dv.dAddG_ii, Dv.dSub_ii, Dv.int1_i, Dv.abs_i, decide_true, decide_false, Bool.false_eq_true, if_true, if_false, Dv.env0, List.map_cons, List.map_nil, List.length_cons, List.length_nil, List.replicate, List.cons_append, List.nil_append, Nat.zero_add, Nat.reduceAdd, Nat.reduceSub, Dv.len_tup, Dv.len_str, Dv.ix_tup', Dv.tru_bl, Dv.dIsN_n, Dv.dNotN_n, Dv.seqOf_tup, Dv.setOf_tup, beq_self_eq_true, Dv.at0, Dv.at1, Dv.at2, Dv.at3, Dv.at4, Bool.not_true, Bool.not_false, Int.reduceEq, isTup (Good.tup gs), Bool.not_true, c, Bool.not_false]
      simp [c]
  | _ =>
    refine ⟨[], ?_⟩
    rw [List.append_nil]
    simp only [Dv.ap_seq, Dv.ap_next, Dv.ap_ret, Dv.ap_retN, Dv.ap_drop, Dv.ap_break, Dv.ap_cont, Dv.ap_ifS, Dv.ap_asg, Dv.ap_par, Dv.ap_gnm, Dv.ap_gtup, Dv.ap_gcons, Dv.ap_gnil, Dv.ap_gsub, Dv.ap_var, Dv.ap_con, Dv.ap_op, Dv.ap_un, Dv.ap_chain, Dv.ap_and, Dv.ap_or, Dv.ap_not, Dv.ap_if, Dv.ap_test, Dv.ap_bAnd, Dv.ap_bOr, Dv.ap_bNot, Dv.ap_bTru, Dv.ap_bYes, Dv.ap_aNil, Dv.ap_aCons, Dv.ap_tup, Dv.ap_lst, Dv.ap_dct, Dv.ap_B, Dv.ap_call, Dv.ap_call0, Dv.ap_sl, Dv.ap_oNo, Dv.ap_oAt, Dv.ap_me, Dv.ap_me0, Dv.ap_for, Dv.ap_iTup, Dv.ap_iLst, Dv.ap_iStr, Dv.ap_raise0, Dv.ap_raise1, Dv.bind_ok, Dv.toS_ok, Dv.get_ok, Dv.noEx_ok, Dv.onG_some, Dv.then_nx, Dv.then_rt, Option.bind_some, List.set_cons_succ, List.set_cons_zero, List.getElem?_cons_zero, List.getElem?_cons_succ, Dv.dEq_ii, Dv.dEq_ss, Dv.dNe_ii, Dv.dNe_ss, Dv.dLt_ii, Dv.dLe_ii, Dv.dGt_ii, Dv.dGe_ii, Dv.dAddG_ii, Dv.dSub_ii, Dv.int1_i, Dv.abs_i, decide_true, decide_false, Bool.false_eq_true, if_true, if_false, Dv.env0, List.map_cons, List.map_nil, List.length_cons, List.length_nil, List.replicate, List.cons_append, List.nil_append, Nat.zero_add, Nat.reduceAdd, Nat.reduceSub, Dv.len_tup, Dv.len_str, Dv.ix_tup', Dv.tru_bl, Dv.dIsN_n, Dv.dNotN_n, Dv.seqOf_tup, Dv.setOf_tup, beq_self_eq_true, Dv.at0, Dv.at1, Dv.at2, Dv.at3, Dv.at4, Bool.not_true, Bool.not_false, Int.reduceEq, isTup g, Bool.not_false]
    simp [nextsD]
end Law

set_option maxRecDepth 100000
set_option maxHeartbeats 4000000
namespace Law
open PySem PySem.Spec PyProof.Rows L2 Dv
def isItemD (k : Str) (n : Int) : D → Bool
  | .tup (.str z :: r) => decide (((r.length + 1 : Nat) : Int) = n) && decide (z = k)
  | _ => false
def sh3 (k : Str) (f : D → D → Bool) : D → Bool
  | .tup [.str z, b, c] => decide (z = k) && f b c
  | _ => false
theorem is_item {μ : Mem} {d : D} {k : Str} {n : Int} (g : Good μ d) (hn : 1 ≤ n) : g_is_item [.str k, .int n, d] μ = .ok (.bl (isItemD k n d)) μ := by
  unfold g_is_item b_is_item runB
  simp only [Dv.ap_seq, Dv.ap_next, Dv.ap_ret, Dv.ap_retN, Dv.ap_drop, Dv.ap_break, Dv.ap_cont, Dv.ap_ifS, Dv.ap_asg, Dv.ap_par, Dv.ap_gnm, Dv.ap_gtup, Dv.ap_gcons, Dv.ap_gnil, Dv.ap_gsub, Dv.ap_var, Dv.ap_con, Dv.ap_op, Dv.ap_un, Dv.ap_chain, Dv.ap_and, Dv.ap_or, Dv.ap_not, Dv.ap_if, Dv.ap_test, Dv.ap_bAnd, Dv.ap_bOr, Dv.ap_bNot, Dv.ap_bTru, Dv.ap_bYes, Dv.ap_aNil, Dv.ap_aCons, Dv.ap_tup, Dv.ap_lst, Dv.ap_dct, Dv.ap_B, Dv.ap_call, Dv.ap_call0, Dv.ap_sl, Dv.ap_oNo, Dv.ap_oAt, Dv.ap_me, Dv.ap_me0, Dv.ap_for, Dv.ap_iTup, Dv.ap_iLst, Dv.ap_iStr, Dv.ap_raise0, Dv.ap_raise1, Dv.bind_ok, Dv.toS_ok, Dv.get_ok, Dv.noEx_ok, Dv.onG_some, Dv.then_nx, Dv.then_rt, Option.bind_some, List.set_cons_succ, List.set_cons_zero, List.getElem?_cons_zero, List.getElem?_cons_succ, Dv.dEq_ii, Dv.dEq_ss, Dv.dNe_ii, Dv.dNe_ss, Dv.dLt_ii, Dv.dLe_ii, Dv.dGt_ii, Dv.dGe_ii, Dv.dAddG_ii, Dv.dSub_ii, Dv.int1_i, Dv.abs_i, decide_true, decide_false, Bool.false_eq_true, if_true, if_false, Dv.env0, List.map_cons, List.map_nil, List.length_cons, List.length_nil, List.replicate, List.cons_append, List.nil_append, Nat.zero_add, Nat.reduceAdd, Nat.reduceSub, Dv.len_tup, Dv.len_str, Dv.ix_tup', Dv.tru_bl, Dv.dIsN_n, Dv.dNotN_n, Dv.seqOf_tup, Dv.setOf_tup, beq_self_eq_true, Dv.at0, Dv.at1, Dv.at2, Dv.at3, Dv.at4, Bool.not_true, Bool.not_false, Int.reduceEq, is_tuple_of g]
  cases d with
  | tup xs =>
    cases g with
    | tup gs =>
    by_cases c : (xs.length : Int) = n
    · cases xs with
      | nil => simp at c; omega
      | cons x r =>
        simp only [Dv.ap_seq, Dv.ap_next, Dv.ap_ret, Dv.ap_retN, Dv.ap_drop, Dv.ap_break, Dv.ap_cont, Dv.ap_ifS, Dv.ap_asg, Dv.ap_par, Dv.ap_gnm, Dv.ap_gtup, Dv.ap_gcons, Dv.ap_gnil, Dv.ap_gsub, Dv.ap_var, Dv.ap_con, Dv.ap_op, Dv.ap_un, Dv.ap_chain, Dv.ap_and, Dv.ap_or, Dv.ap_not, Dv.ap_if, Dv.ap_test, Dv.ap_bAnd, Dv.ap_bOr, Dv.ap_bNot, Dv.ap_bTru, Dv.ap_bYes, Dv.ap_aNil, Dv.ap_aCons, Dv.ap_tup, Dv.ap_lst, Dv.ap_dct, Dv.ap_B, Dv.ap_call, Dv.ap_call0, Dv.ap_sl, Dv.ap_oNo, Dv.ap_oAt, Dv.ap_me, Dv.ap_me0, Dv.ap_for, Dv.ap_iTup, Dv.ap_iLst, Dv.ap_iStr, Dv.ap_raise0, Dv.ap_raise1, Dv.bind_ok, Dv.toS_ok, Dv.get_ok, Dv.noEx_ok, Dv.onG_some, Dv.then_nx, Dv.then_rt, Option.bind_some, List.set_cons_succ, List.set_cons_zero, List.getElem?_cons_zero, List.getElem?_cons_succ, Dv.dEq_ii, Dv.dEq_ss, Dv.dNe_ii, Dv.dNe_ss, Dv.dLt_ii, Dv.dLe_ii, Dv.dGt_ii, Dv.dGe_ii, Dv.dAddG_ii, Dv.dSub_ii, Dv.int1_i, Dv.abs_i, decide_true, decide_false, Bool.false_eq_true, if_true, if_false, Dv.env0, List.map_cons, List.map_nil, List.length_cons, List.length_nil, List.replicate, List.cons_append, List.nil_append, Nat.zero_add, Nat.reduceAdd, Nat.reduceSub, Dv.len_tup, Dv.len_str, Dv.ix_tup', Dv.tru_bl, Dv.dIsN_n, Dv.dNotN_n, Dv.seqOf_tup, Dv.setOf_tup, beq_self_eq_true, Dv.at0, Dv.at1, Dv.at2, Dv.at3, Dv.at4, Bool.not_true, Bool.not_false, Int.reduceEq, c, isStr (gs x (List.mem_cons_self ..)), Dv.at0]
        cases x with
        | str z =>
          simp only [Dv.ap_seq, Dv.ap_next, Dv.ap_ret, Dv.ap_retN, Dv.ap_drop, Dv.ap_break, Dv.ap_cont, Dv.ap_ifS, Dv.ap_asg, Dv.ap_par, Dv.ap_gnm, Dv.ap_gtup, Dv.ap_gcons, Dv.ap_gnil, Dv.ap_gsub, Dv.ap_var, Dv.ap_con, Dv.ap_op, Dv.ap_un, Dv.ap_chain, Dv.ap_and, Dv.ap_or, Dv.ap_not, Dv.ap_if, Dv.ap_test, Dv.ap_bAnd, Dv.ap_bOr, Dv.ap_bNot, Dv.ap_bTru, Dv.ap_bYes, Dv.ap_aNil, Dv.ap_aCons, Dv.ap_tup, Dv.ap_lst, Dv.ap_dct, Dv.ap_B, Dv.ap_call, Dv.ap_call0, Dv.ap_sl, Dv.ap_oNo, Dv.ap_oAt, Dv.ap_me, Dv.ap_me0, Dv.ap_for, Dv.ap_iTup, Dv.ap_iLst, Dv.ap_iStr, Dv.ap_raise0, Dv.ap_raise1, Dv.bind_ok, Dv.toS_ok, Dv.get_ok, Dv.noEx_ok, Dv.onG_some, Dv.then_nx, Dv.then_rt, Option.bind_some, List.set_cons_succ, List.set_cons_zero, List.getElem?_cons_zero, List.getElem?_cons_succ, Dv.dEq_ii, Dv.dEq_ss, Dv.dNe_ii, Dv.dNe_ss, Dv.dLt_ii, Dv.dLe_ii, Dv.dGt_ii, Dv.dGe_ii, Dv.dAddG_ii, Dv.dSub_ii, Dv.int1_i, Dv.abs_i, decide_true, decide_false, Bool.false_eq_true, if_true, if_false, Dv.env0, List.map_cons, List.map_nil, List.length_cons, List.length_nil, List.replicate, List.cons_append, List.nil_append, Nat.zero_add, Nat.reduceAdd, Nat.reduceSub, Dv.len_tup, Dv.len_str, Dv.ix_tup', Dv.tru_bl, Dv.dIsN_n, Dv.dNotN_n, Dv.seqOf_tup, Dv.setOf_tup, beq_self_eq_true, Dv.at0, Dv.at1, Dv.at2, Dv.at3, Dv.at4, Bool.not_true, Bool.not_false, Int.reduceEq]
          have c' : ((r.length + 1 : Nat) : Int) = n := by simpa using c
          simp only [isItemD, c', decide_true, Bool.true_and]
          rfl
        | _ => simp [isItemD]
    · simp only [Dv.ap_seq, Dv.ap_next, Dv.ap_ret, Dv.ap_retN, Dv.ap_drop, Dv.ap_break, Dv.ap_cont, Dv.ap_ifS, Dv.ap_asg, Dv.ap_par, Dv.ap_gnm, Dv.ap_gtup, Dv.ap_gcons, Dv.ap_gnil, Dv.ap_gsub, Dv.ap_var, Dv.ap_con, Dv.ap_op, Dv.ap_un, Dv.ap_chain, Dv.ap_and, Dv.ap_or, Dv.ap_not, Dv.ap_if, Dv.ap_test, Dv.ap_bAnd, Dv.ap_bOr, Dv.ap_bNot, Dv.ap_bTru, Dv.ap_bYes, Dv.ap_aNil, Dv.ap_aCons, Dv.ap_tup, Dv.ap_lst, Dv.ap_dct, Dv.ap_B, Dv.ap_call, Dv.ap_call0, Dv.ap_sl, Dv.ap_oNo, Dv.ap_oAt, Dv.ap_me, Dv.ap_me0, Dv.ap_for, Dv.ap_iTup, Dv.ap_iLst, Dv.ap_iStr, Dv.ap_raise0, Dv.ap_raise1, Dv.bind_ok, Dv.toS_ok, Dv.get_ok, Dv.noEx_ok, Dv.onG_some, Dv.then_nx, Dv.then_rt, Option.bind_some, List.set_cons_succ, List.set_cons_zero, List.getElem?_cons_zero, List.getElem?_cons_succ, Dv.dEq_ii, Dv.dEq_ss, Dv.dNe_ii, Dv.dNe_ss, Dv.dLt_ii, Dv.dLe_ii, Dv.dGt_ii, Dv.dGe_ii, Dv.dAddG_ii, Dv.dSub_ii, Dv.int1_i, Dv.abs_i, decide_true, decide_false, Bool.false_eq_true, if_true, if_false, Dv.env0, List.map_cons, List.map_nil, List.length_cons, List.length_nil, List.replicate, List.cons_append, List.nil_append, Nat.zero_add, Nat.reduceAdd, Nat.reduceSub, Dv.len_tup, Dv.len_str, Dv.ix_tup', Dv.tru_bl, Dv.dIsN_n, Dv.dNotN_n, Dv.seqOf_tup, Dv.setOf_tup, beq_self_eq_true, Dv.at0, Dv.at1, Dv.at2, Dv.at3, Dv.at4, Bool.not_true, Bool.not_false, Int.reduceEq, c]
      cases xs with
      | nil => simp [isItemD]
      | cons x r => cases x <;> simp [isItemD] <;> intro h <;> exact absurd (by simpa using h) c
  | _ => simp [isItemD]
theorem item3 {k : Str} {d : D} (h : isItemD k 3 d = true) : ∃ b c, d = .tup [.str k, b, c] := by
  match d, h with
  | .tup (.str z :: r), h =>
    simp only [isItemD, Bool.and_eq_true, decide_eq_true_eq] at h
    obtain ⟨h1, rfl⟩ := h
    match r, h1 with
    | [b, c], _ => exact ⟨b, c, rfl⟩
theorem sh3_no {k : Str} {f : D → D → Bool} {d : D} (h : isItemD k 3 d = false) : sh3 k f d = false := by
  unfold sh3
  split
  · rename_i z b c
    simp only [isItemD] at h
    have : decide (z = k) = false := by simpa using h
    rw [this]; rfl
  · rfl
theorem sh3_at {k : Str} {f : D → D → Bool} {b c : D} : sh3 k f (.tup [.str k, b, c]) = f b c := by simp [sh3]
theorem is_numbered {μ : Mem} {d : D} {k : Str} {below letters many : Int} (g : Good μ d) : g_is_numbered [.str k, .int below, .int letters, .int many, d] μ = .ok (.bl (sh3 k (fun b c => btw 0 (below - 1) b && nextsD letters many c) d)) μ := by
  unfold g_is_numbered b_is_numbered runB
  simp only [Dv.ap_seq, Dv.ap_next, Dv.ap_ret, Dv.ap_retN, Dv.ap_drop, Dv.ap_break, Dv.ap_cont, Dv.ap_ifS, Dv.ap_asg, Dv.ap_par, Dv.ap_gnm, Dv.ap_gtup, Dv.ap_gcons, Dv.ap_gnil, Dv.ap_gsub, Dv.ap_var, Dv.ap_con, Dv.ap_op, Dv.ap_un, Dv.ap_chain, Dv.ap_and, Dv.ap_or, Dv.ap_not, Dv.ap_if, Dv.ap_test, Dv.ap_bAnd, Dv.ap_bOr, Dv.ap_bNot, Dv.ap_bTru, Dv.ap_bYes, Dv.ap_aNil, Dv.ap_aCons, Dv.ap_tup, Dv.ap_lst, Dv.ap_dct, Dv.ap_B, Dv.ap_call, Dv.ap_call0, Dv.ap_sl, Dv.ap_oNo, Dv.ap_oAt, Dv.ap_me, Dv.ap_me0, Dv.ap_for, Dv.ap_iTup, Dv.ap_iLst, Dv.ap_iStr, Dv.ap_raise0, Dv.ap_raise1, Dv.bind_ok, Dv.toS_ok, Dv.get_ok, Dv.noEx_ok, Dv.onG_some, Dv.then_nx, Dv.then_rt, Option.bind_some, List.set_cons_succ, List.set_cons_zero, List.getElem?_cons_zero, List.getElem?_cons_succ, Dv.dEq_ii, Dv.dEq_ss, Dv.dNe_ii, Dv.dNe_ss, Dv.dLt_ii, Dv.dLe_ii, Dv.dGt_ii, Dv.dGe_ii, Dv.dAddG_ii, Dv.dSub_ii, Dv.int1_i, Dv.abs_i, decide_true, decide_false, Bool.false_eq_true, if_true, if_false, Dv.env0, List.map_cons, List.map_nil, List.length_cons, List.length_nil, List.replicate, List.cons_append, List.nil_append, Nat.zero_add, Nat.reduceAdd, Nat.reduceSub, Dv.len_tup, Dv.len_str, Dv.ix_tup', Dv.tru_bl, Dv.dIsN_n, Dv.dNotN_n, Dv.seqOf_tup, Dv.setOf_tup, beq_self_eq_true, Dv.at0, Dv.at1, Dv.at2, Dv.at3, Dv.at4, Bool.not_true, Bool.not_false, Int.reduceEq, is_item g (n := 3) (by decide)]
  cases h : isItemD k 3 d with
  | false => simp only [Dv.ap_seq, Dv.ap_next, Dv.ap_ret, Dv.ap_retN, Dv.ap_drop, Dv.ap_break, Dv.ap_cont, Dv.ap_ifS, Dv.ap_asg, Dv.ap_par, Dv.ap_gnm, Dv.ap_gtup, Dv.ap_gcons, Dv.ap_gnil, Dv.ap_gsub, Dv.ap_var, Dv.ap_con, Dv.ap_op, Dv.ap_un, Dv.ap_chain, Dv.ap_and, Dv.ap_or, Dv.ap_not, Dv.ap_if, Dv.ap_test, Dv.ap_bAnd, Dv.ap_bOr, Dv.ap_bNot, Dv.ap_bTru, Dv.ap_bYes, Dv.ap_aNil, Dv.ap_aCons, Dv.ap_tup, Dv.ap_lst, Dv.ap_dct, Dv.ap_B, Dv.ap_call, Dv.ap_call0, Dv.ap_sl, Dv.ap_oNo, Dv.ap_oAt, Dv.ap_me, Dv.ap_me0, Dv.ap_for, Dv.ap_iTup, Dv.ap_iLst, Dv.ap_iStr, Dv.ap_raise0, Dv.ap_raise1, Dv.bind_ok, Dv.toS_ok, Dv.get_ok, Dv.noEx_ok, Dv.onG_some, Dv.then_nx, Dv.then_rt, Option.bind_some, List.set_cons_succ, List.set_cons_zero, List.getElem?_cons_zero, List.getElem?_cons_succ, Dv.dEq_ii, Dv.dEq_ss, Dv.dNe_ii, Dv.dNe_ss, Dv.dLt_ii, Dv.dLe_ii, Dv.dGt_ii, Dv.dGe_ii, Dv.dAddG_ii, Dv.dSub_ii, Dv.int1_i, Dv.abs_i, decide_true, decide_false, Bool.false_eq_true, if_true, if_false, Dv.env0, List.map_cons, List.map_nil, List.length_cons, List.length_nil, List.replicate, List.cons_append, List.nil_append, Nat.zero_add, Nat.reduceAdd, Nat.reduceSub, Dv.len_tup, Dv.len_str, Dv.ix_tup', Dv.tru_bl, Dv.dIsN_n, Dv.dNotN_n, Dv.seqOf_tup, Dv.setOf_tup, beq_self_eq_true, Dv.at0, Dv.at1, Dv.at2, Dv.at3, Dv.at4, Bool.not_true, Bool.not_false, Int.reduceEq]; rw [sh3_no h]; rfl
  | true =>
    obtain ⟨b, c, rfl⟩ := item3 h
    cases g with
    | tup gs =>
    simp only [Dv.ap_seq, Dv.ap_next, Dv.ap_ret, Dv.ap_retN, Dv.ap_drop, Dv.ap_break, Dv.ap_cont, Dv.ap_ifS, Dv.ap_asg, Dv.ap_par, Dv.ap_gnm, Dv.ap_gtup, Dv.ap_gcons, Dv.ap_gnil, Dv.ap_gsub, Dv.ap_var, Dv.ap_con, Dv.ap_op, Dv.ap_un, Dv.ap_chain, Dv.ap_and, Dv.ap_or, Dv.ap_not, Dv.ap_if, Dv.ap_test, Dv.ap_bAnd, Dv.ap_bOr, Dv.ap_bNot, Dv.ap_bTru, Dv.ap_bYes, Dv.ap_aNil, Dv.ap_aCons, Dv.ap_tup, Dv.ap_lst, Dv.ap_dct, Dv.ap_B, Dv.ap_call, Dv.ap_call0, Dv.ap_sl, Dv.ap_oNo, Dv.ap_oAt, Dv.ap_me, Dv.ap_me0, Dv.ap_for, Dv.ap_iTup, Dv.ap_iLst, Dv.ap_iStr, Dv.ap_raise0, Dv.ap_raise1, Dv.bind_ok, Dv.toS_ok, Dv.get_ok, Dv.noEx_ok, Dv.onG_some, Dv.then_nx, Dv.then_rt, Option.bind_some, List.set_cons_succ, List.set_cons_zero, List.getElem?_cons_zero, List.getElem?_cons_succ, Dv.dEq_ii, Dv.dEq_ss, Dv.dNe_ii, Dv.dNe_ss, Dv.dLt_ii, Dv.dLe_ii, Dv.dGt_ii, Dv.dGe_ii, Dv.dAddG_ii, Dv.dSub_ii, Dv.int1_i, Dv.abs_i, decide_true, decide_false, Bool.false_eq_true, if_true, if_false, Dv.env0, List.map_cons, List.map_nil, List.length_cons, List.length_nil, List.replicate, List.cons_append, List.nil_append, Nat.zero_add, Nat.reduceAdd, Nat.reduceSub, Dv.len_tup, Dv.len_str, Dv.ix_tup', Dv.tru_bl, Dv.dIsN_n, Dv.dNotN_n, Dv.seqOf_tup, Dv.setOf_tup, beq_self_eq_true, Dv.at0, Dv.at1, Dv.at2, Dv.at3, Dv.at4, Bool.not_true, Bool.not_false, Int.reduceEq, Dv.at1, Dv.at2, is_between (gs b (by simp)), is_nexts (gs c (by simp)), sh3_at]
    cases btw 0 (below - 1) b <;> simp
theorem is_leave {μ : Mem} {d : D} {hands many : Int} (g : Good μ d) : g_is_leave [.int hands, .int many, d] μ = .ok (.bl (sh3 "leave" (fun b c => btw 0 (hands - 1) b && btw 0 (many - 1) c) d)) μ := by
  unfold g_is_leave b_is_leave runB
  simp only [Dv.ap_seq, Dv.ap_next, Dv.ap_ret, Dv.ap_retN, Dv.ap_drop, Dv.ap_break, Dv.ap_cont, Dv.ap_ifS, Dv.ap_asg, Dv.ap_par, Dv.ap_gnm, Dv.ap_gtup, Dv.ap_gcons, Dv.ap_gnil, Dv.ap_gsub, Dv.ap_var, Dv.ap_con, Dv.ap_op, Dv.ap_un, Dv.ap_chain, Dv.ap_and, Dv.ap_or, Dv.ap_not, Dv.ap_if, Dv.ap_test, Dv.ap_bAnd, Dv.ap_bOr, Dv.ap_bNot, Dv.ap_bTru, Dv.ap_bYes, Dv.ap_aNil, Dv.ap_aCons, Dv.ap_tup, Dv.ap_lst, Dv.ap_dct, Dv.ap_B, Dv.ap_call, Dv.ap_call0, Dv.ap_sl, Dv.ap_oNo, Dv.ap_oAt, Dv.ap_me, Dv.ap_me0, Dv.ap_for, Dv.ap_iTup, Dv.ap_iLst, Dv.ap_iStr, Dv.ap_raise0, Dv.ap_raise1, Dv.bind_ok, Dv.toS_ok, Dv.get_ok, Dv.noEx_ok, Dv.onG_some, Dv.then_nx, Dv.then_rt, Option.bind_some, List.set_cons_succ, List.set_cons_zero, List.getElem?_cons_zero, List.getElem?_cons_succ, Dv.dEq_ii, Dv.dEq_ss, Dv.dNe_ii, Dv.dNe_ss, Dv.dLt_ii, Dv.dLe_ii, Dv.dGt_ii, Dv.dGe_ii, Dv.dAddG_ii, Dv.dSub_ii, Dv.int1_i, Dv.abs_i, decide_true, decide_false, Bool.false_eq_true, if_true, if_false, Dv.env0, List.map_cons, List.map_nil, List.length_cons, List.length_nil, List.replicate, List.cons_append, List.nil_append, Nat.zero_add, Nat.reduceAdd, Nat.reduceSub, Dv.len_tup, Dv.len_str, Dv.ix_tup', Dv.tru_bl, Dv.dIsN_n, Dv.dNotN_n, Dv.seqOf_tup, Dv.setOf_tup, beq_self_eq_true, Dv.at0, Dv.at1, Dv.at2, Dv.at3, Dv.at4, Bool.not_true, Bool.not_false, Int.reduceEq, is_item g (n := 3) (by decide)]
  cases h : isItemD "leave" 3 d with
  | false => simp only [Dv.ap_seq, Dv.ap_next, Dv.ap_ret, Dv.ap_retN, Dv.ap_drop, Dv.ap_break, Dv.ap_cont, Dv.ap_ifS, Dv.ap_asg, Dv.ap_par, Dv.ap_gnm, Dv.ap_gtup, Dv.ap_gcons, Dv.ap_gnil, Dv.ap_gsub, Dv.ap_var, Dv.ap_con, Dv.ap_op, Dv.ap_un, Dv.ap_chain, Dv.ap_and, Dv.ap_or, Dv.ap_not, Dv.ap_if, Dv.ap_test, Dv.ap_bAnd, Dv.ap_bOr, Dv.ap_bNot, Dv.ap_bTru, Dv.ap_bYes, Dv.ap_aNil, Dv.ap_aCons, Dv.ap_tup, Dv.ap_lst, Dv.ap_dct, Dv.ap_B, Dv.ap_call, Dv.ap_call0, Dv.ap_sl, Dv.ap_oNo, Dv.ap_oAt, Dv.ap_me, Dv.ap_me0, Dv.ap_for, Dv.ap_iTup, Dv.ap_iLst, Dv.ap_iStr, Dv.ap_raise0, Dv.ap_raise1, Dv.bind_ok, Dv.toS_ok, Dv.get_ok, Dv.noEx_ok, Dv.onG_some, Dv.then_nx, Dv.then_rt, Option.bind_some, List.set_cons_succ, List.set_cons_zero, List.getElem?_cons_zero, List.getElem?_cons_succ, Dv.dEq_ii, Dv.dEq_ss, Dv.dNe_ii, Dv.dNe_ss, Dv.dLt_ii, Dv.dLe_ii, Dv.dGt_ii, Dv.dGe_ii, Dv.dAddG_ii, Dv.dSub_ii, Dv.int1_i, Dv.abs_i, decide_true, decide_false, Bool.false_eq_true, if_true, if_false, Dv.env0, List.map_cons, List.map_nil, List.length_cons, List.length_nil, List.replicate, List.cons_append, List.nil_append, Nat.zero_add, Nat.reduceAdd, Nat.reduceSub, Dv.len_tup, Dv.len_str, Dv.ix_tup', Dv.tru_bl, Dv.dIsN_n, Dv.dNotN_n, Dv.seqOf_tup, Dv.setOf_tup, beq_self_eq_true, Dv.at0, Dv.at1, Dv.at2, Dv.at3, Dv.at4, Bool.not_true, Bool.not_false, Int.reduceEq]; rw [sh3_no h]; rfl
  | true =>
    obtain ⟨b, c, rfl⟩ := item3 h
    cases g with
    | tup gs =>
    simp only [Dv.ap_seq, Dv.ap_next, Dv.ap_ret, Dv.ap_retN, Dv.ap_drop, Dv.ap_break, Dv.ap_cont, Dv.ap_ifS, Dv.ap_asg, Dv.ap_par, Dv.ap_gnm, Dv.ap_gtup, Dv.ap_gcons, Dv.ap_gnil, Dv.ap_gsub, Dv.ap_var, Dv.ap_con, Dv.ap_op, Dv.ap_un, Dv.ap_chain, Dv.ap_and, Dv.ap_or, Dv.ap_not, Dv.ap_if, Dv.ap_test, Dv.ap_bAnd, Dv.ap_bOr, Dv.ap_bNot, Dv.ap_bTru, Dv.ap_bYes, Dv.ap_aNil, Dv.ap_aCons, Dv.ap_tup, Dv.ap_lst, Dv.ap_dct, Dv.ap_B, Dv.ap_call, Dv.ap_call0, Dv.ap_sl, Dv.ap_oNo, Dv.ap_oAt, Dv.ap_me, Dv.ap_me0, Dv.ap_for, Dv.ap_iTup, Dv.ap_iLst, Dv.ap_iStr, Dv.ap_raise0, Dv.ap_raise1, Dv.bind_ok, Dv.toS_ok, Dv.get_ok, Dv.noEx_ok, Dv.onG_some, Dv.then_nx, Dv.then_rt, Option.bind_some, List.set_cons_succ, List.set_cons_zero, List.getElem?_cons_zero, List.getElem?_cons_succ, Dv.dEq_ii, Dv.dEq_ss, Dv.dNe_ii, Dv.dNe_ss, Dv.dLt_ii, Dv.dLe_ii, Dv.dGt_ii, Dv.dGe_ii, Dv.dAddG_ii, Dv.dSub_ii, Dv.int1_i, Dv.abs_i, decide_true, decide_false, Bool.false_eq_true, if_true, if_false, Dv.env0, List.map_cons, List.map_nil, List.length_cons, List.length_nil, List.replicate, List.cons_append, List.nil_append, Nat.zero_add, Nat.reduceAdd, Nat.reduceSub, Dv.len_tup, Dv.len_str, Dv.ix_tup', Dv.tru_bl, Dv.dIsN_n, Dv.dNotN_n, Dv.seqOf_tup, Dv.setOf_tup, beq_self_eq_true, Dv.at0, Dv.at1, Dv.at2, Dv.at3, Dv.at4, Bool.not_true, Bool.not_false, Int.reduceEq, Dv.at1, Dv.at2, is_between (gs b (by simp)), is_between (gs c (by simp)), sh3_at]
    cases btw 0 (hands - 1) b <;> simp
theorem is_say {μ : Mem} {d : D} {many : Int} (g : Good μ d) : g_is_say [.int many, d] μ = .ok (.bl (sh3 "say" (fun b c => wordD b && btw 0 (many - 1) c) d)) μ := by
  unfold g_is_say b_is_say runB
  simp only [Dv.ap_seq, Dv.ap_next, Dv.ap_ret, Dv.ap_retN, Dv.ap_drop, Dv.ap_break, Dv.ap_cont, Dv.ap_ifS, Dv.ap_asg, Dv.ap_par, Dv.ap_gnm, Dv.ap_gtup, Dv.ap_gcons, Dv.ap_gnil, Dv.ap_gsub, Dv.ap_var, Dv.ap_con, Dv.ap_op, Dv.ap_un, Dv.ap_chain, Dv.ap_and, Dv.ap_or, Dv.ap_not, Dv.ap_if, Dv.ap_test, Dv.ap_bAnd, Dv.ap_bOr, Dv.ap_bNot, Dv.ap_bTru, Dv.ap_bYes, Dv.ap_aNil, Dv.ap_aCons, Dv.ap_tup, Dv.ap_lst, Dv.ap_dct, Dv.ap_B, Dv.ap_call, Dv.ap_call0, Dv.ap_sl, Dv.ap_oNo, Dv.ap_oAt, Dv.ap_me, Dv.ap_me0, Dv.ap_for, Dv.ap_iTup, Dv.ap_iLst, Dv.ap_iStr, Dv.ap_raise0, Dv.ap_raise1, Dv.bind_ok, Dv.toS_ok, Dv.get_ok, Dv.noEx_ok, Dv.onG_some, Dv.then_nx, Dv.then_rt, Option.bind_some, List.set_cons_succ, List.set_cons_zero, List.getElem?_cons_zero, List.getElem?_cons_succ, Dv.dEq_ii, Dv.dEq_ss, Dv.dNe_ii, Dv.dNe_ss, Dv.dLt_ii, Dv.dLe_ii, Dv.dGt_ii, Dv.dGe_ii, Dv.dAddG_ii, Dv.dSub_ii, Dv.int1_i, Dv.abs_i, decide_true, decide_false, Bool.false_eq_true, if_true, if_false, Dv.env0, List.map_cons, List.map_nil, List.length_cons, List.length_nil, List.replicate, List.cons_append, List.nil_append, Nat.zero_add, Nat.reduceAdd, Nat.reduceSub, Dv.len_tup, Dv.len_str, Dv.ix_tup', Dv.tru_bl, Dv.dIsN_n, Dv.dNotN_n, Dv.seqOf_tup, Dv.setOf_tup, beq_self_eq_true, Dv.at0, Dv.at1, Dv.at2, Dv.at3, Dv.at4, Bool.not_true, Bool.not_false, Int.reduceEq, is_item g (n := 3) (by decide)]
  cases h : isItemD "say" 3 d with
  | false => simp only [Dv.ap_seq, Dv.ap_next, Dv.ap_ret, Dv.ap_retN, Dv.ap_drop, Dv.ap_break, Dv.ap_cont, Dv.ap_ifS, Dv.ap_asg, Dv.ap_par, Dv.ap_gnm, Dv.ap_gtup, Dv.ap_gcons, Dv.ap_gnil, Dv.ap_gsub, Dv.ap_var, Dv.ap_con, Dv.ap_op, Dv.ap_un, Dv.ap_chain, Dv.ap_and, Dv.ap_or, Dv.ap_not, Dv.ap_if, Dv.ap_test, Dv.ap_bAnd, Dv.ap_bOr, Dv.ap_bNot, Dv.ap_bTru, Dv.ap_bYes, Dv.ap_aNil, Dv.ap_aCons, Dv.ap_tup, Dv.ap_lst, Dv.ap_dct, Dv.ap_B, Dv.ap_call, Dv.ap_call0, Dv.ap_sl, Dv.ap_oNo, Dv.ap_oAt, Dv.ap_me, Dv.ap_me0, Dv.ap_for, Dv.ap_iTup, Dv.ap_iLst, Dv.ap_iStr, Dv.ap_raise0, Dv.ap_raise1, Dv.bind_ok, Dv.toS_ok, Dv.get_ok, Dv.noEx_ok, Dv.onG_some, Dv.then_nx, Dv.then_rt, Option.bind_some, List.set_cons_succ, List.set_cons_zero, List.getElem?_cons_zero, List.getElem?_cons_succ, Dv.dEq_ii, Dv.dEq_ss, Dv.dNe_ii, Dv.dNe_ss, Dv.dLt_ii, Dv.dLe_ii, Dv.dGt_ii, Dv.dGe_ii, Dv.dAddG_ii, Dv.dSub_ii, Dv.int1_i, Dv.abs_i, decide_true, decide_false, Bool.false_eq_true, if_true, if_false, Dv.env0, List.map_cons, List.map_nil, List.length_cons, List.length_nil, List.replicate, List.cons_append, List.nil_append, Nat.zero_add, Nat.reduceAdd, Nat.reduceSub, Dv.len_tup, Dv.len_str, Dv.ix_tup', Dv.tru_bl, Dv.dIsN_n, Dv.dNotN_n, Dv.seqOf_tup, Dv.setOf_tup, beq_self_eq_true, Dv.at0, Dv.at1, Dv.at2, Dv.at3, Dv.at4, Bool.not_true, Bool.not_false, Int.reduceEq]; rw [sh3_no h]; rfl
  | true =>
    obtain ⟨b, c, rfl⟩ := item3 h
    cases g with
    | tup gs =>
    simp only [Dv.ap_seq, Dv.ap_next, Dv.ap_ret, Dv.ap_retN, Dv.ap_drop, Dv.ap_break, Dv.ap_cont, Dv.ap_ifS, Dv.ap_asg, Dv.ap_par, Dv.ap_gnm, Dv.ap_gtup, Dv.ap_gcons, Dv.ap_gnil, Dv.ap_gsub, Dv.ap_var, Dv.ap_con, Dv.ap_op, Dv.ap_un, Dv.ap_chain, Dv.ap_and, Dv.ap_or, Dv.ap_not, Dv.ap_if, Dv.ap_test, Dv.ap_bAnd, Dv.ap_bOr, Dv.ap_bNot, Dv.ap_bTru, Dv.ap_bYes, Dv.ap_aNil, Dv.ap_aCons, Dv.ap_tup, Dv.ap_lst, Dv.ap_dct, Dv.ap_B, Dv.ap_call, Dv.ap_call0, Dv.ap_sl, Dv.ap_oNo, Dv.ap_oAt, Dv.ap_me, Dv.ap_me0, Dv.ap_for, Dv.ap_iTup, Dv.ap_iLst, Dv.ap_iStr, Dv.ap_raise0, Dv.ap_raise1, Dv.bind_ok, Dv.toS_ok, Dv.get_ok, Dv.noEx_ok, Dv.onG_some, Dv.then_nx, Dv.then_rt, Option.bind_some, List.set_cons_succ, List.set_cons_zero, List.getElem?_cons_zero, List.getElem?_cons_succ, Dv.dEq_ii, Dv.dEq_ss, Dv.dNe_ii, Dv.dNe_ss, Dv.dLt_ii, Dv.dLe_ii, Dv.dGt_ii, Dv.dGe_ii, Dv.dAddG_ii, Dv.dSub_ii, Dv.int1_i, Dv.abs_i, decide_true, decide_false, Bool.false_eq_true, if_true, if_false, Dv.env0, List.map_cons, List.map_nil, List.length_cons, List.length_nil, List.replicate, List.cons_append, List.nil_append, Nat.zero_add, Nat.reduceAdd, Nat.reduceSub, Dv.len_tup, Dv.len_str, Dv.ix_tup', Dv.tru_bl, Dv.dIsN_n, Dv.dNotN_n, Dv.seqOf_tup, Dv.setOf_tup, beq_self_eq_true, Dv.at0, Dv.at1, Dv.at2, Dv.at3, Dv.at4, Bool.not_true, Bool.not_false, Int.reduceEq, Dv.at1, Dv.at2, is_word (gs b (by simp)), is_between (gs c (by simp)), sh3_at]
    cases wordD b <;> simp
theorem is_stop {μ : Mem} {d : D} (g : Good μ d) : g_is_stop [d] μ = .ok (.bl (isItemD "stop" 1 d)) μ := by
  unfold g_is_stop b_is_stop runB
  simp only [Dv.ap_seq, Dv.ap_next, Dv.ap_ret, Dv.ap_retN, Dv.ap_drop, Dv.ap_break, Dv.ap_cont, Dv.ap_ifS, Dv.ap_asg, Dv.ap_par, Dv.ap_gnm, Dv.ap_gtup, Dv.ap_gcons, Dv.ap_gnil, Dv.ap_gsub, Dv.ap_var, Dv.ap_con, Dv.ap_op, Dv.ap_un, Dv.ap_chain, Dv.ap_and, Dv.ap_or, Dv.ap_not, Dv.ap_if, Dv.ap_test, Dv.ap_bAnd, Dv.ap_bOr, Dv.ap_bNot, Dv.ap_bTru, Dv.ap_bYes, Dv.ap_aNil, Dv.ap_aCons, Dv.ap_tup, Dv.ap_lst, Dv.ap_dct, Dv.ap_B, Dv.ap_call, Dv.ap_call0, Dv.ap_sl, Dv.ap_oNo, Dv.ap_oAt, Dv.ap_me, Dv.ap_me0, Dv.ap_for, Dv.ap_iTup, Dv.ap_iLst, Dv.ap_iStr, Dv.ap_raise0, Dv.ap_raise1, Dv.bind_ok, Dv.toS_ok, Dv.get_ok, Dv.noEx_ok, Dv.onG_some, Dv.then_nx, Dv.then_rt, Option.bind_some, List.set_cons_succ, List.set_cons_zero, List.getElem?_cons_zero, List.getElem?_cons_succ, Dv.dEq_ii, Dv.dEq_ss, Dv.dNe_ii, Dv.dNe_ss, Dv.dLt_ii, Dv.dLe_ii, Dv.dGt_ii, Dv.dGe_ii, Dv.dAddG_ii, Dv.dSub_ii, Dv.int1_i, Dv.abs_i, decide_true, decide_false, Bool.false_eq_true, if_true, if_false, Dv.env0, List.map_cons, List.map_nil, List.length_cons, List.length_nil, List.replicate, List.cons_append, List.nil_append, Nat.zero_add, Nat.reduceAdd, Nat.reduceSub, Dv.len_tup, Dv.len_str, Dv.ix_tup', Dv.tru_bl, Dv.dIsN_n, Dv.dNotN_n, Dv.seqOf_tup, Dv.setOf_tup, beq_self_eq_true, Dv.at0, Dv.at1, Dv.at2, Dv.at3, Dv.at4, Bool.not_true, Bool.not_false, Int.reduceEq, is_item g (n := 1) (by decide)]
  rfl
def itemD (rows hands letters many : Int) (d : D) : Bool :=
  (sh3 "begin" (fun b c => btw 0 (rows - 1) b && nextsD letters many c) d || sh3 "on" (fun b c => btw 0 (hands - 1) b && nextsD letters many c) d) || (sh3 "leave" (fun b c => btw 0 (hands - 1) b && btw 0 (many - 1) c) d || (sh3 "say" (fun b c => wordD b && btw 0 (many - 1) c) d || isItemD "stop" 1 d))
def tableD (rows hands letters most : Int) : D → Bool
  | .tup xs => (decide (1 ≤ (xs.length : Int)) && decide ((xs.length : Int) ≤ most)) && xs.all (itemD rows hands letters xs.length)
  | _ => false
theorem is_table {μ : Mem} {d : D} {most : Int} (g : Good μ d) : g_is_table [.int most, d] μ = .ok (.bl (match d with | .tup xs => decide (1 ≤ (xs.length : Int)) && decide ((xs.length : Int) ≤ most) | _ => false)) μ := by
  unfold g_is_table b_is_table runB
  simp only [Dv.ap_seq, Dv.ap_next, Dv.ap_ret, Dv.ap_retN, Dv.ap_drop, Dv.ap_break, Dv.ap_cont, Dv.ap_ifS, Dv.ap_asg, Dv.ap_par, Dv.ap_gnm, Dv.ap_gtup, Dv.ap_gcons, Dv.ap_gnil, Dv.ap_gsub, Dv.ap_var, Dv.ap_con, Dv.ap_op, Dv.ap_un, Dv.ap_chain, Dv.ap_and, Dv.ap_or, Dv.ap_not, Dv.ap_if, Dv.ap_test, Dv.ap_bAnd, Dv.ap_bOr, Dv.ap_bNot, Dv.ap_bTru, Dv.ap_bYes, Dv.ap_aNil, Dv.ap_aCons, Dv.ap_tup, Dv.ap_lst, Dv.ap_dct, Dv.ap_B, Dv.ap_call, Dv.ap_call0, Dv.ap_sl, Dv.ap_oNo, Dv.ap_oAt, Dv.ap_me, Dv.ap_me0, Dv.ap_for, Dv.ap_iTup, Dv.ap_iLst, Dv.ap_iStr, Dv.ap_raise0, Dv.ap_raise1, Dv.bind_ok, Dv.toS_ok, Dv.get_ok, Dv.noEx_ok, Dv.onG_some, Dv.then_nx, Dv.then_rt, Option.bind_some, List.set_cons_succ, List.set_cons_zero, List.getElem?_cons_zero, List.getElem?_cons_succ, Dv.dEq_ii, Dv.dEq_ss, Dv.dNe_ii, Dv.dNe_ss, Dv.dLt_ii, Dv.dLe_ii, Dv.dGt_ii, Dv.dGe_ii, Dv.dAddG_ii, Dv.dSub_ii, Dv.int1_i, Dv.abs_i, decide_true, decide_false, Bool.false_eq_true, if_true, if_false, Dv.env0, List.map_cons, List.map_nil, List.length_cons, List.length_nil, List.replicate, List.cons_append, List.nil_append, Nat.zero_add, Nat.reduceAdd, Nat.reduceSub, Dv.len_tup, Dv.len_str, Dv.ix_tup', Dv.tru_bl, Dv.dIsN_n, Dv.dNotN_n, Dv.seqOf_tup, Dv.setOf_tup, beq_self_eq_true, Dv.at0, Dv.at1, Dv.at2, Dv.at3, Dv.at4, Bool.not_true, Bool.not_false, Int.reduceEq, isTup g]
  cases d with
  | tup xs => simp only [Dv.ap_seq, Dv.ap_next, Dv.ap_ret, Dv.ap_retN, Dv.ap_drop, Dv.ap_break, Dv.ap_cont, Dv.ap_ifS, Dv.ap_asg, Dv.ap_par, Dv.ap_gnm, Dv.ap_gtup, Dv.ap_gcons, Dv.ap_gnil, Dv.ap_gsub, Dv.ap_var, Dv.ap_con, Dv.ap_op, Dv.ap_un, Dv.ap_chain, Dv.ap_and, Dv.ap_or, Dv.ap_not, Dv.ap_if, Dv.ap_test, Dv.ap_bAnd, Dv.ap_bOr, Dv.ap_bNot, Dv.ap_bTru, Dv.ap_bYes, Dv.ap_aNil, Dv.ap_aCons, Dv.ap_tup, Dv.ap_lst, Dv.ap_dct, Dv.ap_B, Dv.ap_call, Dv.ap_call0, Dv.ap_sl, Dv.ap_oNo, Dv.ap_oAt, Dv.ap_me, Dv.ap_me0, Dv.ap_for, Dv.ap_iTup, Dv.ap_iLst, Dv.ap_iStr, Dv.ap_raise0, Dv.ap_raise1, Dv.bind_ok, Dv.toS_ok, Dv.get_ok, Dv.noEx_ok, Dv.onG_some, Dv.then_nx, Dv.then_rt, Option.bind_some, List.set_cons_succ, List.set_cons_zero, List.getElem?_cons_zero, List.getElem?_cons_succ, Dv.dEq_ii, Dv.dEq_ss, Dv.dNe_ii, Dv.dNe_ss, Dv.dLt_ii, Dv.dLe_ii, Dv.dGt_ii, Dv.dGe_ii, Dv.dAddG_ii, Dv.dSub_ii, Dv.int1_i, Dv.abs_i, decide_true, decide_false, Bool.false_eq_true, if_true, if_false, Dv.env0, List.map_cons, List.map_nil, List.length_cons, List.length_nil, List.replicate, List.cons_append, List.nil_append, Nat.zero_add, Nat.reduceAdd, Nat.reduceSub, Dv.len_tup, Dv.len_str, Dv.ix_tup', Dv.tru_bl, Dv.dIsN_n, Dv.dNotN_n, Dv.seqOf_tup, Dv.setOf_tup, beq_self_eq_true, Dv.at0, Dv.at1, Dv.at2, Dv.at3, Dv.at4, Bool.not_true, Bool.not_false, Int.reduceEq]; by_cases c : 1 ≤ (xs.length : Int) <;> simp [c]
  | _ => simp
theorem is_program_table {μ : Mem} {d : D} {rows letters hands : Int} (g : Good μ d) : g_is_program_table [.int rows, .int letters, .int hands, d] μ = .ok (.bl (tableD rows hands letters 20000 d)) μ := by
  unfold g_is_program_table b_is_program_table runB
  simp only [Dv.ap_seq, Dv.ap_next, Dv.ap_ret, Dv.ap_retN, Dv.ap_drop, Dv.ap_break, Dv.ap_cont, Dv.ap_ifS, Dv.ap_asg, Dv.ap_par, Dv.ap_gnm, Dv.ap_gtup, Dv.ap_gcons, Dv.ap_gnil, Dv.ap_gsub, Dv.ap_var, Dv.ap_con, Dv.ap_op, Dv.ap_un, Dv.ap_chain, Dv.ap_and, Dv.ap_or, Dv.ap_not, Dv.ap_if, Dv.ap_test, Dv.ap_bAnd, Dv.ap_bOr, Dv.ap_bNot, Dv.ap_bTru, Dv.ap_bYes, Dv.ap_aNil, Dv.ap_aCons, Dv.ap_tup, Dv.ap_lst, Dv.ap_dct, Dv.ap_B, Dv.ap_call, Dv.ap_call0, Dv.ap_sl, Dv.ap_oNo, Dv.ap_oAt, Dv.ap_me, Dv.ap_me0, Dv.ap_for, Dv.ap_iTup, Dv.ap_iLst, Dv.ap_iStr, Dv.ap_raise0, Dv.ap_raise1, Dv.bind_ok, Dv.toS_ok, Dv.get_ok, Dv.noEx_ok, Dv.onG_some, Dv.then_nx, Dv.then_rt, Option.bind_some, List.set_cons_succ, List.set_cons_zero, List.getElem?_cons_zero, List.getElem?_cons_succ, Dv.dEq_ii, Dv.dEq_ss, Dv.dNe_ii, Dv.dNe_ss, Dv.dLt_ii, Dv.dLe_ii, Dv.dGt_ii, Dv.dGe_ii, Dv.dAddG_ii, Dv.dSub_ii, Dv.int1_i, Dv.abs_i, decide_true, decide_false, Bool.false_eq_true, if_true, if_false, Dv.env0, List.map_cons, List.map_nil, List.length_cons, List.length_nil, List.replicate, List.cons_append, List.nil_append, Nat.zero_add, Nat.reduceAdd, Nat.reduceSub, Dv.len_tup, Dv.len_str, Dv.ix_tup', Dv.tru_bl, Dv.dIsN_n, Dv.dNotN_n, Dv.seqOf_tup, Dv.setOf_tup, beq_self_eq_true, Dv.at0, Dv.at1, Dv.at2, Dv.at3, Dv.at4, Bool.not_true, Bool.not_false, Int.reduceEq, is_table g]
  cases d with
  | tup xs =>
    simp only [tableD]
    by_cases c : (decide (1 ≤ (xs.length : Int)) && decide ((xs.length : Int) ≤ 20000)) = true
    rotate_left
    · have c : (decide (1 ≤ (xs.length : Int)) && decide ((xs.length : Int) ≤ 20000)) = false := by simpa using c
      simp only [Dv.ap_seq, Dv.ap_next, Dv.ap_ret, Dv.ap_retN, Dv.ap_drop, Dv.ap_break, Dv.ap_cont, Dv.ap_ifS, Dv.ap_asg, Dv.ap_par, Dv.ap_gnm, Dv.ap_gtup, Dv.ap_gcons, Dv.ap_gnil, Dv.ap_gsub, Dv.ap_var, Dv.ap_con, Dv.ap_op, Dv.ap_un, Dv.ap_chain, Dv.ap_and, Dv.ap_or, Dv.ap_not, Dv.ap_if, Dv.ap_test, Dv.ap_bAnd, Dv.ap_bOr, Dv.ap_bNot, Dv.ap_bTru, Dv.ap_bYes, Dv.ap_aNil, Dv.ap_aCons, Dv.ap_tup, Dv.ap_lst, Dv.ap_dct, Dv.ap_B, Dv.ap_call, Dv.ap_call0, Dv.ap_sl, Dv.ap_oNo, Dv.ap_oAt, Dv.ap_me, Dv.ap_me0, Dv.ap_for, Dv.ap_iTup, Dv.ap_iLst, Dv.ap_iStr, Dv.ap_raise0, Dv.ap_raise1, Dv.bind_ok, Dv.toS_ok, Dv.get_ok, Dv.noEx_ok, Dv.onG_some, Dv.then_nx, Dv.then_rt, Option.bind_some, List.set_cons_succ, List.set_cons_zero, List.getElem?_cons_zero, List.getElem?_cons_succ, Dv.dEq_ii, Dv.dEq_ss, Dv.dNe_ii, Dv.dNe_ss, Dv.dLt_ii, Dv.dLe_ii, Dv.dGt_ii, Dv.dGe_ii, Dv.dAddG_ii, Dv.dSub_ii, Dv.int1_i, Dv.abs_i, decide_true, decide_false, Bool.false_eq_true, if_true, if_false, Dv.env0, List.map_cons, List.map_nil, List.length_cons, List.length_nil, List.replicate, List.cons_append, List.nil_append, Nat.zero_add, Nat.reduceAdd, Nat.reduceSub, Dv.len_tup, Dv.len_str, Dv.ix_tup', Dv.tru_bl, Dv.dIsN_n, Dv.dNotN_n, Dv.seqOf_tup, Dv.setOf_tup, beq_self_eq_true, Dv.at0, Dv.at1, Dv.at2, Dv.at3, Dv.at4, Bool.not_true, Bool.not_false, Int.reduceEq, c, Bool.not_false]
      rfl
    · simp only [Dv.ap_seq, Dv.ap_next, Dv.ap_ret, Dv.ap_retN, Dv.ap_drop, Dv.ap_break, Dv.ap_cont, Dv.ap_ifS, Dv.ap_asg, Dv.ap_par, Dv.ap_gnm, Dv.ap_gtup, Dv.ap_gcons, Dv.ap_gnil, Dv.ap_gsub, Dv.ap_var, Dv.ap_con, Dv.ap_op, Dv.ap_un, Dv.ap_chain, Dv.ap_and, Dv.ap_or, Dv.ap_not, Dv.ap_if, Dv.ap_test, Dv.ap_bAnd, Dv.ap_bOr, Dv.ap_bNot, Dv.ap_bTru, Dv.ap_bYes, Dv.ap_aNil, Dv.ap_aCons, Dv.ap_tup, Dv.ap_lst, Dv.ap_dct, Dv.ap_B, Dv.ap_call, Dv.ap_call0, Dv.ap_sl, Dv.ap_oNo, Dv.ap_oAt, Dv.ap_me, Dv.ap_me0, Dv.ap_for, Dv.ap_iTup, Dv.ap_iLst, Dv.ap_iStr, Dv.ap_raise0, Dv.ap_raise1, Dv.bind_ok, Dv.toS_ok, Dv.get_ok, Dv.noEx_ok, Dv.onG_some, Dv.then_nx, Dv.then_rt, Option.bind_some, List.set_cons_succ, List.set_cons_zero, List.getElem?_cons_zero, List.getElem?_cons_succ, Dv.dEq_ii, Dv.dEq_ss, Dv.dNe_ii, Dv.dNe_ss, Dv.dLt_ii, Dv.dLe_ii, Dv.dGt_ii, Dv.dGe_ii, Dv.dAddG_ii, Dv.dSub_ii, Dv.int1_i, Dv.abs_i, decide_true, decide_false, Bool.false_eq_true, if_true, if_false, Dv.env0, List.map_cons, List.map_nil, List.length_cons, List.length_nil, List.replicate, List.cons_append, List.nil_append, Nat.zero_add, Nat.reduceAdd, Nat.reduceSub, Dv.len_tup, Dv.len_str, Dv.ix_tup', Dv.tru_bl, Dv.dIsN_n, Dv.dNotN_n, Dv.seqOf_tup, Dv.setOf_tup, beq_self_eq_true, Dv.at0, Dv.at1, Dv.at2, Dv.at3, Dv.at4, Bool.not_true, Bool.not_false, Int.reduceEq, c, Bool.not_true]
      cases g with
      | tup gs =>
      obtain ⟨env', _, h⟩ := for_all (v := 5) (b := (sSeq (sAsg (fOr (fCall (fun ds μ => if ds.length = 5 then g_is_numbered ds μ else .no) (aCons (fCon (.str "begin")) (aCons (fVar 0) (aCons (fVar 1) (aCons (fVar 4) (aCons (fVar 5) aNil)))))) (fCall (fun ds μ => if ds.length = 5 then g_is_numbered ds μ else .no) (aCons (fCon (.str "on")) (aCons (fVar 2) (aCons (fVar 1) (aCons (fVar 4) (aCons (fVar 5) aNil))))))) (gNm 6))
        (sIf (bNot (bOr (bTru (fVar 6)) (bOr (bTru (fCall (fun ds μ => if ds.length = 3 then g_is_leave ds μ else .no) (aCons (fVar 2) (aCons (fVar 4) (aCons (fVar 5) aNil))))) (bOr (bTru (fCall (fun ds μ => if ds.length = 2 then g_is_say ds μ else .no) (aCons (fVar 4) (aCons (fVar 5) aNil)))) (bTru (fCall (fun ds μ => if ds.length = 1 then g_is_stop ds μ else .no) (aCons (fVar 5) aNil))))))) (sRet (fCon (.bl false))) sNext))) (μ := μ) (g := []) gok_nil (p := itemD rows hands letters xs.length) (fun e => ∃ a b, e = [some (.int rows), some (.int letters), some (.int hands), some (.tup xs), some (.int xs.length), a, b]) xs [some (.int rows), some (.int letters), some (.int hands), some (.tup xs), some (.int xs.length), none, none] ⟨_, _, rfl⟩ (by
        rintro x hx _ ⟨a, b, rfl⟩
        refine ⟨[some (.int rows), some (.int letters), some (.int hands), some (.tup xs), some (.int xs.length), some x, some (.bl (sh3 "begin" (fun b c => btw 0 (rows - 1) b && nextsD letters xs.length c) x || sh3 "on" (fun b c => btw 0 (hands - 1) b && nextsD letters xs.length c) x))], ⟨_, _, rfl⟩, ?_⟩
        have gx := gs x hx
        obtain ⟨b1, h1⟩ : ∃ b1, sh3 "begin" (fun b c => btw 0 (rows - 1) b && nextsD letters xs.length c) x = b1 := ⟨_, rfl⟩
        obtain ⟨b2, h2⟩ : ∃ b1, sh3 "on" (fun b c => btw 0 (hands - 1) b && nextsD letters xs.length c) x = b1 := ⟨_, rfl⟩
        obtain ⟨b3, h3⟩ : ∃ b1, sh3 "leave" (fun b c => btw 0 (hands - 1) b && btw 0 (xs.length - 1) c) x = b1 := ⟨_, rfl⟩
        obtain ⟨b4, h4⟩ : ∃ b1, sh3 "say" (fun b c => wordD b && btw 0 (xs.length - 1) c) x = b1 := ⟨_, rfl⟩
        obtain ⟨b5, h5⟩ : ∃ b1, isItemD "stop" 1 x = b1 := ⟨_, rfl⟩
        have q1 := is_numbered (k := "begin") (below := rows) (letters := letters) (many := xs.length) gx
        have q2 := is_numbered (k := "on") (below := hands) (letters := letters) (many := xs.length) gx
        have q3 := is_leave (hands := hands) (many := xs.length) gx
        have q4 := is_say (many := xs.length) gx
        have q5 := is_stop gx
        rw [h1] at q1
        rw [h2] at q2
        rw [h3] at q3
        rw [h4] at q4
        rw [h5] at q5
        simp only [itemD, h1, h2, h3, h4, h5]
        cases b1 <;> cases b2 <;> simp only [Dv.ap_seq, Dv.ap_next, Dv.ap_ret, Dv.ap_retN, Dv.ap_drop, Dv.ap_break, Dv.ap_cont, Dv.ap_ifS, Dv.ap_asg, Dv.ap_par, Dv.ap_gnm, Dv.ap_gtup, Dv.ap_gcons, Dv.ap_gnil, Dv.ap_gsub, Dv.ap_var, Dv.ap_con, Dv.ap_op, Dv.ap_un, Dv.ap_chain, Dv.ap_and, Dv.ap_or, Dv.ap_not, Dv.ap_if, Dv.ap_test, Dv.ap_bAnd, Dv.ap_bOr, Dv.ap_bNot, Dv.ap_bTru, Dv.ap_bYes, Dv.ap_aNil, Dv.ap_aCons, Dv.ap_tup, Dv.ap_lst, Dv.ap_dct, Dv.ap_B, Dv.ap_call, Dv.ap_call0, Dv.ap_sl, Dv.ap_oNo, Dv.ap_oAt, Dv.ap_me, Dv.ap_me0, Dv.ap_for, Dv.ap_iTup, Dv.ap_iLst, Dv.ap_iStr, Dv.ap_raise0, Dv.ap_raise1, Dv.bind_ok, Dv.toS_ok, Dv.get_ok, Dv.noEx_ok, Dv.onG_some, Dv.then_nx, Dv.then_rt, Option.bind_some, List.set_cons_succ, List.set_cons_zero, List.getElem?_cons_zero, List.getElem?_cons_succ, Dv.dEq_ii, Dv.dEq_ss, Dv.dNe_ii, Dv.dNe_ss, Dv.dLt_ii, Dv.dLe_ii, Dv.dGt_ii, Dv.dGe_ii, Dv.dAddG_ii, Dv.dSub_ii, Dv.int1_i, Dv.abs_i, decide_true, decide_false, Bool.false_eq_true, if_true, if_false, Dv.env0, List.map_cons, List.map_nil, List.length_cons, List.length_nil, List.replicate, List.cons_append, List.nil_append, Nat.zero_add, Nat.reduceAdd, Nat.reduceSub, Dv.len_tup, Dv.len_str, Dv.ix_tup', Dv.tru_bl, Dv.dIsN_n, Dv.dNotN_n, Dv.seqOf_tup, Dv.setOf_tup, beq_self_eq_true, Dv.at0, Dv.at1, Dv.at2, Dv.at3, Dv.at4, Bool.not_true, Bool.not_false, Int.reduceEq, q1, q2, q3, q4, q5, Bool.or_true, Bool.or_false, Bool.true_or, Bool.false_or, Bool.not_true, Bool.not_false] <;> (try rfl) <;> cases b3 <;> cases b4 <;> cases b5 <;> rfl)
      rw [h]
      cases xs.all (itemD rows hands letters xs.length) <;> simp
  | _ => simp only [Dv.ap_seq, Dv.ap_next, Dv.ap_ret, Dv.ap_retN, Dv.ap_drop, Dv.ap_break, Dv.ap_cont, Dv.ap_ifS, Dv.ap_asg, Dv.ap_par, Dv.ap_gnm, Dv.ap_gtup, Dv.ap_gcons, Dv.ap_gnil, Dv.ap_gsub, Dv.ap_var, Dv.ap_con, Dv.ap_op, Dv.ap_un, Dv.ap_chain, Dv.ap_and, Dv.ap_or, Dv.ap_not, Dv.ap_if, Dv.ap_test, Dv.ap_bAnd, Dv.ap_bOr, Dv.ap_bNot, Dv.ap_bTru, Dv.ap_bYes, Dv.ap_aNil, Dv.ap_aCons, Dv.ap_tup, Dv.ap_lst, Dv.ap_dct, Dv.ap_B, Dv.ap_call, Dv.ap_call0, Dv.ap_sl, Dv.ap_oNo, Dv.ap_oAt, Dv.ap_me, Dv.ap_me0, Dv.ap_for, Dv.ap_iTup, Dv.ap_iLst, Dv.ap_iStr, Dv.ap_raise0, Dv.ap_raise1, Dv.bind_ok, Dv.toS_ok, Dv.get_ok, Dv.noEx_ok, Dv.onG_some, Dv.then_nx, Dv.then_rt, Option.bind_some, List.set_cons_succ, List.set_cons_zero, List.getElem?_cons_zero, List.getElem?_cons_succ, Dv.dEq_ii, Dv.dEq_ss, Dv.dNe_ii, Dv.dNe_ss, Dv.dLt_ii, Dv.dLe_ii, Dv.dGt_ii, Dv.dGe_ii, Dv.dAddG_ii, Dv.dSub_ii, Dv.int1_i, Dv.abs_i, decide_true, decide_false, Bool.false_eq_true, if_true, if_false, Dv.env0, List.map_cons, List.map_nil, List.length_cons, List.length_nil, List.replicate, List.cons_append, List.nil_append, Nat.zero_add, Nat.reduceAdd, Nat.reduceSub, Dv.len_tup, Dv.len_str, Dv.ix_tup', Dv.tru_bl, Dv.dIsN_n, Dv.dNotN_n, Dv.seqOf_tup, Dv.setOf_tup, beq_self_eq_true, Dv.at0, Dv.at1, Dv.at2, Dv.at3, Dv.at4, Bool.not_true, Bool.not_false, Int.reduceEq, Bool.not_false]; simp [tableD]
end Law

set_option maxRecDepth 100000
set_option maxHeartbeats 4000000
namespace Law
open PySem PySem.Spec PyProof.Rows L2 Dv
/-! ### dealings -/
noncomputable def segB (ns : List Int) : Bool := @decide (∃ n, Seg ns n) (Classical.propDecidable _)
def intsL (xs : List D) : List Int := xs.map fun d => match d with | .int i => i | _ => 0
noncomputable def dealD (rows : Int) : D → Bool
  | .tup xs => decide ((xs.length : Int) = rows) && (xs.all (btw 0 (rows - 1)) && segB (intsL xs))
  | _ => false
theorem all_ints {lo hi : Int} {xs : List D} (h : xs.all (btw lo hi) = true) : xs = (intsL xs).map .int ∧ ∀ i ∈ intsL xs, lo ≤ i ∧ i ≤ hi := by
  induction xs with
  | nil => exact ⟨rfl, fun i h => (nomatch h)⟩
  | cons x r ih =>
    rw [List.all_cons, Bool.and_eq_true] at h
    obtain ⟨h1, h2⟩ := ih h.2
    cases x with
    | int i =>
      have h0 := h.1
      simp only [btw, Bool.and_eq_true, decide_eq_true_eq] at h0
      refine ⟨?_, fun j hj => ?_⟩
      · show _ = D.int i :: (intsL r).map .int
        rw [← h1]
      · have hj : j ∈ i :: intsL r := hj
        rcases List.mem_cons.mp hj with rfl | hj
        · exact h0
        · exact h2 j hj
    | _ => exact absurd h.1 (by simp [btw])
theorem intsL_map {ns : List Int} : intsL (ns.map .int) = ns := by
  unfold intsL; rw [List.map_map]; exact List.map_id _
theorem scan7 {n : Nat} (h : n ≤ 1000) : n + 1 < scanBound := by
  have : 1001 < scanBound := by decide
  omega
theorem card_dedup {ns : List Int} {m : Int} (h0 : ∀ f, f ∈ ns → 0 ≤ f) (hm : maxI ns = some m) : decide (((dedupI ns).length : Int) = m + 1) = segB ns := by
  obtain ⟨m1, m2⟩ := maxI_spec hm
  rw [Bool.eq_iff_iff]
  unfold segB
  rw [decide_eq_true_iff, @decide_eq_true_iff _ (Classical.propDecidable _)]
  exact card_seg (S := fun k => decide (k ∈ ns)) h0 m1 m2 (fun _ => rfl) ⟨dedupI ns, dedupI_nodup, rfl, fun k => by rw [mem_dedupI]; simp⟩
theorem is_dealing {μ : Mem} {d : D} {rows : Int} (g : Good μ d) (r1 : 1 ≤ rows) (r2 : rows ≤ 6) : Says (dealD rows d) μ (g_is_dealing [.int rows, d] μ) := by
  unfold g_is_dealing b_is_dealing runB
  cases d with
  | tup xs =>
    have gs : ∀ x ∈ xs, Good μ x := by cases g with | tup gs => exact gs
    simp only [dealD]
    by_cases c : (xs.length : Int) = rows
    · obtain ⟨env', ⟨a, rfl⟩, h⟩ := for_all (v := 2) (b := sIf (bNot (bTru (fCall (fun ds μ => if ds.length = 3 then g_is_between ds μ else .no) (aCons (fCon (.int 0)) (aCons (fOp dSub (fVar 0) (fCon (.int 1))) (aCons (fVar 2) aNil)))))) (sRet (fCon (.bl false))) sNext) (μ := μ) (g := []) gok_nil (p := btw 0 (rows - 1)) (fun e => ∃ a, e = [some (.int rows), some (.tup xs), a]) xs [some (.int rows), some (.tup xs), none] ⟨_, rfl⟩ (by
        rintro x hx _ ⟨a, rfl⟩
        refine ⟨[some (.int rows), some (.tup xs), some x], ⟨_, rfl⟩, ?_⟩
        simp only [Dv.ap_seq, Dv.ap_next, Dv.ap_ret, Dv.ap_retN, Dv.ap_drop, Dv.ap_break, Dv.ap_cont, Dv.ap_ifS, Dv.ap_asg, Dv.ap_par, Dv.ap_gnm, Dv.ap_gtup, Dv.ap_gcons, Dv.ap_gnil, Dv.ap_gsub, Dv.ap_var, Dv.ap_con, Dv.ap_op, Dv.ap_un, Dv.ap_chain, Dv.ap_and, Dv.ap_or, Dv.ap_not, Dv.ap_if, Dv.ap_test, Dv.ap_bAnd, Dv.ap_bOr, Dv.ap_bNot, Dv.ap_bTru, Dv.ap_bYes, Dv.ap_aNil, Dv.ap_aCons, Dv.ap_tup, Dv.ap_lst, Dv.ap_dct, Dv.ap_B, Dv.ap_call, Dv.ap_call0, Dv.ap_sl, Dv.ap_oNo, Dv.ap_oAt, Dv.ap_me, Dv.ap_me0, Dv.ap_for, Dv.ap_iTup, Dv.ap_iLst, Dv.ap_iStr, Dv.ap_raise0, Dv.ap_raise1, Dv.bind_ok, Dv.toS_ok, Dv.get_ok, Dv.noEx_ok, Dv.onG_some, Dv.then_nx, Dv.then_rt, Option.bind_some, List.set_cons_succ, List.set_cons_zero, List.getElem?_cons_zero, List.getElem?_cons_succ, Dv.dEq_ii, Dv.dEq_ss, Dv.dNe_ii, Dv.dNe_ss, Dv.dLt_ii, Dv.dLe_ii, Dv.dGt_ii, Dv.dGe_ii, Dv.dAddG_ii, Dv.dSub_ii, Dv.int1_i, Dv.abs_i, decide_true, decide_false, Bool.false_eq_true, if_true, if_false, Dv.env0, List.map_cons, List.map_nil, List.length_cons, List.length_nil, List.replicate, List.cons_append, List.nil_append, Nat.zero_add, Nat.reduceAdd, Nat.reduceSub, Dv.len_tup, Dv.len_str, Dv.ix_tup', Dv.tru_bl, Dv.dIsN_n, Dv.dNotN_n, Dv.seqOf_tup, Dv.setOf_tup, beq_self_eq_true, Dv.at0, Dv.at1, Dv.at2, Dv.at3, Dv.at4, Bool.not_true, Bool.not_false, Int.reduceEq, is_between (gs x hx)]
        cases btw 0 (rows - 1) x <;> simp)
      cases e : xs.all (btw 0 (rows - 1)) with
      | false =>
        rw [e] at h
        simp only [Bool.false_eq_true, if_false] at h
        refine ⟨[], ?_⟩
        rw [List.append_nil]
        simp only [Dv.ap_seq, Dv.ap_next, Dv.ap_ret, Dv.ap_retN, Dv.ap_drop, Dv.ap_break, Dv.ap_cont, Dv.ap_ifS, Dv.ap_asg, Dv.ap_par, Dv.ap_gnm, Dv.ap_gtup, Dv.ap_gcons, Dv.ap_gnil, Dv.ap_gsub, Dv.ap_var, Dv.ap_con, Dv.ap_op, Dv.ap_un, Dv.ap_chain, Dv.ap_and, Dv.ap_or, Dv.ap_not, Dv.ap_if, Dv.ap_test, Dv.ap_bAnd, Dv.ap_bOr, Dv.ap_bNot, Dv.ap_bTru, Dv.ap_bYes, Dv.ap_aNil, Dv.ap_aCons, Dv.ap_tup, Dv.ap_lst, Dv.ap_dct, Dv.ap_B, Dv.ap_call, Dv.ap_call0, Dv.ap_sl, Dv.ap_oNo, Dv.ap_oAt, Dv.ap_me, Dv.ap_me0, Dv.ap_for, Dv.ap_iTup, Dv.ap_iLst, Dv.ap_iStr, Dv.ap_raise0, Dv.ap_raise1, Dv.bind_ok, Dv.toS_ok, Dv.get_ok, Dv.noEx_ok, Dv.onG_some, Dv.then_nx, Dv.then_rt, Option.bind_some, List.set_cons_succ, List.set_cons_zero, List.getElem?_cons_zero, List.getElem?_cons_succ, Dv.dEq_ii, Dv.dEq_ss, Dv.dNe_ii, Dv.dNe_ss, Dv.dLt_ii, Dv.dLe_ii, Dv.dGt_ii, Dv.dGe_ii, Dv.dAddG_ii, Dv.dSub_ii, Dv.int1_i, Dv.abs_i, decide_true, decide_false, Bool.false_eq_true, if_true, if_false, Dv.env0, List.map_cons, List.map_nil, List.length_cons, List.length_nil, List.replicate, List.cons_append, List.nil_append, Nat.zero_add, Nat.reduceAdd, Nat.reduceSub, Dv.len_tup, Dv.len_str, Dv.ix_tup', Dv.tru_bl, Dv.dIsN_n, Dv.dNotN_n, Dv.seqOf_tup, Dv.setOf_tup, beq_self_eq_true, Dv.at0, Dv.at1, Dv.at2, Dv.at3, Dv.at4, Bool.not_true, Bool.not_false, Int.reduceEq, is_tuple_of g, c, Bool.not_true, h]
        rfl
      | true =>
        rw [e] at h
        simp only [if_true] at h
        obtain ⟨hx, hb⟩ := all_ints e
        have hl : (intsL xs).length = xs.length := by unfold intsL; rw [List.length_map]
        obtain ⟨m, hm⟩ := maxI_some (ns := intsL xs) (by intro z; rw [z] at hl; simp at hl; omega)
        refine ⟨[.set (dedupI (intsL xs))], ?_⟩
        have hs : dSetT [.tup xs] μ = .ok (.cell μ.length) (μ ++ [.set (dedupI (intsL xs))]) := by
          simp only [dSetT, setTD]
          rw [hx, intsOf_map, intsL_map]
          simp only
          rw [if_pos (scan7 (by omega))]
        have hc : (μ ++ [C.set (dedupI (intsL xs))])[μ.length]? = some (.set (dedupI (intsL xs))) := by simp
        have hlen : dLenG [.cell μ.length] (μ ++ [.set (dedupI (intsL xs))]) = .ok (.int ((dedupI (intsL xs)).length : Int)) (μ ++ [.set (dedupI (intsL xs))]) := by
          simp only [dLenG, setOf, hc]
        have hmx : ∀ μ', dMaxG [.tup xs] μ' = .ok (.int m) μ' := fun μ' => by rw [hx]; exact max_tup hm
        simp only [Dv.ap_seq, Dv.ap_next, Dv.ap_ret, Dv.ap_retN, Dv.ap_drop, Dv.ap_break, Dv.ap_cont, Dv.ap_ifS, Dv.ap_asg, Dv.ap_par, Dv.ap_gnm, Dv.ap_gtup, Dv.ap_gcons, Dv.ap_gnil, Dv.ap_gsub, Dv.ap_var, Dv.ap_con, Dv.ap_op, Dv.ap_un, Dv.ap_chain, Dv.ap_and, Dv.ap_or, Dv.ap_not, Dv.ap_if, Dv.ap_test, Dv.ap_bAnd, Dv.ap_bOr, Dv.ap_bNot, Dv.ap_bTru, Dv.ap_bYes, Dv.ap_aNil, Dv.ap_aCons, Dv.ap_tup, Dv.ap_lst, Dv.ap_dct, Dv.ap_B, Dv.ap_call, Dv.ap_call0, Dv.ap_sl, Dv.ap_oNo, Dv.ap_oAt, Dv.ap_me, Dv.ap_me0, Dv.ap_for, Dv.ap_iTup, Dv.ap_iLst, Dv.ap_iStr, Dv.ap_raise0, Dv.ap_raise1, Dv.bind_ok, Dv.toS_ok, Dv.get_ok, Dv.noEx_ok, Dv.onG_some, Dv.then_nx, Dv.then_rt, Option.bind_some, List.set_cons_succ, List.set_cons_zero, List.getElem?_cons_zero, List.getElem?_cons_succ, Dv.dEq_ii, Dv.dEq_ss, Dv.dNe_ii, Dv.dNe_ss, Dv.dLt_ii, Dv.dLe_ii, Dv.dGt_ii, Dv.dGe_ii, Dv.dAddG_ii, Dv.dSub_ii, Dv.int1_i, Dv.abs_i, decide_true, decide_false, Bool.false_eq_true, if_true, if_false, Dv.env0, List.map_cons, List.map_nil, List.length_cons, List.length_nil, List.replicate, List.cons_append, List.nil_append, Nat.zero_add, Nat.reduceAdd, Nat.reduceSub, Dv.len_tup, Dv.len_str, Dv.ix_tup', Dv.tru_bl, Dv.dIsN_n, Dv.dNotN_n, Dv.seqOf_tup, Dv.setOf_tup, beq_self_eq_true, Dv.at0, Dv.at1, Dv.at2, Dv.at3, Dv.at4, Bool.not_true, Bool.not_false, Int.reduceEq, is_tuple_of g, c, Bool.not_true, h, hs, hlen, hmx, outS_rt, Bool.true_and, card_dedup (fun f hf => (hb f hf).1) hm]
    · refine ⟨[], ?_⟩
      rw [List.append_nil]
      simp only [Dv.ap_seq, Dv.ap_next, Dv.ap_ret, Dv.ap_retN, Dv.ap_drop, Dv.ap_break, Dv.ap_cont, Dv.ap_ifS, Dv.ap_asg, Dv.ap_par, Dv.ap_gnm, Dv.ap_gtup, Dv.ap_gcons, Dv.ap_gnil, Dv.ap_gsub, Dv.ap_var, Dv.ap_con, Dv.ap_op, Dv.ap_un, Dv.ap_chain, Dv.ap_and, Dv.ap_or, Dv.ap_not, Dv.ap_if, Dv.ap_test, Dv.ap_bAnd, Dv.ap_bOr, Dv.ap_bNot, Dv.ap_bTru, Dv.ap_bYes, Dv.ap_aNil, Dv.ap_aCons, Dv.ap_tup, Dv.ap_lst, Dv.ap_dct, Dv.ap_B, Dv.ap_call, Dv.ap_call0, Dv.ap_sl, Dv.ap_oNo, Dv.ap_oAt, Dv.ap_me, Dv.ap_me0, Dv.ap_for, Dv.ap_iTup, Dv.ap_iLst, Dv.ap_iStr, Dv.ap_raise0, Dv.ap_raise1, Dv.bind_ok, Dv.toS_ok, Dv.get_ok, Dv.noEx_ok, Dv.onG_some, Dv.then_nx, Dv.then_rt, Option.bind_some, List.set_cons_succ, List.set_cons_zero, List.getElem?_cons_zero, List.getElem?_cons_succ, Dv.dEq_ii, Dv.dEq_ss, Dv.dNe_ii, Dv.dNe_ss, Dv.dLt_ii, Dv.dLe_ii, Dv.dGt_ii, Dv.dGe_ii, Dv.dAddG_ii, Dv.dSub_ii, Dv.int1_i, Dv.abs_i, decide_true, decide_false, Bool.false_eq_true, if_true, if_false, Dv.env0, List.map_cons, List.map_nil, List.length_cons, List.length_nil, List.replicate, List.cons_append, List.nil_append, Nat.zero_add, Nat.reduceAdd, Nat.reduceSub, Dv.len_tup, Dv.len_str, Dv.ix_tup', Dv.tru_bl, Dv.dIsN_n, Dv.dNotN_n, Dv.seqOf_tup, Dv.setOf_tup, beq_self_eq_true, Dv.at0, Dv.at1, Dv.at2, Dv.at3, Dv.at4, Bool.not_true, Bool.not_false, Int.reduceEq, is_tuple_of g, c, Bool.not_false]
      simp [c]
  | _ =>
    refine ⟨[], ?_⟩
    rw [List.append_nil]
    simp only [Dv.ap_seq, Dv.ap_next, Dv.ap_ret, Dv.ap_retN, Dv.ap_drop, Dv.ap_break, Dv.ap_cont, Dv.ap_ifS, Dv.ap_asg, Dv.ap_par, Dv.ap_gnm, Dv.ap_gtup, Dv.ap_gcons, Dv.ap_gnil, Dv.ap_gsub, Dv.ap_var, Dv.ap_con, Dv.ap_op, Dv.ap_un, Dv.ap_chain, Dv.ap_and, Dv.ap_or, Dv.ap_not, Dv.ap_if, Dv.ap_test, Dv.ap_bAnd, Dv.ap_bOr, Dv.ap_bNot, Dv.ap_bTru, Dv.ap_bYes, Dv.ap_aNil, Dv.ap_aCons, Dv.ap_tup, Dv.ap_lst, Dv.ap_dct, Dv.ap_B, Dv.ap_call, Dv.ap_call0, Dv.ap_sl, Dv.ap_oNo, Dv.ap_oAt, Dv.ap_me, Dv.ap_me0, Dv.ap_for, Dv.ap_iTup, Dv.ap_iLst, Dv.ap_iStr, Dv.ap_raise0, Dv.ap_raise1, Dv.bind_ok, Dv.toS_ok, Dv.get_ok, Dv.noEx_ok, Dv.onG_some, Dv.then_nx, Dv.then_rt, Option.bind_some, List.set_cons_succ, List.set_cons_zero, List.getElem?_cons_zero, List.getElem?_cons_succ, Dv.dEq_ii, Dv.dEq_ss, Dv.dNe_ii, Dv.dNe_ss, Dv.dLt_ii, Dv.dLe_ii, Dv.dGt_ii, Dv.dGe_ii, Dv.dAddG_ii, Dv.dSub_ii, Dv.int1_i, Dv.abs_i, decide_true, decide_false, Bool.false_eq_true, if_true, if_false, Dv.env0, List.map_cons, List.map_nil, List.length_cons, List.length_nil, List.replicate, List.cons_append, List.nil_append, Nat.zero_add, Nat.reduceAdd, Nat.reduceSub, Dv.len_tup, Dv.len_str, Dv.ix_tup', Dv.tru_bl, Dv.dIsN_n, Dv.dNotN_n, Dv.seqOf_tup, Dv.setOf_tup, beq_self_eq_true, Dv.at0, Dv.at1, Dv.at2, Dv.at3, Dv.at4, Bool.not_true, Bool.not_false, Int.reduceEq, is_tuple_of g, Bool.not_false]
    simp [dealD]
theorem py_ints {μ : Mem} {n : Nat} : ∀ ns : List Int, mapO (pyD μ n) (ns.map .int) = some (ns.map .int)
  | [] => rfl
  | i :: r => by rw [List.map_cons, mapO_cons, pyD_int, py_ints r]; rfl
theorem eqv_ints : ∀ xs ys : List Int, PyData.eqvAll (xs.map .int) (ys.map .int) = decide (xs = ys)
  | [], [] => by simp
  | [], y :: ys => by simp
  | x :: xs, [] => by simp
  | x :: xs, y :: ys => by
    rw [List.map_cons, List.map_cons, eqvAll_cons, eqv_ints xs ys, eqv_ii, Bool.eq_iff_iff]
    simp
theorem eq_cells {μ : Mem} {a b : Nat} {xs ys : List Int} (ha : μ[a]? = some (.lst (xs.map .int))) (hb : μ[b]? = some (.lst (ys.map .int))) : dEq (.cell a) (.cell b) μ = .ok (.bl (decide (xs = ys))) μ := by
  have e1 : pyD μ 64 (.cell a) = some (.list (xs.map .int)) := by
    show (match μ[a]? with | some (.lst xs) => (mapO (pyD μ 63) xs).map PyData.list | _ => none) = _
    rw [ha]; simp only [py_ints]; rfl
  have e2 : pyD μ 64 (.cell b) = some (.list (ys.map .int)) := by
    show (match μ[b]? with | some (.lst xs) => (mapO (pyD μ 63) xs).map PyData.list | _ => none) = _
    rw [hb]; simp only [py_ints]; rfl
  simp only [dEq, e1, e2, eqv_ll, eqv_ints]
end Law

set_option maxRecDepth 100000
set_option maxHeartbeats 4000000
namespace Law
open PySem PySem.Spec PyProof.Rows L2 Dv
theorem upto_map (n : Nat) : rngD 0 n = (uptoI n).map .int := rngD_map n
theorem srtI_lt {l : List Int} (h : l.Nodup) : (srtI l).Pairwise (· < ·) := by
  have h2 : (srtI l).Nodup := (srtI_perm l).nodup_iff.mpr h
  exact ((srtI_sorted l).and h2).imp fun ⟨a, b⟩ => by omega
theorem law_is_dealing {μ : Mem} {d : D} {rows : Int} (g : Good μ d) (r1 : 1 ≤ rows) (r2 : rows ≤ 6) : Says (dealD rows d) μ (g__law_is_dealing [d, .int rows] μ) := by
  unfold g__law_is_dealing b__law_is_dealing runB
  cases d with
  | tup xs =>
    have gs : ∀ x ∈ xs, Good μ x := by cases g with | tup gs => exact gs
    simp only [dealD]
    by_cases c : (xs.length : Int) = rows
    · have h := all_pure (f := iTupD (fVar 0)) (v := 2) (e := fCall0 (fun ds μ => if ds.length = 3 then g__law_is_number ds μ else .no) (aCons (fVar 2) (aCons (fCon (.int 0)) (aCons (fOp dSub (fVar 1) (fCon (.int 1))) aNil)))) (env := [some (.tup xs), some (.int rows), none]) (μ := μ) (μ1 := μ) (items := xs) (g := []) (btw 0 (rows - 1)) (by simp only [Dv.ap_seq, Dv.ap_next, Dv.ap_ret, Dv.ap_retN, Dv.ap_drop, Dv.ap_break, Dv.ap_cont, Dv.ap_ifS, Dv.ap_asg, Dv.ap_par, Dv.ap_gnm, Dv.ap_gtup, Dv.ap_gcons, Dv.ap_gnil, Dv.ap_gsub, Dv.ap_var, Dv.ap_con, Dv.ap_op, Dv.ap_un, Dv.ap_chain, Dv.ap_and, Dv.ap_or, Dv.ap_not, Dv.ap_if, Dv.ap_test, Dv.ap_bAnd, Dv.ap_bOr, Dv.ap_bNot, Dv.ap_bTru, Dv.ap_bYes, Dv.ap_aNil, Dv.ap_aCons, Dv.ap_tup, Dv.ap_lst, Dv.ap_dct, Dv.ap_B, Dv.ap_call, Dv.ap_call0, Dv.ap_sl, Dv.ap_oNo, Dv.ap_oAt, Dv.ap_me, Dv.ap_me0, Dv.ap_for, Dv.ap_iTup, Dv.ap_iLst, Dv.ap_iStr, Dv.ap_raise0, Dv.ap_raise1, Dv.bind_ok, Dv.toS_ok, Dv.get_ok, Dv.noEx_ok, Dv.onG_some, Dv.then_nx, Dv.then_rt, Option.bind_some, List.set_cons_succ, List.set_cons_zero, List.getElem?_cons_zero, List.getElem?_cons_succ, Dv.dEq_ii, Dv.dEq_ss, Dv.dNe_ii, Dv.dNe_ss, Dv.dLt_ii, Dv.dLe_ii, Dv.dGt_ii, Dv.dGe_ii, Dv.dAddG_ii, Dv.dSub_ii, Dv.int1_i, Dv.abs_i, decide_true, decide_false, Bool.false_eq_true, if_true, if_false, Dv.env0, List.map_cons, List.map_nil, List.length_cons, List.length_nil, List.replicate, List.cons_append, List.nil_append, Nat.zero_add, Nat.reduceAdd, Nat.reduceSub, Dv.len_tup, Dv.len_str, Dv.ix_tup', Dv.tru_bl, Dv.dIsN_n, Dv.dNotN_n, Dv.seqOf_tup, Dv.setOf_tup, beq_self_eq_true, Dv.at0, Dv.at1, Dv.at2, Dv.at3, Dv.at4, Bool.not_true, Bool.not_false, Int.reduceEq]) gok_nil (by rw [sizeLine_eq]; omega) (by
        intro x hx acc
        simp only [Dv.ap_seq, Dv.ap_next, Dv.ap_ret, Dv.ap_retN, Dv.ap_drop, Dv.ap_break, Dv.ap_cont, Dv.ap_ifS, Dv.ap_asg, Dv.ap_par, Dv.ap_gnm, Dv.ap_gtup, Dv.ap_gcons, Dv.ap_gnil, Dv.ap_gsub, Dv.ap_var, Dv.ap_con, Dv.ap_op, Dv.ap_un, Dv.ap_chain, Dv.ap_and, Dv.ap_or, Dv.ap_not, Dv.ap_if, Dv.ap_test, Dv.ap_bAnd, Dv.ap_bOr, Dv.ap_bNot, Dv.ap_bTru, Dv.ap_bYes, Dv.ap_aNil, Dv.ap_aCons, Dv.ap_tup, Dv.ap_lst, Dv.ap_dct, Dv.ap_B, Dv.ap_call, Dv.ap_call0, Dv.ap_sl, Dv.ap_oNo, Dv.ap_oAt, Dv.ap_me, Dv.ap_me0, Dv.ap_for, Dv.ap_iTup, Dv.ap_iLst, Dv.ap_iStr, Dv.ap_raise0, Dv.ap_raise1, Dv.bind_ok, Dv.toS_ok, Dv.get_ok, Dv.noEx_ok, Dv.onG_some, Dv.then_nx, Dv.then_rt, Option.bind_some, List.set_cons_succ, List.set_cons_zero, List.getElem?_cons_zero, List.getElem?_cons_succ, Dv.dEq_ii, Dv.dEq_ss, Dv.dNe_ii, Dv.dNe_ss, Dv.dLt_ii, Dv.dLe_ii, Dv.dGt_ii, Dv.dGe_ii, Dv.dAddG_ii, Dv.dSub_ii, Dv.int1_i, Dv.abs_i, decide_true, decide_false, Bool.false_eq_true, if_true, if_false, Dv.env0, List.map_cons, List.map_nil, List.length_cons, List.length_nil, List.replicate, List.cons_append, List.nil_append, Nat.zero_add, Nat.reduceAdd, Nat.reduceSub, Dv.len_tup, Dv.len_str, Dv.ix_tup', Dv.tru_bl, Dv.dIsN_n, Dv.dNotN_n, Dv.seqOf_tup, Dv.setOf_tup, beq_self_eq_true, Dv.at0, Dv.at1, Dv.at2, Dv.at3, Dv.at4, Bool.not_true, Bool.not_false, Int.reduceEq, law_is_number ((gs x hx).keep (Ty.app (l := [.lst acc])))])
      cases e : xs.all (btw 0 (rows - 1)) with
      | false =>
        rw [e] at h
        refine ⟨[.lst (xs.map fun x => .bl (btw 0 (rows - 1) x))], ?_⟩
        simp only [Dv.ap_seq, Dv.ap_next, Dv.ap_ret, Dv.ap_retN, Dv.ap_drop, Dv.ap_break, Dv.ap_cont, Dv.ap_ifS, Dv.ap_asg, Dv.ap_par, Dv.ap_gnm, Dv.ap_gtup, Dv.ap_gcons, Dv.ap_gnil, Dv.ap_gsub, Dv.ap_var, Dv.ap_con, Dv.ap_op, Dv.ap_un, Dv.ap_chain, Dv.ap_and, Dv.ap_or, Dv.ap_not, Dv.ap_if, Dv.ap_test, Dv.ap_bAnd, Dv.ap_bOr, Dv.ap_bNot, Dv.ap_bTru, Dv.ap_bYes, Dv.ap_aNil, Dv.ap_aCons, Dv.ap_tup, Dv.ap_lst, Dv.ap_dct, Dv.ap_B, Dv.ap_call, Dv.ap_call0, Dv.ap_sl, Dv.ap_oNo, Dv.ap_oAt, Dv.ap_me, Dv.ap_me0, Dv.ap_for, Dv.ap_iTup, Dv.ap_iLst, Dv.ap_iStr, Dv.ap_raise0, Dv.ap_raise1, Dv.bind_ok, Dv.toS_ok, Dv.get_ok, Dv.noEx_ok, Dv.onG_some, Dv.then_nx, Dv.then_rt, Option.bind_some, List.set_cons_succ, List.set_cons_zero, List.getElem?_cons_zero, List.getElem?_cons_succ, Dv.dEq_ii, Dv.dEq_ss, Dv.dNe_ii, Dv.dNe_ss, Dv.dLt_ii, Dv.dLe_ii, Dv.dGt_ii, Dv.dGe_ii, Dv.dAddG_ii, Dv.dSub_ii, Dv.int1_i, Dv.abs_i, decide_true, decide_false, Bool.false_eq_true, if_true, if_false, Dv.env0, List.map_cons, List.map_nil, List.length_cons, List.length_nil, List.replicate, List.cons_append, List.nil_append, Nat.zero_add, Nat.reduceAdd, Nat.reduceSub, Dv.len_tup, Dv.len_str, Dv.ix_tup', Dv.tru_bl, Dv.dIsN_n, Dv.dNotN_n, Dv.seqOf_tup, Dv.setOf_tup, beq_self_eq_true, Dv.at0, Dv.at1, Dv.at2, Dv.at3, Dv.at4, Bool.not_true, Bool.not_false, Int.reduceEq, isTup g, c, Bool.not_true, h, Bool.not_false]
        rfl
      | true =>
        rw [e] at h
        obtain ⟨hx, hb⟩ := all_ints e
        have hl : (intsL xs).length = xs.length := by unfold intsL; rw [List.length_map]
        obtain ⟨m, hm⟩ := maxI_some (ns := intsL xs) (by intro z; rw [z] at hl; simp at hl; omega)
        obtain ⟨m1, m2⟩ := maxI_spec hm
        have mb := hb m m1
        generalize hμ : μ ++ [C.lst (xs.map fun x => .bl (btw 0 (rows - 1) x))] = μ1 at h
        have hs : dSetT [.tup xs] μ1 = .ok (.cell μ1.length) (μ1 ++ [.set (dedupI (intsL xs))]) := by
          simp only [dSetT, setTD]
          rw [hx, intsOf_map, intsL_map]
          simp only
          rw [if_pos (scan7 (by omega))]
        have hdl : (dedupI (intsL xs)).length < 64 := by
          have := nodup_len (dedupI (intsL xs)) (intsL xs) dedupI_nodup fun k hk => mem_dedupI.mp hk
          omega
        have hc : (μ1 ++ [C.set (dedupI (intsL xs))])[μ1.length]? = some (.set (dedupI (intsL xs))) := by simp
        have hso : dSortG [.cell μ1.length] (μ1 ++ [.set (dedupI (intsL xs))]) = .ok (.cell (μ1.length + 1)) (μ1 ++ [.set (dedupI (intsL xs))] ++ [.lst ((srtI (dedupI (intsL xs))).map .int)]) := by
          simp only [dSortG, setOf, hc]
          rw [if_pos hdl]
          simp
        have hmx : ∀ μ', dMaxG [.tup xs] μ' = .ok (.int m) μ' := fun μ' => by rw [hx]; exact max_tup hm
        generalize hμ2 : μ1 ++ [.set (dedupI (intsL xs))] ++ [.lst ((srtI (dedupI (intsL xs))).map .int)] = μ2 at hso
        have hR := lstRg_ok (f := fOp dAddG (fCon (.int 1)) (fB dMaxG (aCons (fVar 0) aNil))) (env := [some (.tup xs), some (.int rows), none]) (μ := μ2) (μ1 := μ2) (n := (1 + m).toNat) (by
          simp only [Dv.ap_seq, Dv.ap_next, Dv.ap_ret, Dv.ap_retN, Dv.ap_drop, Dv.ap_break, Dv.ap_cont, Dv.ap_ifS, Dv.ap_asg, Dv.ap_par, Dv.ap_gnm, Dv.ap_gtup, Dv.ap_gcons, Dv.ap_gnil, Dv.ap_gsub, Dv.ap_var, Dv.ap_con, Dv.ap_op, Dv.ap_un, Dv.ap_chain, Dv.ap_and, Dv.ap_or, Dv.ap_not, Dv.ap_if, Dv.ap_test, Dv.ap_bAnd, Dv.ap_bOr, Dv.ap_bNot, Dv.ap_bTru, Dv.ap_bYes, Dv.ap_aNil, Dv.ap_aCons, Dv.ap_tup, Dv.ap_lst, Dv.ap_dct, Dv.ap_B, Dv.ap_call, Dv.ap_call0, Dv.ap_sl, Dv.ap_oNo, Dv.ap_oAt, Dv.ap_me, Dv.ap_me0, Dv.ap_for, Dv.ap_iTup, Dv.ap_iLst, Dv.ap_iStr, Dv.ap_raise0, Dv.ap_raise1, Dv.bind_ok, Dv.toS_ok, Dv.get_ok, Dv.noEx_ok, Dv.onG_some, Dv.then_nx, Dv.then_rt, Option.bind_some, List.set_cons_succ, List.set_cons_zero, List.getElem?_cons_zero, List.getElem?_cons_succ, Dv.dEq_ii, Dv.dEq_ss, Dv.dNe_ii, Dv.dNe_ss, Dv.dLt_ii, Dv.dLe_ii, Dv.dGt_ii, Dv.dGe_ii, Dv.dAddG_ii, Dv.dSub_ii, Dv.int1_i, Dv.abs_i, decide_true, decide_false, Bool.false_eq_true, if_true, if_false, Dv.env0, List.map_cons, List.map_nil, List.length_cons, List.length_nil, List.replicate, List.cons_append, List.nil_append, Nat.zero_add, Nat.reduceAdd, Nat.reduceSub, Dv.len_tup, Dv.len_str, Dv.ix_tup', Dv.tru_bl, Dv.dIsN_n, Dv.dNotN_n, Dv.seqOf_tup, Dv.setOf_tup, beq_self_eq_true, Dv.at0, Dv.at1, Dv.at2, Dv.at3, Dv.at4, Bool.not_true, Bool.not_false, Int.reduceEq, hmx]
          rw [Int.toNat_of_nonneg (by omega)]) (by omega)
        have q1 : (μ2 ++ [C.lst ((uptoI (1 + m).toNat).map .int)])[μ1.length + 1]? = some (.lst ((srtI (dedupI (intsL xs))).map .int)) := app_at (by rw [← hμ2]; simp)
        have q2 : (μ2 ++ [C.lst ((uptoI (1 + m).toNat).map .int)])[μ2.length]? = some (.lst ((uptoI (1 + m).toNat).map .int)) := by simp
        rw [upto_map] at hR
        have fin : decide (srtI (dedupI (intsL xs)) = uptoI (1 + m).toNat) = segB (intsL xs) := by
          rw [Bool.eq_iff_iff]
          unfold segB
          rw [decide_eq_true_iff, @decide_eq_true_iff _ (Classical.propDecidable _)]
          exact sorted_seg (S := fun k => decide (k ∈ intsL xs)) (fun f hf => (hb f hf).1) m1 m2 (fun _ => rfl) (srtI_lt dedupI_nodup) fun k => by rw [(srtI_perm _).mem_iff, mem_dedupI]; simp
        refine ⟨[.lst (xs.map fun x => .bl (btw 0 (rows - 1) x)), .set (dedupI (intsL xs)), .lst ((srtI (dedupI (intsL xs))).map .int), .lst ((uptoI (1 + m).toNat).map .int)], ?_⟩
        simp only [Dv.ap_seq, Dv.ap_next, Dv.ap_ret, Dv.ap_retN, Dv.ap_drop, Dv.ap_break, Dv.ap_cont, Dv.ap_ifS, Dv.ap_asg, Dv.ap_par, Dv.ap_gnm, Dv.ap_gtup, Dv.ap_gcons, Dv.ap_gnil, Dv.ap_gsub, Dv.ap_var, Dv.ap_con, Dv.ap_op, Dv.ap_un, Dv.ap_chain, Dv.ap_and, Dv.ap_or, Dv.ap_not, Dv.ap_if, Dv.ap_test, Dv.ap_bAnd, Dv.ap_bOr, Dv.ap_bNot, Dv.ap_bTru, Dv.ap_bYes, Dv.ap_aNil, Dv.ap_aCons, Dv.ap_tup, Dv.ap_lst, Dv.ap_dct, Dv.ap_B, Dv.ap_call, Dv.ap_call0, Dv.ap_sl, Dv.ap_oNo, Dv.ap_oAt, Dv.ap_me, Dv.ap_me0, Dv.ap_for, Dv.ap_iTup, Dv.ap_iLst, Dv.ap_iStr, Dv.ap_raise0, Dv.ap_raise1, Dv.bind_ok, Dv.toS_ok, Dv.get_ok, Dv.noEx_ok, Dv.onG_some, Dv.then_nx, Dv.then_rt, Option.bind_some, List.set_cons_succ, List.set_cons_zero, List.getElem?_cons_zero, List.getElem?_cons_succ, Dv.dEq_ii, Dv.dEq_ss, Dv.dNe_ii, Dv.dNe_ss, Dv.dLt_ii, Dv.dLe_ii, Dv.dGt_ii, Dv.dGe_ii, Dv.dAddG_ii, Dv.dSub_ii, Dv.int1_i, Dv.abs_i, decide_true, decide_false, Bool.false_eq_true, if_true, if_false, Dv.env0, List.map_cons, List.map_nil, List.length_cons, List.length_nil, List.replicate, List.cons_append, List.nil_append, Nat.zero_add, Nat.reduceAdd, Nat.reduceSub, Dv.len_tup, Dv.len_str, Dv.ix_tup', Dv.tru_bl, Dv.dIsN_n, Dv.dNotN_n, Dv.seqOf_tup, Dv.setOf_tup, beq_self_eq_true, Dv.at0, Dv.at1, Dv.at2, Dv.at3, Dv.at4, Bool.not_true, Bool.not_false, Int.reduceEq, isTup g, c, Bool.not_true, h, Bool.not_false, hs, hso, hR, eq_cells q1 q2, fin, outS_rt]
        rw [← hμ2, ← hμ]
        simp
    · refine ⟨[], ?_⟩
      rw [List.append_nil]
      simp only [Dv.ap_seq, Dv.ap_next, Dv.ap_ret, Dv.ap_retN, Dv.ap_drop, Dv.ap_break, Dv.ap_cont, Dv.ap_ifS, Dv.ap_asg, Dv.ap_par, Dv.ap_gnm, Dv.ap_gtup, Dv.ap_gcons, Dv.ap_gnil, Dv.ap_gsub, Dv.ap_var, Dv.ap_con, Dv.ap_op, Dv.ap_un, Dv.ap_chain, Dv.ap_and, Dv.ap_or, Dv.ap_not, Dv.ap_if, Dv.ap_test, Dv.ap_bAnd, Dv.ap_bOr, Dv.ap_bNot, Dv.ap_bTru, Dv.ap_bYes, Dv.ap_aNil, Dv.ap_aCons, Dv.ap_tup, Dv.ap_lst, Dv.ap_dct, Dv.ap_B, Dv.ap_call, Dv.ap_call0, Dv.ap_sl, Dv.ap_oNo, Dv.ap_oAt, Dv.ap_me, Dv.ap_me0, Dv.ap_for, Dv.ap_iTup, Dv.ap_iLst, Dv.ap_iStr, Dv.ap_raise0, Dv.ap_raise1, Dv.bind_ok, Dv.toS_ok, Dv.get_ok, Dv.noEx_ok, Dv.onG_some, Dv.then_nx, Dv.then_rt, Option.bind_some, List.set_cons_succ, List.set_cons_zero, List.getElem?_cons_zero, List.getElem?_cons_succ, Dv.dEq_ii, Dv.dEq_ss, Dv.dNe_ii, Dv.dNe_ss, Dv.dLt_ii, Dv.dLe_ii, Dv.dGt_ii, Dv.dGe_ii, Dv.dAddG_ii, Dv.dSub_ii, Dv.int1_i, Dv.abs_i, decide_true, decide_false, Bool.false_eq_true, if_true, if_false, Dv.env0, List.map_cons, List.map_nil, List.length_cons, List.length_nil, List.replicate, List.cons_append, List.nil_append, Nat.zero_add, Nat.reduceAdd, Nat.reduceSub, Dv.len_tup, Dv.len_str, Dv.ix_tup', Dv.tru_bl, Dv.dIsN_n, Dv.dNotN_n, Dv.seqOf_tup, Dv.setOf_tup, beq_self_eq_true, Dv.at0, Dv.at1, Dv.at2, Dv.at3, Dv.at4, Bool.not_true, Bool.not_false, Int.reduceEq, isTup g, c, Bool.not_true, Bool.not_false]
      simp [c]
  | _ =>
    refine ⟨[], ?_⟩
    rw [List.append_nil]
    simp only [Dv.ap_seq, Dv.ap_next, Dv.ap_ret, Dv.ap_retN, Dv.ap_drop, Dv.ap_break, Dv.ap_cont, Dv.ap_ifS, Dv.ap_asg, Dv.ap_par, Dv.ap_gnm, Dv.ap_gtup, Dv.ap_gcons, Dv.ap_gnil, Dv.ap_gsub, Dv.ap_var, Dv.ap_con, Dv.ap_op, Dv.ap_un, Dv.ap_chain, Dv.ap_and, Dv.ap_or, Dv.ap_not, Dv.ap_if, Dv.ap_test, Dv.ap_bAnd, Dv.ap_bOr, Dv.ap_bNot, Dv.ap_bTru, Dv.ap_bYes, Dv.ap_aNil, Dv.ap_aCons, Dv.ap_tup, Dv.ap_lst, Dv.ap_dct, Dv.ap_B, Dv.ap_call, Dv.ap_call0, Dv.ap_sl, Dv.ap_oNo, Dv.ap_oAt, Dv.ap_me, Dv.ap_me0, Dv.ap_for, Dv.ap_iTup, Dv.ap_iLst, Dv.ap_iStr, Dv.ap_raise0, Dv.ap_raise1, Dv.bind_ok, Dv.toS_ok, Dv.get_ok, Dv.noEx_ok, Dv.onG_some, Dv.then_nx, Dv.then_rt, Option.bind_some, List.set_cons_succ, List.set_cons_zero, List.getElem?_cons_zero, List.getElem?_cons_succ, Dv.dEq_ii, Dv.dEq_ss, Dv.dNe_ii, Dv.dNe_ss, Dv.dLt_ii, Dv.dLe_ii, Dv.dGt_ii, Dv.dGe_ii, Dv.dAddG_ii, Dv.dSub_ii, Dv.int1_i, Dv.abs_i, decide_true, decide_false, Bool.false_eq_true, if_true, if_false, Dv.env0, List.map_cons, List.map_nil, List.length_cons, List.length_nil, List.replicate, List.cons_append, List.nil_append, Nat.zero_add, Nat.reduceAdd, Nat.reduceSub, Dv.len_tup, Dv.len_str, Dv.ix_tup', Dv.tru_bl, Dv.dIsN_n, Dv.dNotN_n, Dv.seqOf_tup, Dv.setOf_tup, beq_self_eq_true, Dv.at0, Dv.at1, Dv.at2, Dv.at3, Dv.at4, Bool.not_true, Bool.not_false, Int.reduceEq, isTup g, Bool.not_false]
    simp [dealD]
def depthD (hands : Int) : D → Bool
  | .non => decide (hands = 1)
  | d => btw 1 60 d
theorem is_depth {μ : Mem} {d : D} {hands : Int} (g : Good μ d) : g_is_depth [.int hands, d] μ = .ok (.bl (depthD hands d)) μ := by
  unfold g_is_depth b_is_depth runB
  cases d with
  | non => simp only [Dv.ap_seq, Dv.ap_next, Dv.ap_ret, Dv.ap_retN, Dv.ap_drop, Dv.ap_break, Dv.ap_cont, Dv.ap_ifS, Dv.ap_asg, Dv.ap_par, Dv.ap_gnm, Dv.ap_gtup, Dv.ap_gcons, Dv.ap_gnil, Dv.ap_gsub, Dv.ap_var, Dv.ap_con, Dv.ap_op, Dv.ap_un, Dv.ap_chain, Dv.ap_and, Dv.ap_or, Dv.ap_not, Dv.ap_if, Dv.ap_test, Dv.ap_bAnd, Dv.ap_bOr, Dv.ap_bNot, Dv.ap_bTru, Dv.ap_bYes, Dv.ap_aNil, Dv.ap_aCons, Dv.ap_tup, Dv.ap_lst, Dv.ap_dct, Dv.ap_B, Dv.ap_call, Dv.ap_call0, Dv.ap_sl, Dv.ap_oNo, Dv.ap_oAt, Dv.ap_me, Dv.ap_me0, Dv.ap_for, Dv.ap_iTup, Dv.ap_iLst, Dv.ap_iStr, Dv.ap_raise0, Dv.ap_raise1, Dv.bind_ok, Dv.toS_ok, Dv.get_ok, Dv.noEx_ok, Dv.onG_some, Dv.then_nx, Dv.then_rt, Option.bind_some, List.set_cons_succ, List.set_cons_zero, List.getElem?_cons_zero, List.getElem?_cons_succ, Dv.dEq_ii, Dv.dEq_ss, Dv.dNe_ii, Dv.dNe_ss, Dv.dLt_ii, Dv.dLe_ii, Dv.dGt_ii, Dv.dGe_ii, Dv.dAddG_ii, Dv.dSub_ii, Dv.int1_i, Dv.abs_i, decide_true, decide_false, Bool.false_eq_true, if_true, if_false, Dv.env0, List.map_cons, List.map_nil, List.length_cons, List.length_nil, List.replicate, List.cons_append, List.nil_append, Nat.zero_add, Nat.reduceAdd, Nat.reduceSub, Dv.len_tup, Dv.len_str, Dv.ix_tup', Dv.tru_bl, Dv.dIsN_n, Dv.dNotN_n, Dv.seqOf_tup, Dv.setOf_tup, beq_self_eq_true, Dv.at0, Dv.at1, Dv.at2, Dv.at3, Dv.at4, Bool.not_true, Bool.not_false, Int.reduceEq, Dv.isNon]; simp [depthD]
  | _ => simp only [Dv.ap_seq, Dv.ap_next, Dv.ap_ret, Dv.ap_retN, Dv.ap_drop, Dv.ap_break, Dv.ap_cont, Dv.ap_ifS, Dv.ap_asg, Dv.ap_par, Dv.ap_gnm, Dv.ap_gtup, Dv.ap_gcons, Dv.ap_gnil, Dv.ap_gsub, Dv.ap_var, Dv.ap_con, Dv.ap_op, Dv.ap_un, Dv.ap_chain, Dv.ap_and, Dv.ap_or, Dv.ap_not, Dv.ap_if, Dv.ap_test, Dv.ap_bAnd, Dv.ap_bOr, Dv.ap_bNot, Dv.ap_bTru, Dv.ap_bYes, Dv.ap_aNil, Dv.ap_aCons, Dv.ap_tup, Dv.ap_lst, Dv.ap_dct, Dv.ap_B, Dv.ap_call, Dv.ap_call0, Dv.ap_sl, Dv.ap_oNo, Dv.ap_oAt, Dv.ap_me, Dv.ap_me0, Dv.ap_for, Dv.ap_iTup, Dv.ap_iLst, Dv.ap_iStr, Dv.ap_raise0, Dv.ap_raise1, Dv.bind_ok, Dv.toS_ok, Dv.get_ok, Dv.noEx_ok, Dv.onG_some, Dv.then_nx, Dv.then_rt, Option.bind_some, List.set_cons_succ, List.set_cons_zero, List.getElem?_cons_zero, List.getElem?_cons_succ, Dv.dEq_ii, Dv.dEq_ss, Dv.dNe_ii, Dv.dNe_ss, Dv.dLt_ii, Dv.dLe_ii, Dv.dGt_ii, Dv.dGe_ii, Dv.dAddG_ii, Dv.dSub_ii, Dv.int1_i, Dv.abs_i, decide_true, decide_false, Bool.false_eq_true, if_true, if_false, Dv.env0, List.map_cons, List.map_nil, List.length_cons, List.length_nil, List.replicate, List.cons_append, List.nil_append, Nat.zero_add, Nat.reduceAdd, Nat.reduceSub, Dv.len_tup, Dv.len_str, Dv.ix_tup', Dv.tru_bl, Dv.dIsN_n, Dv.dNotN_n, Dv.seqOf_tup, Dv.setOf_tup, beq_self_eq_true, Dv.at0, Dv.at1, Dv.at2, Dv.at3, Dv.at4, Bool.not_true, Bool.not_false, Int.reduceEq, Dv.isNon, is_between g]; simp [depthD]
/-! ### items by the law -/
/-- heads that == may look at -/
def Hd (μ : Mem) (d : D) : Prop := ∀ x r, d = .tup (x :: r) → ∃ b, hdB "stop" μ x = some b
theorem isItem_nil {k : Str} {n : Int} : isItemD k n (.tup []) = false := rfl
theorem hd_str {μ : Mem} {z w : Str} : hdB w μ (.str z) = some (z == w) := rfl
theorem hd_no {x : D} {w : Str} {μ : Mem} {b : Bool} (hx : ∀ z, x ≠ .str z) (h : hdB w μ x = some b) : b = false := by
  cases x with
  | str z => exact absurd rfl (hx z)
  | cell n =>
    simp only [hdB] at h
    split at h <;> cases h
    rfl
  | _ => cases h <;> rfl
theorem w1 : (("begin" : Str) = "on") = False := by simp only [eq_iff_iff, iff_false]; decide +kernel
theorem w2 : (("begin" : Str) = "leave") = False := by simp only [eq_iff_iff, iff_false]; decide +kernel
theorem w3 : (("begin" : Str) = "say") = False := by simp only [eq_iff_iff, iff_false]; decide +kernel
theorem w4 : (("on" : Str) = "leave") = False := by simp only [eq_iff_iff, iff_false]; decide +kernel
theorem w5 : (("on" : Str) = "say") = False := by simp only [eq_iff_iff, iff_false]; decide +kernel
theorem w6 : (("leave" : Str) = "say") = False := by simp only [eq_iff_iff, iff_false]; decide +kernel
theorem itemD3 {rows hands letters many : Int} {z : Str} {y w : D} : itemD rows hands letters many (.tup [.str z, y, w]) = if z = "begin" then btw 0 (rows - 1) y && nextsD letters many w else if z = "on" then btw 0 (hands - 1) y && nextsD letters many w else if z = "leave" then btw 0 (hands - 1) y && btw 0 (many - 1) w else if z = "say" then wordD y && btw 0 (many - 1) w else false := by
  have n3 : decide (((2 + 1 : Nat) : Int) = 1) = false := rfl
  unfold itemD sh3 isItemD
  simp only [List.length_cons, List.length_nil]
  by_cases h1 : z = "begin"
  · subst h1; simp [w1, w2, w3]
  · by_cases h2 : z = "on"
    · subst h2; simp [h1, w4, w5]
    · by_cases h3 : z = "leave"
      · subst h3; simp [h1, h2, w6]
      · by_cases h4 : z = "say"
        · subst h4; simp [h1, h2, h3]
        · simp [h1, h2, h3, h4]
theorem says_and {b c : Bool} {μ : Mem} {f : F} {env : Dv.Env} (h : Says c μ (f env μ)) : Says (b && c) μ (if b = true then f env μ else .ok (.bl false) μ) := by
  cases b with
  | true => simpa using h
  | false => exact ⟨[], by simp⟩
theorem says_ok {b : Bool} {μ : Mem} : Says b μ (.ok (.bl b) μ) := ⟨[], by rw [List.append_nil]⟩
theorem says_out {b : Bool} {μ : Mem} {r : R D} {env : Dv.Env} (h : Says b μ r) : Says b μ (outS (r.toS env fun d μ1 => .rt d μ1)) := by
  obtain ⟨l, e⟩ := h
  exact ⟨l, by rw [e]; rfl⟩
theorem says_thn {b : Bool} {μ : Mem} {r : R D} {env : Dv.Env} {k : S} (h : Says b μ r) : Says b μ (outS ((r.toS env fun d μ1 => .rt d μ1).then k)) := by
  obtain ⟨l, e⟩ := h
  exact ⟨l, by rw [e]; rfl⟩
theorem law_is_item {μ : Mem} {d : D} {dl : List Int} {letters many m : Int} (g : Good μ d) (hd : Hd μ d) (hm : maxI dl = some m) (hl : letters ≤ 1000) :
    Says (itemD dl.length (m + 1) letters many d) μ (g__law_is_item [d, .tup (dl.map .int), .int letters, .int many] μ) := by
  unfold g__law_is_item b__law_is_item runB
  cases d with
  | tup xs =>
    have gs : ∀ x ∈ xs, Good μ x := by cases g with | tup gs => exact gs
    match xs, gs, hd with
    | [], gs, hd =>
      refine ⟨[], ?_⟩
      rw [List.append_nil]
      simp only [Dv.ap_seq, Dv.ap_next, Dv.ap_ret, Dv.ap_retN, Dv.ap_drop, Dv.ap_break, Dv.ap_cont, Dv.ap_ifS, Dv.ap_asg, Dv.ap_par, Dv.ap_gnm, Dv.ap_gtup, Dv.ap_gcons, Dv.ap_gnil, Dv.ap_gsub, Dv.ap_var, Dv.ap_con, Dv.ap_op, Dv.ap_un, Dv.ap_chain, Dv.ap_and, Dv.ap_or, Dv.ap_not, Dv.ap_if, Dv.ap_test, Dv.ap_bAnd, Dv.ap_bOr, Dv.ap_bNot, Dv.ap_bTru, Dv.ap_bYes, Dv.ap_aNil, Dv.ap_aCons, Dv.ap_tup, Dv.ap_lst, Dv.ap_dct, Dv.ap_B, Dv.ap_call, Dv.ap_call0, Dv.ap_sl, Dv.ap_oNo, Dv.ap_oAt, Dv.ap_me, Dv.ap_me0, Dv.ap_for, Dv.ap_iTup, Dv.ap_iLst, Dv.ap_iStr, Dv.ap_raise0, Dv.ap_raise1, Dv.bind_ok, Dv.toS_ok, Dv.get_ok, Dv.noEx_ok, Dv.onG_some, Dv.then_nx, Dv.then_rt, Option.bind_some, List.set_cons_succ, List.set_cons_zero, List.getElem?_cons_zero, List.getElem?_cons_succ, Dv.dEq_ii, Dv.dEq_ss, Dv.dNe_ii, Dv.dNe_ss, Dv.dLt_ii, Dv.dLe_ii, Dv.dGt_ii, Dv.dGe_ii, Dv.dAddG_ii, Dv.dSub_ii, Dv.int1_i, Dv.abs_i, decide_true, decide_false, Bool.false_eq_true, if_true, if_false, Dv.env0, List.map_cons, List.map_nil, List.length_cons, List.length_nil, List.replicate, List.cons_append, List.nil_append, Nat.zero_add, Nat.reduceAdd, Nat.reduceSub, Dv.len_tup, Dv.len_str, Dv.ix_tup', Dv.tru_bl, Dv.dIsN_n, Dv.dNotN_n, Dv.seqOf_tup, Dv.setOf_tup, beq_self_eq_true, Dv.at0, Dv.at1, Dv.at2, Dv.at3, Dv.at4, Bool.not_true, Bool.not_false, Int.reduceEq, isTup g, Bool.not_true, Int.natCast_zero]
      rfl
    | [x], gs, hd =>
      obtain ⟨b, hb⟩ := hd x [] rfl
      refine ⟨[], ?_⟩
      rw [List.append_nil]
      have n1 : ¬ (((0 + 1 : Nat) : Int) = 0) := by decide
      have n3 : ¬ (((0 + 1 : Nat) : Int) = 3) := by decide
      have s1 : 1 ≤ sizeLine := by rw [sizeLine_eq]; omega
      simp only [Dv.ap_seq, Dv.ap_next, Dv.ap_ret, Dv.ap_retN, Dv.ap_drop, Dv.ap_break, Dv.ap_cont, Dv.ap_ifS, Dv.ap_asg, Dv.ap_par, Dv.ap_gnm, Dv.ap_gtup, Dv.ap_gcons, Dv.ap_gnil, Dv.ap_gsub, Dv.ap_var, Dv.ap_con, Dv.ap_op, Dv.ap_un, Dv.ap_chain, Dv.ap_and, Dv.ap_or, Dv.ap_not, Dv.ap_if, Dv.ap_test, Dv.ap_bAnd, Dv.ap_bOr, Dv.ap_bNot, Dv.ap_bTru, Dv.ap_bYes, Dv.ap_aNil, Dv.ap_aCons, Dv.ap_tup, Dv.ap_lst, Dv.ap_dct, Dv.ap_B, Dv.ap_call, Dv.ap_call0, Dv.ap_sl, Dv.ap_oNo, Dv.ap_oAt, Dv.ap_me, Dv.ap_me0, Dv.ap_for, Dv.ap_iTup, Dv.ap_iLst, Dv.ap_iStr, Dv.ap_raise0, Dv.ap_raise1, Dv.bind_ok, Dv.toS_ok, Dv.get_ok, Dv.noEx_ok, Dv.onG_some, Dv.then_nx, Dv.then_rt, Option.bind_some, List.set_cons_succ, List.set_cons_zero, List.getElem?_cons_zero, List.getElem?_cons_succ, Dv.dEq_ii, Dv.dEq_ss, Dv.dNe_ii, Dv.dNe_ss, Dv.dLt_ii, Dv.dLe_ii, Dv.dGt_ii, Dv.dGe_ii, Dv.dAddG_ii, Dv.dSub_ii, Dv.int1_i, Dv.abs_i, decide_true, decide_false, Bool.false_eq_true, if_true, if_false, Dv.env0, List.map_cons, List.map_nil, List.length_cons, List.length_nil, List.replicate, List.cons_append, List.nil_append, Nat.zero_add, Nat.reduceAdd, Nat.reduceSub, Dv.len_tup, Dv.len_str, Dv.ix_tup', Dv.tru_bl, Dv.dIsN_n, Dv.dNotN_n, Dv.seqOf_tup, Dv.setOf_tup, beq_self_eq_true, Dv.at0, Dv.at1, Dv.at2, Dv.at3, Dv.at4, Bool.not_true, Bool.not_false, Int.reduceEq, isTup g, Bool.not_true, n1, dEqHd, hb, s1, List.isEmpty_nil, Bool.and_true, Bool.not_false, n3]
      cases x with
      | str z =>
        rw [hd_str] at hb
        cases hb
        by_cases e : z = "stop"
        · subst e; rfl
        · have : (z == ("stop" : Str)) = false := by simpa using e
          rw [this]
          simp [itemD, sh3, isItemD, e]
      | _ =>
        have := hd_no (by intro z h; cases h) hb
        subst this
        rfl
    | [x, y], gs, hd =>
      obtain ⟨b, hb⟩ := hd x [y] rfl
      refine ⟨[], ?_⟩
      rw [List.append_nil]
      have n1 : ¬ (((1 + 1 : Nat) : Int) = 0) := by decide
      have n3 : ¬ (((1 + 1 : Nat) : Int) = 3) := by decide
      have s1 : 1 ≤ sizeLine := by rw [sizeLine_eq]; omega
      simp only [Dv.ap_seq, Dv.ap_next, Dv.ap_ret, Dv.ap_retN, Dv.ap_drop, Dv.ap_break, Dv.ap_cont, Dv.ap_ifS, Dv.ap_asg, Dv.ap_par, Dv.ap_gnm, Dv.ap_gtup, Dv.ap_gcons, Dv.ap_gnil, Dv.ap_gsub, Dv.ap_var, Dv.ap_con, Dv.ap_op, Dv.ap_un, Dv.ap_chain, Dv.ap_and, Dv.ap_or, Dv.ap_not, Dv.ap_if, Dv.ap_test, Dv.ap_bAnd, Dv.ap_bOr, Dv.ap_bNot, Dv.ap_bTru, Dv.ap_bYes, Dv.ap_aNil, Dv.ap_aCons, Dv.ap_tup, Dv.ap_lst, Dv.ap_dct, Dv.ap_B, Dv.ap_call, Dv.ap_call0, Dv.ap_sl, Dv.ap_oNo, Dv.ap_oAt, Dv.ap_me, Dv.ap_me0, Dv.ap_for, Dv.ap_iTup, Dv.ap_iLst, Dv.ap_iStr, Dv.ap_raise0, Dv.ap_raise1, Dv.bind_ok, Dv.toS_ok, Dv.get_ok, Dv.noEx_ok, Dv.onG_some, Dv.then_nx, Dv.then_rt, Option.bind_some, List.set_cons_succ, List.set_cons_zero, List.getElem?_cons_zero, List.getElem?_cons_succ, Dv.dEq_ii, Dv.dEq_ss, Dv.dNe_ii, Dv.dNe_ss, Dv.dLt_ii, Dv.dLe_ii, Dv.dGt_ii, Dv.dGe_ii, Dv.dAddG_ii, Dv.dSub_ii, Dv.int1_i, Dv.abs_i, decide_true, decide_false, Bool.false_eq_true, if_true, if_false, Dv.env0, List.map_cons, List.map_nil, List.length_cons, List.length_nil, List.replicate, List.cons_append, List.nil_append, Nat.zero_add, Nat.reduceAdd, Nat.reduceSub, Dv.len_tup, Dv.len_str, Dv.ix_tup', Dv.tru_bl, Dv.dIsN_n, Dv.dNotN_n, Dv.seqOf_tup, Dv.setOf_tup, beq_self_eq_true, Dv.at0, Dv.at1, Dv.at2, Dv.at3, Dv.at4, Bool.not_true, Bool.not_false, Int.reduceEq, isTup g, Bool.not_true, n1, dEqHd, hb, s1, List.isEmpty_cons, Bool.and_false, Bool.not_false, n3]
      cases x <;> rfl
    | [x, y, w], gs, hd =>
      obtain ⟨b, hb⟩ := hd x [y, w] rfl
      have n1 : ¬ (((3 : Nat) : Int) = 0) := by decide
      have n3 : (((3 : Nat) : Int) = 3) := by decide
      have s1 : 1 ≤ sizeLine := by rw [sizeLine_eq]; omega
      have gx := gs x (by simp)
      have gy := gs y (by simp)
      have gw := gs w (by simp)
      simp only [Dv.ap_seq, Dv.ap_next, Dv.ap_ret, Dv.ap_retN, Dv.ap_drop, Dv.ap_break, Dv.ap_cont, Dv.ap_ifS, Dv.ap_asg, Dv.ap_par, Dv.ap_gnm, Dv.ap_gtup, Dv.ap_gcons, Dv.ap_gnil, Dv.ap_gsub, Dv.ap_var, Dv.ap_con, Dv.ap_op, Dv.ap_un, Dv.ap_chain, Dv.ap_and, Dv.ap_or, Dv.ap_not, Dv.ap_if, Dv.ap_test, Dv.ap_bAnd, Dv.ap_bOr, Dv.ap_bNot, Dv.ap_bTru, Dv.ap_bYes, Dv.ap_aNil, Dv.ap_aCons, Dv.ap_tup, Dv.ap_lst, Dv.ap_dct, Dv.ap_B, Dv.ap_call, Dv.ap_call0, Dv.ap_sl, Dv.ap_oNo, Dv.ap_oAt, Dv.ap_me, Dv.ap_me0, Dv.ap_for, Dv.ap_iTup, Dv.ap_iLst, Dv.ap_iStr, Dv.ap_raise0, Dv.ap_raise1, Dv.bind_ok, Dv.toS_ok, Dv.get_ok, Dv.noEx_ok, Dv.onG_some, Dv.then_nx, Dv.then_rt, Option.bind_some, List.set_cons_succ, List.set_cons_zero, List.getElem?_cons_zero, List.getElem?_cons_succ, Dv.dEq_ii, Dv.dEq_ss, Dv.dNe_ii, Dv.dNe_ss, Dv.dLt_ii, Dv.dLe_ii, Dv.dGt_ii, Dv.dGe_ii, Dv.dAddG_ii, Dv.dSub_ii, Dv.int1_i, Dv.abs_i, decide_true, decide_false, Bool.false_eq_true, if_true, if_false, Dv.env0, List.map_cons, List.map_nil, List.length_cons, List.length_nil, List.replicate, List.cons_append, List.nil_append, Nat.zero_add, Nat.reduceAdd, Nat.reduceSub, Dv.len_tup, Dv.len_str, Dv.ix_tup', Dv.tru_bl, Dv.dIsN_n, Dv.dNotN_n, Dv.seqOf_tup, Dv.setOf_tup, beq_self_eq_true, Dv.at0, Dv.at1, Dv.at2, Dv.at3, Dv.at4, Bool.not_true, Bool.not_false, Int.reduceEq, isTup g, Bool.not_true, n1, Int.reduceEq, dEqHd, hb, s1, List.isEmpty_cons, Bool.and_false, Bool.not_false, n3, Dv.at0, Dv.at1, Dv.at2, isStr gx]
      cases x with
      | str z =>
        rw [itemD3]
        have hL : (((dl.map D.int).length : Nat) : Int) = (dl.length : Int) := by rw [List.length_map]
        by_cases h1 : z = "begin"
        · subst h1
          simp only [Dv.ap_seq, Dv.ap_next, Dv.ap_ret, Dv.ap_retN, Dv.ap_drop, Dv.ap_break, Dv.ap_cont, Dv.ap_ifS, Dv.ap_asg, Dv.ap_par, Dv.ap_gnm, Dv.ap_gtup, Dv.ap_gcons, Dv.ap_gnil, Dv.ap_gsub, Dv.ap_var, Dv.ap_con, Dv.ap_op, Dv.ap_un, Dv.ap_chain, Dv.ap_and, Dv.ap_or, Dv.ap_not, Dv.ap_if, Dv.ap_test, Dv.ap_bAnd, Dv.ap_bOr, Dv.ap_bNot, Dv.ap_bTru, Dv.ap_bYes, Dv.ap_aNil, Dv.ap_aCons, Dv.ap_tup, Dv.ap_lst, Dv.ap_dct, Dv.ap_B, Dv.ap_call, Dv.ap_call0, Dv.ap_sl, Dv.ap_oNo, Dv.ap_oAt, Dv.ap_me, Dv.ap_me0, Dv.ap_for, Dv.ap_iTup, Dv.ap_iLst, Dv.ap_iStr, Dv.ap_raise0, Dv.ap_raise1, Dv.bind_ok, Dv.toS_ok, Dv.get_ok, Dv.noEx_ok, Dv.onG_some, Dv.then_nx, Dv.then_rt, Option.bind_some, List.set_cons_succ, List.set_cons_zero, List.getElem?_cons_zero, List.getElem?_cons_succ, Dv.dEq_ii, Dv.dEq_ss, Dv.dNe_ii, Dv.dNe_ss, Dv.dLt_ii, Dv.dLe_ii, Dv.dGt_ii, Dv.dGe_ii, Dv.dAddG_ii, Dv.dSub_ii, Dv.int1_i, Dv.abs_i, decide_true, decide_false, Bool.false_eq_true, if_true, if_false, Dv.env0, List.map_cons, List.map_nil, List.length_cons, List.length_nil, List.replicate, List.cons_append, List.nil_append, Nat.zero_add, Nat.reduceAdd, Nat.reduceSub, Dv.len_tup, Dv.len_str, Dv.ix_tup', Dv.tru_bl, Dv.dIsN_n, Dv.dNotN_n, Dv.seqOf_tup, Dv.setOf_tup, beq_self_eq_true, Dv.at0, Dv.at1, Dv.at2, Dv.at3, Dv.at4, Bool.not_true, Bool.not_false, Int.reduceEq, hL, law_is_number gy]
          refine says_thn ?_
          exact says_and (f := fun _ μ => g__law_are_nexts [w, .int letters, .int many] μ) (env := []) (law_are_nexts gw hl)
        · by_cases h2 : z = "on"
          · subst h2
            simp only [Dv.ap_seq, Dv.ap_next, Dv.ap_ret, Dv.ap_retN, Dv.ap_drop, Dv.ap_break, Dv.ap_cont, Dv.ap_ifS, Dv.ap_asg, Dv.ap_par, Dv.ap_gnm, Dv.ap_gtup, Dv.ap_gcons, Dv.ap_gnil, Dv.ap_gsub, Dv.ap_var, Dv.ap_con, Dv.ap_op, Dv.ap_un, Dv.ap_chain, Dv.ap_and, Dv.ap_or, Dv.ap_not, Dv.ap_if, Dv.ap_test, Dv.ap_bAnd, Dv.ap_bOr, Dv.ap_bNot, Dv.ap_bTru, Dv.ap_bYes, Dv.ap_aNil, Dv.ap_aCons, Dv.ap_tup, Dv.ap_lst, Dv.ap_dct, Dv.ap_B, Dv.ap_call, Dv.ap_call0, Dv.ap_sl, Dv.ap_oNo, Dv.ap_oAt, Dv.ap_me, Dv.ap_me0, Dv.ap_for, Dv.ap_iTup, Dv.ap_iLst, Dv.ap_iStr, Dv.ap_raise0, Dv.ap_raise1, Dv.bind_ok, Dv.toS_ok, Dv.get_ok, Dv.noEx_ok, Dv.onG_some, Dv.then_nx, Dv.then_rt, Option.bind_some, List.set_cons_succ, List.set_cons_zero, List.getElem?_cons_zero, List.getElem?_cons_succ, Dv.dEq_ii, Dv.dEq_ss, Dv.dNe_ii, Dv.dNe_ss, Dv.dLt_ii, Dv.dLe_ii, Dv.dGt_ii, Dv.dGe_ii, Dv.dAddG_ii, Dv.dSub_ii, Dv.int1_i, Dv.abs_i, decide_true, decide_false, Bool.false_eq_true, if_true, if_false, Dv.env0, List.map_cons, List.map_nil, List.length_cons, List.length_nil, List.replicate, List.cons_append, List.nil_append, Nat.zero_add, Nat.reduceAdd, Nat.reduceSub, Dv.len_tup, Dv.len_str, Dv.ix_tup', Dv.tru_bl, Dv.dIsN_n, Dv.dNotN_n, Dv.seqOf_tup, Dv.setOf_tup, beq_self_eq_true, Dv.at0, Dv.at1, Dv.at2, Dv.at3, Dv.at4, Bool.not_true, Bool.not_false, Int.reduceEq, h1, max_tup hm, law_is_number gy]
            refine says_thn ?_
            rw [show m + 1 - 1 = m by omega]
            exact says_and (f := fun _ μ => g__law_are_nexts [w, .int letters, .int many] μ) (env := []) (law_are_nexts gw hl)
          · by_cases h3 : z = "leave"
            · subst h3
              simp only [Dv.ap_seq, Dv.ap_next, Dv.ap_ret, Dv.ap_retN, Dv.ap_drop, Dv.ap_break, Dv.ap_cont, Dv.ap_ifS, Dv.ap_asg, Dv.ap_par, Dv.ap_gnm, Dv.ap_gtup, Dv.ap_gcons, Dv.ap_gnil, Dv.ap_gsub, Dv.ap_var, Dv.ap_con, Dv.ap_op, Dv.ap_un, Dv.ap_chain, Dv.ap_and, Dv.ap_or, Dv.ap_not, Dv.ap_if, Dv.ap_test, Dv.ap_bAnd, Dv.ap_bOr, Dv.ap_bNot, Dv.ap_bTru, Dv.ap_bYes, Dv.ap_aNil, Dv.ap_aCons, Dv.ap_tup, Dv.ap_lst, Dv.ap_dct, Dv.ap_B, Dv.ap_call, Dv.ap_call0, Dv.ap_sl, Dv.ap_oNo, Dv.ap_oAt, Dv.ap_me, Dv.ap_me0, Dv.ap_for, Dv.ap_iTup, Dv.ap_iLst, Dv.ap_iStr, Dv.ap_raise0, Dv.ap_raise1, Dv.bind_ok, Dv.toS_ok, Dv.get_ok, Dv.noEx_ok, Dv.onG_some, Dv.then_nx, Dv.then_rt, Option.bind_some, List.set_cons_succ, List.set_cons_zero, List.getElem?_cons_zero, List.getElem?_cons_succ, Dv.dEq_ii, Dv.dEq_ss, Dv.dNe_ii, Dv.dNe_ss, Dv.dLt_ii, Dv.dLe_ii, Dv.dGt_ii, Dv.dGe_ii, Dv.dAddG_ii, Dv.dSub_ii, Dv.int1_i, Dv.abs_i, decide_true, decide_false, Bool.false_eq_true, if_true, if_false, Dv.env0, List.map_cons, List.map_nil, List.length_cons, List.length_nil, List.replicate, List.cons_append, List.nil_append, Nat.zero_add, Nat.reduceAdd, Nat.reduceSub, Dv.len_tup, Dv.len_str, Dv.ix_tup', Dv.tru_bl, Dv.dIsN_n, Dv.dNotN_n, Dv.seqOf_tup, Dv.setOf_tup, beq_self_eq_true, Dv.at0, Dv.at1, Dv.at2, Dv.at3, Dv.at4, Bool.not_true, Bool.not_false, Int.reduceEq, h1, h2, max_tup hm, law_is_number gy, law_is_number gw]
              refine says_thn ?_
              rw [show m + 1 - 1 = m by omega]
              exact says_and (f := fun _ μ => .ok (.bl (btw 0 (many - 1) w)) μ) (env := []) says_ok
            · simp only [Dv.ap_seq, Dv.ap_next, Dv.ap_ret, Dv.ap_retN, Dv.ap_drop, Dv.ap_break, Dv.ap_cont, Dv.ap_ifS, Dv.ap_asg, Dv.ap_par, Dv.ap_gnm, Dv.ap_gtup, Dv.ap_gcons, Dv.ap_gnil, Dv.ap_gsub, Dv.ap_var, Dv.ap_con, Dv.ap_op, Dv.ap_un, Dv.ap_chain, Dv.ap_and, Dv.ap_or, Dv.ap_not, Dv.ap_if, Dv.ap_test, Dv.ap_bAnd, Dv.ap_bOr, Dv.ap_bNot, Dv.ap_bTru, Dv.ap_bYes, Dv.ap_aNil, Dv.ap_aCons, Dv.ap_tup, Dv.ap_lst, Dv.ap_dct, Dv.ap_B, Dv.ap_call, Dv.ap_call0, Dv.ap_sl, Dv.ap_oNo, Dv.ap_oAt, Dv.ap_me, Dv.ap_me0, Dv.ap_for, Dv.ap_iTup, Dv.ap_iLst, Dv.ap_iStr, Dv.ap_raise0, Dv.ap_raise1, Dv.bind_ok, Dv.toS_ok, Dv.get_ok, Dv.noEx_ok, Dv.onG_some, Dv.then_nx, Dv.then_rt, Option.bind_some, List.set_cons_succ, List.set_cons_zero, List.getElem?_cons_zero, List.getElem?_cons_succ, Dv.dEq_ii, Dv.dEq_ss, Dv.dNe_ii, Dv.dNe_ss, Dv.dLt_ii, Dv.dLe_ii, Dv.dGt_ii, Dv.dGe_ii, Dv.dAddG_ii, Dv.dSub_ii, Dv.int1_i, Dv.abs_i, decide_true, decide_false, Bool.false_eq_true, if_true, if_false, Dv.env0, List.map_cons, List.map_nil, List.length_cons, List.length_nil, List.replicate, List.cons_append, List.nil_append, Nat.zero_add, Nat.reduceAdd, Nat.reduceSub, Dv.len_tup, Dv.len_str, Dv.ix_tup', Dv.tru_bl, Dv.dIsN_n, Dv.dNotN_n, Dv.seqOf_tup, Dv.setOf_tup, beq_self_eq_true, Dv.at0, Dv.at1, Dv.at2, Dv.at3, Dv.at4, Bool.not_true, Bool.not_false, Int.reduceEq, h1, h2, h3]
              by_cases h4 : z = "say"
              · subst h4
                simp only [Dv.ap_seq, Dv.ap_next, Dv.ap_ret, Dv.ap_retN, Dv.ap_drop, Dv.ap_break, Dv.ap_cont, Dv.ap_ifS, Dv.ap_asg, Dv.ap_par, Dv.ap_gnm, Dv.ap_gtup, Dv.ap_gcons, Dv.ap_gnil, Dv.ap_gsub, Dv.ap_var, Dv.ap_con, Dv.ap_op, Dv.ap_un, Dv.ap_chain, Dv.ap_and, Dv.ap_or, Dv.ap_not, Dv.ap_if, Dv.ap_test, Dv.ap_bAnd, Dv.ap_bOr, Dv.ap_bNot, Dv.ap_bTru, Dv.ap_bYes, Dv.ap_aNil, Dv.ap_aCons, Dv.ap_tup, Dv.ap_lst, Dv.ap_dct, Dv.ap_B, Dv.ap_call, Dv.ap_call0, Dv.ap_sl, Dv.ap_oNo, Dv.ap_oAt, Dv.ap_me, Dv.ap_me0, Dv.ap_for, Dv.ap_iTup, Dv.ap_iLst, Dv.ap_iStr, Dv.ap_raise0, Dv.ap_raise1, Dv.bind_ok, Dv.toS_ok, Dv.get_ok, Dv.noEx_ok, Dv.onG_some, Dv.then_nx, Dv.then_rt, Option.bind_some, List.set_cons_succ, List.set_cons_zero, List.getElem?_cons_zero, List.getElem?_cons_succ, Dv.dEq_ii, Dv.dEq_ss, Dv.dNe_ii, Dv.dNe_ss, Dv.dLt_ii, Dv.dLe_ii, Dv.dGt_ii, Dv.dGe_ii, Dv.dAddG_ii, Dv.dSub_ii, Dv.int1_i, Dv.abs_i, decide_true, decide_false, Bool.false_eq_true, if_true, if_false, Dv.env0, List.map_cons, List.map_nil, List.length_cons, List.length_nil, List.replicate, List.cons_append, List.nil_append, Nat.zero_add, Nat.reduceAdd, Nat.reduceSub, Dv.len_tup, Dv.len_str, Dv.ix_tup', Dv.tru_bl, Dv.dIsN_n, Dv.dNotN_n, Dv.seqOf_tup, Dv.setOf_tup, beq_self_eq_true, Dv.at0, Dv.at1, Dv.at2, Dv.at3, Dv.at4, Bool.not_true, Bool.not_false, Int.reduceEq]
                refine says_out ?_
                obtain ⟨l, hw⟩ := law_is_word gy
                rw [hw]
                simp only [Dv.ap_seq, Dv.ap_next, Dv.ap_ret, Dv.ap_retN, Dv.ap_drop, Dv.ap_break, Dv.ap_cont, Dv.ap_ifS, Dv.ap_asg, Dv.ap_par, Dv.ap_gnm, Dv.ap_gtup, Dv.ap_gcons, Dv.ap_gnil, Dv.ap_gsub, Dv.ap_var, Dv.ap_con, Dv.ap_op, Dv.ap_un, Dv.ap_chain, Dv.ap_and, Dv.ap_or, Dv.ap_not, Dv.ap_if, Dv.ap_test, Dv.ap_bAnd, Dv.ap_bOr, Dv.ap_bNot, Dv.ap_bTru, Dv.ap_bYes, Dv.ap_aNil, Dv.ap_aCons, Dv.ap_tup, Dv.ap_lst, Dv.ap_dct, Dv.ap_B, Dv.ap_call, Dv.ap_call0, Dv.ap_sl, Dv.ap_oNo, Dv.ap_oAt, Dv.ap_me, Dv.ap_me0, Dv.ap_for, Dv.ap_iTup, Dv.ap_iLst, Dv.ap_iStr, Dv.ap_raise0, Dv.ap_raise1, Dv.bind_ok, Dv.toS_ok, Dv.get_ok, Dv.noEx_ok, Dv.onG_some, Dv.then_nx, Dv.then_rt, Option.bind_some, List.set_cons_succ, List.set_cons_zero, List.getElem?_cons_zero, List.getElem?_cons_succ, Dv.dEq_ii, Dv.dEq_ss, Dv.dNe_ii, Dv.dNe_ss, Dv.dLt_ii, Dv.dLe_ii, Dv.dGt_ii, Dv.dGe_ii, Dv.dAddG_ii, Dv.dSub_ii, Dv.int1_i, Dv.abs_i, decide_true, decide_false, Bool.false_eq_true, if_true, if_false, Dv.env0, List.map_cons, List.map_nil, List.length_cons, List.length_nil, List.replicate, List.cons_append, List.nil_append, Nat.zero_add, Nat.reduceAdd, Nat.reduceSub, Dv.len_tup, Dv.len_str, Dv.ix_tup', Dv.tru_bl, Dv.dIsN_n, Dv.dNotN_n, Dv.seqOf_tup, Dv.setOf_tup, beq_self_eq_true, Dv.at0, Dv.at1, Dv.at2, Dv.at3, Dv.at4, Bool.not_true, Bool.not_false, Int.reduceEq, law_is_number (gw.keep (Ty.app (l := l)))]
                cases wordD y with
                | true => exact ⟨l, by simp⟩
                | false => exact ⟨l, by simp⟩
              · simp only [Dv.ap_seq, Dv.ap_next, Dv.ap_ret, Dv.ap_retN, Dv.ap_drop, Dv.ap_break, Dv.ap_cont, Dv.ap_ifS, Dv.ap_asg, Dv.ap_par, Dv.ap_gnm, Dv.ap_gtup, Dv.ap_gcons, Dv.ap_gnil, Dv.ap_gsub, Dv.ap_var, Dv.ap_con, Dv.ap_op, Dv.ap_un, Dv.ap_chain, Dv.ap_and, Dv.ap_or, Dv.ap_not, Dv.ap_if, Dv.ap_test, Dv.ap_bAnd, Dv.ap_bOr, Dv.ap_bNot, Dv.ap_bTru, Dv.ap_bYes, Dv.ap_aNil, Dv.ap_aCons, Dv.ap_tup, Dv.ap_lst, Dv.ap_dct, Dv.ap_B, Dv.ap_call, Dv.ap_call0, Dv.ap_sl, Dv.ap_oNo, Dv.ap_oAt, Dv.ap_me, Dv.ap_me0, Dv.ap_for, Dv.ap_iTup, Dv.ap_iLst, Dv.ap_iStr, Dv.ap_raise0, Dv.ap_raise1, Dv.bind_ok, Dv.toS_ok, Dv.get_ok, Dv.noEx_ok, Dv.onG_some, Dv.then_nx, Dv.then_rt, Option.bind_some, List.set_cons_succ, List.set_cons_zero, List.getElem?_cons_zero, List.getElem?_cons_succ, Dv.dEq_ii, Dv.dEq_ss, Dv.dNe_ii, Dv.dNe_ss, Dv.dLt_ii, Dv.dLe_ii, Dv.dGt_ii, Dv.dGe_ii, Dv.dAddG_ii, Dv.dSub_ii, Dv.int1_i, Dv.abs_i, decide_true, decide_false, Bool.false_eq_true, if_true, if_false, Dv.env0, List.map_cons, List.map_nil, List.length_cons, List.length_nil, List.replicate, List.cons_append, List.nil_append, Nat.zero_add, Nat.reduceAdd, Nat.reduceSub, Dv.len_tup, Dv.len_str, Dv.ix_tup', Dv.tru_bl, Dv.dIsN_n, Dv.dNotN_n, Dv.seqOf_tup, Dv.setOf_tup, beq_self_eq_true, Dv.at0, Dv.at1, Dv.at2, Dv.at3, Dv.at4, Bool.not_true, Bool.not_false, Int.reduceEq, h4]
                exact says_ok
      | _ => exact says_ok
    | x :: y :: w :: v :: r, gs, hd =>
      obtain ⟨b, hb⟩ := hd x (y :: w :: v :: r) rfl
      refine ⟨[], ?_⟩
      rw [List.append_nil]
      have n1 : ¬ (((r.length + 1 + 1 + 1 + 1 : Nat) : Int) = 0) := by omega
      have n3 : ¬ (((r.length + 1 + 1 + 1 + 1 : Nat) : Int) = 3) := by omega
      have n4 : ¬ (((r.length + 1 + 1 + 1 + 1 : Nat) : Int) = 1) := by omega
      have s1 : 1 ≤ sizeLine := by rw [sizeLine_eq]; omega
      simp only [Dv.ap_seq, Dv.ap_next, Dv.ap_ret, Dv.ap_retN, Dv.ap_drop, Dv.ap_break, Dv.ap_cont, Dv.ap_ifS, Dv.ap_asg, Dv.ap_par, Dv.ap_gnm, Dv.ap_gtup, Dv.ap_gcons, Dv.ap_gnil, Dv.ap_gsub, Dv.ap_var, Dv.ap_con, Dv.ap_op, Dv.ap_un, Dv.ap_chain, Dv.ap_and, Dv.ap_or, Dv.ap_not, Dv.ap_if, Dv.ap_test, Dv.ap_bAnd, Dv.ap_bOr, Dv.ap_bNot, Dv.ap_bTru, Dv.ap_bYes, Dv.ap_aNil, Dv.ap_aCons, Dv.ap_tup, Dv.ap_lst, Dv.ap_dct, Dv.ap_B, Dv.ap_call, Dv.ap_call0, Dv.ap_sl, Dv.ap_oNo, Dv.ap_oAt, Dv.ap_me, Dv.ap_me0, Dv.ap_for, Dv.ap_iTup, Dv.ap_iLst, Dv.ap_iStr, Dv.ap_raise0, Dv.ap_raise1, Dv.bind_ok, Dv.toS_ok, Dv.get_ok, Dv.noEx_ok, Dv.onG_some, Dv.then_nx, Dv.then_rt, Option.bind_some, List.set_cons_succ, List.set_cons_zero, List.getElem?_cons_zero, List.getElem?_cons_succ, Dv.dEq_ii, Dv.dEq_ss, Dv.dNe_ii, Dv.dNe_ss, Dv.dLt_ii, Dv.dLe_ii, Dv.dGt_ii, Dv.dGe_ii, Dv.dAddG_ii, Dv.dSub_ii, Dv.int1_i, Dv.abs_i, decide_true, decide_false, Bool.false_eq_true, if_true, if_false, Dv.env0, List.map_cons, List.map_nil, List.length_cons, List.length_nil, List.replicate, List.cons_append, List.nil_append, Nat.zero_add, Nat.reduceAdd, Nat.reduceSub, Dv.len_tup, Dv.len_str, Dv.ix_tup', Dv.tru_bl, Dv.dIsN_n, Dv.dNotN_n, Dv.seqOf_tup, Dv.setOf_tup, beq_self_eq_true, Dv.at0, Dv.at1, Dv.at2, Dv.at3, Dv.at4, Bool.not_true, Bool.not_false, Int.reduceEq, isTup g, Bool.not_true, n1, dEqHd, hb, s1, List.isEmpty_cons, Bool.and_false, Bool.not_false, n3]
      cases x with
      | str z =>
        simp only [itemD, sh3, isItemD, List.length_cons, n4, decide_false, Bool.false_and, Bool.or_false]
        rfl
      | _ => rfl
  | _ =>
    refine ⟨[], ?_⟩
    rw [List.append_nil]
    simp only [Dv.ap_seq, Dv.ap_next, Dv.ap_ret, Dv.ap_retN, Dv.ap_drop, Dv.ap_break, Dv.ap_cont, Dv.ap_ifS, Dv.ap_asg, Dv.ap_par, Dv.ap_gnm, Dv.ap_gtup, Dv.ap_gcons, Dv.ap_gnil, Dv.ap_gsub, Dv.ap_var, Dv.ap_con, Dv.ap_op, Dv.ap_un, Dv.ap_chain, Dv.ap_and, Dv.ap_or, Dv.ap_not, Dv.ap_if, Dv.ap_test, Dv.ap_bAnd, Dv.ap_bOr, Dv.ap_bNot, Dv.ap_bTru, Dv.ap_bYes, Dv.ap_aNil, Dv.ap_aCons, Dv.ap_tup, Dv.ap_lst, Dv.ap_dct, Dv.ap_B, Dv.ap_call, Dv.ap_call0, Dv.ap_sl, Dv.ap_oNo, Dv.ap_oAt, Dv.ap_me, Dv.ap_me0, Dv.ap_for, Dv.ap_iTup, Dv.ap_iLst, Dv.ap_iStr, Dv.ap_raise0, Dv.ap_raise1, Dv.bind_ok, Dv.toS_ok, Dv.get_ok, Dv.noEx_ok, Dv.onG_some, Dv.then_nx, Dv.then_rt, Option.bind_some, List.set_cons_succ, List.set_cons_zero, List.getElem?_cons_zero, List.getElem?_cons_succ, Dv.dEq_ii, Dv.dEq_ss, Dv.dNe_ii, Dv.dNe_ss, Dv.dLt_ii, Dv.dLe_ii, Dv.dGt_ii, Dv.dGe_ii, Dv.dAddG_ii, Dv.dSub_ii, Dv.int1_i, Dv.abs_i, decide_true, decide_false, Bool.false_eq_true, if_true, if_false, Dv.env0, List.map_cons, List.map_nil, List.length_cons, List.length_nil, List.replicate, List.cons_append, List.nil_append, Nat.zero_add, Nat.reduceAdd, Nat.reduceSub, Dv.len_tup, Dv.len_str, Dv.ix_tup', Dv.tru_bl, Dv.dIsN_n, Dv.dNotN_n, Dv.seqOf_tup, Dv.setOf_tup, beq_self_eq_true, Dv.at0, Dv.at1, Dv.at2, Dv.at3, Dv.at4, Bool.not_true, Bool.not_false, Int.reduceEq, isTup g, Bool.not_false]
    rfl
end Law

set_option maxRecDepth 100000
set_option maxHeartbeats 4000000
namespace Law
open PySem PySem.Spec PyProof.Rows L2 Dv
theorem Hd.app {μ l : Mem} {d : D} (h : Hd μ d) : Hd (μ ++ l) d := fun x r e => by
  obtain ⟨b, hb⟩ := h x r e
  refine ⟨b, ?_⟩
  cases x with
  | cell n =>
    simp only [hdB] at hb ⊢
    cases e : μ[n]? with
    | none => rw [e] at hb; cases hb
    | some c => rw [app_at e]; rw [e] at hb; exact hb
  | _ => exact hb
theorem all_grow {f : FI} {v : Nat} {e : F} {env : Dv.Env} {μ μ1 : Mem} {items : List D} {g : List (Nat × List D)} (p : D → Bool) (hf : f env μ = .ok ⟨items, g⟩ μ1) (hg : gok g μ1) (hl : items.length ≤ sizeLine)
    (hs : ∀ x ∈ items, ∀ l, Says (p x) (μ1 ++ l) (e (env.set v (some x)) (μ1 ++ l))) :
    ∃ l, ((fLc f (gNm v) bYes e [v] env μ).bind fun x μ1 => (R.ok [x] μ1 : R (List D))).bind dAll = .ok (.bl (items.all p)) (μ1 ++ l) := by
  obtain ⟨d, μ', h1, acc, rfl, ⟨⟨l, h2⟩, h3⟩, h4⟩ := lc_map (v := v) (e := e) hf (fun i acc m => (∃ l, m = μ1 ++ C.lst acc :: l) ∧ acc = (items.take i).map fun x => .bl (p x)) (fun i acc m q z hz => by
      obtain ⟨⟨l, q1⟩, _⟩ := q
      rw [q1]
      exact app_at (hg z hz)) ⟨⟨[], rfl⟩, by simp⟩ (fun i x acc m hx q hm => by
      obtain ⟨⟨l, q1⟩, q2⟩ := q
      subst q1
      have hi := (List.getElem?_eq_some_iff.mp hx).1
      obtain ⟨l2, e2⟩ := hs x (List.mem_of_getElem? hx) (C.lst acc :: l)
      refine ⟨_, _, e2, app_at hm, ?_, ⟨l ++ l2, ?_⟩, ?_⟩
      · rw [q2, List.length_map, List.length_take]; omega
      · simp
      · rw [q2, List.take_add_one, hx]; simp)
  refine ⟨C.lst acc :: l, ?_⟩
  rw [h1, bind_ok, bind_ok, ← h2]
  rw [dAll_cell (bs := items.map p) (by rw [h4, h3, List.take_of_length_le (Nat.le_refl _), List.map_map]; simp [Function.comp_def])]
  rw [List.all_map]
  rfl
def optD : Option Str → D
  | some z => .str z
  | none => .non
def intOf : D → Int
  | .int i => i
  | _ => 0
def handsOf : D → Int
  | .tup xs => (maxI (intsL xs)).getD 0 + 1
  | _ => 0
noncomputable def wrongD (r l d p t : D) : Option Str :=
  if btw 1 6 r = false then some "rows" else if btw 1 3 l = false then some "letters" else if dealD (intOf r) d = false then some "dealing" else if depthD (handsOf d) p = false then some "depth" else if tableD (intOf r) (handsOf d) (intOf l) 20000 t = false then some "table" else none
theorem btw_int {lo hi : Int} {d : D} (h : btw lo hi d = true) : ∃ i, d = .int i ∧ lo ≤ i ∧ i ≤ hi := by
  cases d with
  | int i => simp only [btw, Bool.and_eq_true, decide_eq_true_eq] at h; exact ⟨i, rfl, h⟩
  | _ => cases h
theorem deal_at {rows : Int} {d : D} (h : dealD rows d = true) (r1 : 1 ≤ rows) : ∃ dl m, d = .tup (dl.map .int) ∧ (dl.length : Int) = rows ∧ maxI dl = some m ∧ handsOf d = m + 1 ∧ 0 ≤ m := by
  cases d with
  | tup xs =>
    simp only [dealD, Bool.and_eq_true, decide_eq_true_eq] at h
    obtain ⟨h1, h2, h3⟩ := h
    obtain ⟨hx, hb⟩ := all_ints h2
    have hl : (intsL xs).length = xs.length := by unfold intsL; rw [List.length_map]
    obtain ⟨m, hm⟩ := maxI_some (ns := intsL xs) (by intro z; rw [z] at hl; simp at hl; omega)
    exact ⟨intsL xs, m, by rw [← hx], by omega, hm, by simp only [handsOf, hm, Option.getD_some], (hb m (maxI_spec hm).1).1⟩
  | _ => cases h
theorem seq_nx {s1 s2 : S} {env env' : Dv.Env} {μ μ' : Mem} (h : s1 env μ = .nx env' μ') : sSeq s1 s2 env μ = s2 env' μ' := by rw [ap_seq, h]; rfl
theorem law_wrong {μ : Mem} {r l d p t : D} (gr : Good μ r) (gl : Good μ l) (gd : Good μ d) (gp : Good μ p) (gt : Good μ t) (hh : ∀ xs, t = .tup xs → ∀ x ∈ xs, Hd μ x) :
    ∃ l', g__law_wrong [.tup [r, l, d, p, t]] μ = .ok (optD (wrongD r l d p t)) (μ ++ l') := by
  unfold g__law_wrong b__law_wrong runB
  by_cases h1 : btw 1 6 r = true
  rotate_left
  · have h1 : btw 1 6 r = false := by simpa using h1
    refine ⟨[], ?_⟩
    rw [List.append_nil]
    simp only [Dv.ap_seq, Dv.ap_next, Dv.ap_ret, Dv.ap_retN, Dv.ap_drop, Dv.ap_break, Dv.ap_cont, Dv.ap_ifS, Dv.ap_asg, Dv.ap_par, Dv.ap_gnm, Dv.ap_gtup, Dv.ap_gcons, Dv.ap_gnil, Dv.ap_gsub, Dv.ap_var, Dv.ap_con, Dv.ap_op, Dv.ap_un, Dv.ap_chain, Dv.ap_and, Dv.ap_or, Dv.ap_not, Dv.ap_if, Dv.ap_test, Dv.ap_bAnd, Dv.ap_bOr, Dv.ap_bNot, Dv.ap_bTru, Dv.ap_bYes, Dv.ap_aNil, Dv.ap_aCons, Dv.ap_tup, Dv.ap_lst, Dv.ap_dct, Dv.ap_B, Dv.ap_call, Dv.ap_call0, Dv.ap_sl, Dv.ap_oNo, Dv.ap_oAt, Dv.ap_me, Dv.ap_me0, Dv.ap_for, Dv.ap_iTup, Dv.ap_iLst, Dv.ap_iStr, Dv.ap_raise0, Dv.ap_raise1, Dv.bind_ok, Dv.toS_ok, Dv.get_ok, Dv.noEx_ok, Dv.onG_some, Dv.then_nx, Dv.then_rt, Option.bind_some, List.set_cons_succ, List.set_cons_zero, List.getElem?_cons_zero, List.getElem?_cons_succ, Dv.dEq_ii, Dv.dEq_ss, Dv.dNe_ii, Dv.dNe_ss, Dv.dLt_ii, Dv.dLe_ii, Dv.dGt_ii, Dv.dGe_ii, Dv.dAddG_ii, Dv.dSub_ii, Dv.int1_i, Dv.abs_i, decide_true, decide_false, Bool.false_eq_true, if_true, if_false, Dv.env0, List.map_cons, List.map_nil, List.length_cons, List.length_nil, List.replicate, List.cons_append, List.nil_append, Nat.zero_add, Nat.reduceAdd, Nat.reduceSub, Dv.len_tup, Dv.len_str, Dv.ix_tup', Dv.tru_bl, Dv.dIsN_n, Dv.dNotN_n, Dv.seqOf_tup, Dv.setOf_tup, beq_self_eq_true, Dv.at0, Dv.at1, Dv.at2, Dv.at3, Dv.at4, Bool.not_true, Bool.not_false, Int.reduceEq, ap_gtup, ap_gcons, ap_gnil, law_is_number gr, h1, wrongD]
    rfl
  obtain ⟨rows, rfl, r1, r6⟩ := btw_int h1
  by_cases h2 : btw 1 3 l = true
  rotate_left
  · have h2 : btw 1 3 l = false := by simpa using h2
    refine ⟨[], ?_⟩
    rw [List.append_nil]
    simp only [Dv.ap_seq, Dv.ap_next, Dv.ap_ret, Dv.ap_retN, Dv.ap_drop, Dv.ap_break, Dv.ap_cont, Dv.ap_ifS, Dv.ap_asg, Dv.ap_par, Dv.ap_gnm, Dv.ap_gtup, Dv.ap_gcons, Dv.ap_gnil, Dv.ap_gsub, Dv.ap_var, Dv.ap_con, Dv.ap_op, Dv.ap_un, Dv.ap_chain, Dv.ap_and, Dv.ap_or, Dv.ap_not, Dv.ap_if, Dv.ap_test, Dv.ap_bAnd, Dv.ap_bOr, Dv.ap_bNot, Dv.ap_bTru, Dv.ap_bYes, Dv.ap_aNil, Dv.ap_aCons, Dv.ap_tup, Dv.ap_lst, Dv.ap_dct, Dv.ap_B, Dv.ap_call, Dv.ap_call0, Dv.ap_sl, Dv.ap_oNo, Dv.ap_oAt, Dv.ap_me, Dv.ap_me0, Dv.ap_for, Dv.ap_iTup, Dv.ap_iLst, Dv.ap_iStr, Dv.ap_raise0, Dv.ap_raise1, Dv.bind_ok, Dv.toS_ok, Dv.get_ok, Dv.noEx_ok, Dv.onG_some, Dv.then_nx, Dv.then_rt, Option.bind_some, List.set_cons_succ, List.set_cons_zero, List.getElem?_cons_zero, List.getElem?_cons_succ, Dv.dEq_ii, Dv.dEq_ss, Dv.dNe_ii, Dv.dNe_ss, Dv.dLt_ii, Dv.dLe_ii, Dv.dGt_ii, Dv.dGe_ii, Dv.dAddG_ii, Dv.dSub_ii, Dv.int1_i, Dv.abs_i, decide_true, decide_false, Bool.false_eq_true, if_true, if_false, Dv.env0, List.map_cons, List.map_nil, List.length_cons, List.length_nil, List.replicate, List.cons_append, List.nil_append, Nat.zero_add, Nat.reduceAdd, Nat.reduceSub, Dv.len_tup, Dv.len_str, Dv.ix_tup', Dv.tru_bl, Dv.dIsN_n, Dv.dNotN_n, Dv.seqOf_tup, Dv.setOf_tup, beq_self_eq_true, Dv.at0, Dv.at1, Dv.at2, Dv.at3, Dv.at4, Bool.not_true, Bool.not_false, Int.reduceEq, ap_gtup, ap_gcons, ap_gnil, law_is_number gr, law_is_number gl, h1, h2, wrongD, Bool.true_eq_false]
    rfl
  obtain ⟨letters, rfl, l1, l3⟩ := btw_int h2
  obtain ⟨lA, hA⟩ := law_is_dealing gd r1 r6
  by_cases h3 : dealD rows d = true
  rotate_left
  · have h3 : dealD rows d = false := by simpa using h3
    refine ⟨lA, ?_⟩
    rw [h3] at hA
    simp only [Dv.ap_seq, Dv.ap_next, Dv.ap_ret, Dv.ap_retN, Dv.ap_drop, Dv.ap_break, Dv.ap_cont, Dv.ap_ifS, Dv.ap_asg, Dv.ap_par, Dv.ap_gnm, Dv.ap_gtup, Dv.ap_gcons, Dv.ap_gnil, Dv.ap_gsub, Dv.ap_var, Dv.ap_con, Dv.ap_op, Dv.ap_un, Dv.ap_chain, Dv.ap_and, Dv.ap_or, Dv.ap_not, Dv.ap_if, Dv.ap_test, Dv.ap_bAnd, Dv.ap_bOr, Dv.ap_bNot, Dv.ap_bTru, Dv.ap_bYes, Dv.ap_aNil, Dv.ap_aCons, Dv.ap_tup, Dv.ap_lst, Dv.ap_dct, Dv.ap_B, Dv.ap_call, Dv.ap_call0, Dv.ap_sl, Dv.ap_oNo, Dv.ap_oAt, Dv.ap_me, Dv.ap_me0, Dv.ap_for, Dv.ap_iTup, Dv.ap_iLst, Dv.ap_iStr, Dv.ap_raise0, Dv.ap_raise1, Dv.bind_ok, Dv.toS_ok, Dv.get_ok, Dv.noEx_ok, Dv.onG_some, Dv.then_nx, Dv.then_rt, Option.bind_some, List.set_cons_succ, List.set_cons_zero, List.getElem?_cons_zero, List.getElem?_cons_succ, Dv.dEq_ii, Dv.dEq_ss, Dv.dNe_ii, Dv.dNe_ss, Dv.dLt_ii, Dv.dLe_ii, Dv.dGt_ii, Dv.dGe_ii, Dv.dAddG_ii, Dv.dSub_ii, Dv.int1_i, Dv.abs_i, decide_true, decide_false, Bool.false_eq_true, if_true, if_false, Dv.env0, List.map_cons, List.map_nil, List.length_cons, List.length_nil, List.replicate, List.cons_append, List.nil_append, Nat.zero_add, Nat.reduceAdd, Nat.reduceSub, Dv.len_tup, Dv.len_str, Dv.ix_tup', Dv.tru_bl, Dv.dIsN_n, Dv.dNotN_n, Dv.seqOf_tup, Dv.setOf_tup, beq_self_eq_true, Dv.at0, Dv.at1, Dv.at2, Dv.at3, Dv.at4, Bool.not_true, Bool.not_false, Int.reduceEq, ap_gtup, ap_gcons, ap_gnil, law_is_number gr, law_is_number gl, h1, h2, wrongD, Bool.true_eq_false, intOf, hA, h3]
    rfl
  obtain ⟨dl, m, rfl, hlen, hm, hh', m0⟩ := deal_at h3 r1
  rw [h3] at hA
  have gp' := gp.keep (Ty.app (l := lA))
  have hdp : depthD (m + 1) p = (btw 1 60 p || (Dv.isNon p && decide (m = 0))) := by
    cases p with
    | non => simp only [depthD, btw, Dv.isNon, Bool.false_or, Bool.true_and]; rw [Bool.eq_iff_iff]; simp; omega
    | _ => simp [depthD, Dv.isNon]
  have hw : wrongD (.int rows) (.int letters) (.tup (dl.map .int)) p t = if (btw 1 60 p || (Dv.isNon p && decide (m = 0))) = false then some ("depth" : Str) else if tableD rows (m + 1) letters 20000 t = false then some ("table" : Str) else none := by
    simp only [wrongD, h1, h2, intOf, h3, hh', hdp, Bool.true_eq_false, if_false]
  rw [hw]
  have hq : ∀ (k : S) (env : Dv.Env), (sSeq (sIf (bAnd (bNot (bTru (fCall (fun ds μ => if ds.length = 3 then g__law_is_number ds μ else .no) (aCons (fVar 4) (aCons (fCon (.int 1)) (aCons (fCon (.int 60)) aNil)))))) (bOr (bTest (fOp dNotN (fVar 4) (fCon .non))) (bTest (fOp dGt (fB dMaxG (aCons (fVar 3) aNil)) (fCon (.int 0)))))) (sRet (fCon (.str "depth"))) sNext) k) [some (.tup [.int rows, .int letters, .tup (dl.map .int), p, t]), some (.int rows), some (.int letters), some (.tup (dl.map .int)), some p, some t, none] (μ ++ lA) = if (btw 1 60 p || (Dv.isNon p && decide (m = 0))) = false then .rt (.str "depth") (μ ++ lA) else k [some (.tup [.int rows, .int letters, .tup (dl.map .int), p, t]), some (.int rows), some (.int letters), some (.tup (dl.map .int)), some p, some t, none] (μ ++ lA) := by
    intro k env
    simp only [Dv.ap_seq, Dv.ap_next, Dv.ap_ret, Dv.ap_retN, Dv.ap_drop, Dv.ap_break, Dv.ap_cont, Dv.ap_ifS, Dv.ap_asg, Dv.ap_par, Dv.ap_gnm, Dv.ap_gtup, Dv.ap_gcons, Dv.ap_gnil, Dv.ap_gsub, Dv.ap_var, Dv.ap_con, Dv.ap_op, Dv.ap_un, Dv.ap_chain, Dv.ap_and, Dv.ap_or, Dv.ap_not, Dv.ap_if, Dv.ap_test, Dv.ap_bAnd, Dv.ap_bOr, Dv.ap_bNot, Dv.ap_bTru, Dv.ap_bYes, Dv.ap_aNil, Dv.ap_aCons, Dv.ap_tup, Dv.ap_lst, Dv.ap_dct, Dv.ap_B, Dv.ap_call, Dv.ap_call0, Dv.ap_sl, Dv.ap_oNo, Dv.ap_oAt, Dv.ap_me, Dv.ap_me0, Dv.ap_for, Dv.ap_iTup, Dv.ap_iLst, Dv.ap_iStr, Dv.ap_raise0, Dv.ap_raise1, Dv.bind_ok, Dv.toS_ok, Dv.get_ok, Dv.noEx_ok, Dv.onG_some, Dv.then_nx, Dv.then_rt, Option.bind_some, List.set_cons_succ, List.set_cons_zero, List.getElem?_cons_zero, List.getElem?_cons_succ, Dv.dEq_ii, Dv.dEq_ss, Dv.dNe_ii, Dv.dNe_ss, Dv.dLt_ii, Dv.dLe_ii, Dv.dGt_ii, Dv.dGe_ii, Dv.dAddG_ii, Dv.dSub_ii, Dv.int1_i, Dv.abs_i, decide_true, decide_false, Bool.false_eq_true, if_true, if_false, Dv.env0, List.map_cons, List.map_nil, List.length_cons, List.length_nil, List.replicate, List.cons_append, List.nil_append, Nat.zero_add, Nat.reduceAdd, Nat.reduceSub, Dv.len_tup, Dv.len_str, Dv.ix_tup', Dv.tru_bl, Dv.dIsN_n, Dv.dNotN_n, Dv.seqOf_tup, Dv.setOf_tup, beq_self_eq_true, Dv.at0, Dv.at1, Dv.at2, Dv.at3, Dv.at4, Bool.not_true, Bool.not_false, Int.reduceEq, law_is_number gp', max_tup hm]
    cases btw 1 60 p with
    | true => simp only [Dv.ap_seq, Dv.ap_next, Dv.ap_ret, Dv.ap_retN, Dv.ap_drop, Dv.ap_break, Dv.ap_cont, Dv.ap_ifS, Dv.ap_asg, Dv.ap_par, Dv.ap_gnm, Dv.ap_gtup, Dv.ap_gcons, Dv.ap_gnil, Dv.ap_gsub, Dv.ap_var, Dv.ap_con, Dv.ap_op, Dv.ap_un, Dv.ap_chain, Dv.ap_and, Dv.ap_or, Dv.ap_not, Dv.ap_if, Dv.ap_test, Dv.ap_bAnd, Dv.ap_bOr, Dv.ap_bNot, Dv.ap_bTru, Dv.ap_bYes, Dv.ap_aNil, Dv.ap_aCons, Dv.ap_tup, Dv.ap_lst, Dv.ap_dct, Dv.ap_B, Dv.ap_call, Dv.ap_call0, Dv.ap_sl, Dv.ap_oNo, Dv.ap_oAt, Dv.ap_me, Dv.ap_me0, Dv.ap_for, Dv.ap_iTup, Dv.ap_iLst, Dv.ap_iStr, Dv.ap_raise0, Dv.ap_raise1, Dv.bind_ok, Dv.toS_ok, Dv.get_ok, Dv.noEx_ok, Dv.onG_some, Dv.then_nx, Dv.then_rt, Option.bind_some, List.set_cons_succ, List.set_cons_zero, List.getElem?_cons_zero, List.getElem?_cons_succ, Dv.dEq_ii, Dv.dEq_ss, Dv.dNe_ii, Dv.dNe_ss, Dv.dLt_ii, Dv.dLe_ii, Dv.dGt_ii, Dv.dGe_ii, Dv.dAddG_ii, Dv.dSub_ii, Dv.int1_i, Dv.abs_i, decide_true, decide_false, Bool.false_eq_true, if_true, if_false, Dv.env0, List.map_cons, List.map_nil, List.length_cons, List.length_nil, List.replicate, List.cons_append, List.nil_append, Nat.zero_add, Nat.reduceAdd, Nat.reduceSub, Dv.len_tup, Dv.len_str, Dv.ix_tup', Dv.tru_bl, Dv.dIsN_n, Dv.dNotN_n, Dv.seqOf_tup, Dv.setOf_tup, beq_self_eq_true, Dv.at0, Dv.at1, Dv.at2, Dv.at3, Dv.at4, Bool.not_true, Bool.not_false, Int.reduceEq, Bool.true_or, Bool.true_eq_false]
    | false =>
      cases Dv.isNon p with
      | false => simp only [Dv.ap_seq, Dv.ap_next, Dv.ap_ret, Dv.ap_retN, Dv.ap_drop, Dv.ap_break, Dv.ap_cont, Dv.ap_ifS, Dv.ap_asg, Dv.ap_par, Dv.ap_gnm, Dv.ap_gtup, Dv.ap_gcons, Dv.ap_gnil, Dv.ap_gsub, Dv.ap_var, Dv.ap_con, Dv.ap_op, Dv.ap_un, Dv.ap_chain, Dv.ap_and, Dv.ap_or, Dv.ap_not, Dv.ap_if, Dv.ap_test, Dv.ap_bAnd, Dv.ap_bOr, Dv.ap_bNot, Dv.ap_bTru, Dv.ap_bYes, Dv.ap_aNil, Dv.ap_aCons, Dv.ap_tup, Dv.ap_lst, Dv.ap_dct, Dv.ap_B, Dv.ap_call, Dv.ap_call0, Dv.ap_sl, Dv.ap_oNo, Dv.ap_oAt, Dv.ap_me, Dv.ap_me0, Dv.ap_for, Dv.ap_iTup, Dv.ap_iLst, Dv.ap_iStr, Dv.ap_raise0, Dv.ap_raise1, Dv.bind_ok, Dv.toS_ok, Dv.get_ok, Dv.noEx_ok, Dv.onG_some, Dv.then_nx, Dv.then_rt, Option.bind_some, List.set_cons_succ, List.set_cons_zero, List.getElem?_cons_zero, List.getElem?_cons_succ, Dv.dEq_ii, Dv.dEq_ss, Dv.dNe_ii, Dv.dNe_ss, Dv.dLt_ii, Dv.dLe_ii, Dv.dGt_ii, Dv.dGe_ii, Dv.dAddG_ii, Dv.dSub_ii, Dv.int1_i, Dv.abs_i, decide_true, decide_false, Bool.false_eq_true, if_true, if_false, Dv.env0, List.map_cons, List.map_nil, List.length_cons, List.length_nil, List.replicate, List.cons_append, List.nil_append, Nat.zero_add, Nat.reduceAdd, Nat.reduceSub, Dv.len_tup, Dv.len_str, Dv.ix_tup', Dv.tru_bl, Dv.dIsN_n, Dv.dNotN_n, Dv.seqOf_tup, Dv.setOf_tup, beq_self_eq_true, Dv.at0, Dv.at1, Dv.at2, Dv.at3, Dv.at4, Bool.not_true, Bool.not_false, Int.reduceEq, Bool.false_or, Bool.false_and]
      | true =>
        by_cases m1 : m = 0
        · have m2 : ¬ (0 < m) := by omega
          simp only [Dv.ap_seq, Dv.ap_next, Dv.ap_ret, Dv.ap_retN, Dv.ap_drop, Dv.ap_break, Dv.ap_cont, Dv.ap_ifS, Dv.ap_asg, Dv.ap_par, Dv.ap_gnm, Dv.ap_gtup, Dv.ap_gcons, Dv.ap_gnil, Dv.ap_gsub, Dv.ap_var, Dv.ap_con, Dv.ap_op, Dv.ap_un, Dv.ap_chain, Dv.ap_and, Dv.ap_or, Dv.ap_not, Dv.ap_if, Dv.ap_test, Dv.ap_bAnd, Dv.ap_bOr, Dv.ap_bNot, Dv.ap_bTru, Dv.ap_bYes, Dv.ap_aNil, Dv.ap_aCons, Dv.ap_tup, Dv.ap_lst, Dv.ap_dct, Dv.ap_B, Dv.ap_call, Dv.ap_call0, Dv.ap_sl, Dv.ap_oNo, Dv.ap_oAt, Dv.ap_me, Dv.ap_me0, Dv.ap_for, Dv.ap_iTup, Dv.ap_iLst, Dv.ap_iStr, Dv.ap_raise0, Dv.ap_raise1, Dv.bind_ok, Dv.toS_ok, Dv.get_ok, Dv.noEx_ok, Dv.onG_some, Dv.then_nx, Dv.then_rt, Option.bind_some, List.set_cons_succ, List.set_cons_zero, List.getElem?_cons_zero, List.getElem?_cons_succ, Dv.dEq_ii, Dv.dEq_ss, Dv.dNe_ii, Dv.dNe_ss, Dv.dLt_ii, Dv.dLe_ii, Dv.dGt_ii, Dv.dGe_ii, Dv.dAddG_ii, Dv.dSub_ii, Dv.int1_i, Dv.abs_i, decide_true, decide_false, Bool.false_eq_true, if_true, if_false, Dv.env0, List.map_cons, List.map_nil, List.length_cons, List.length_nil, List.replicate, List.cons_append, List.nil_append, Nat.zero_add, Nat.reduceAdd, Nat.reduceSub, Dv.len_tup, Dv.len_str, Dv.ix_tup', Dv.tru_bl, Dv.dIsN_n, Dv.dNotN_n, Dv.seqOf_tup, Dv.setOf_tup, beq_self_eq_true, Dv.at0, Dv.at1, Dv.at2, Dv.at3, Dv.at4, Bool.not_true, Bool.not_false, Int.reduceEq, Bool.false_or, Bool.true_and, m1, Int.lt_irrefl, Bool.true_eq_false]
        · have m2 : 0 < m := by omega
          simp only [Dv.ap_seq, Dv.ap_next, Dv.ap_ret, Dv.ap_retN, Dv.ap_drop, Dv.ap_break, Dv.ap_cont, Dv.ap_ifS, Dv.ap_asg, Dv.ap_par, Dv.ap_gnm, Dv.ap_gtup, Dv.ap_gcons, Dv.ap_gnil, Dv.ap_gsub, Dv.ap_var, Dv.ap_con, Dv.ap_op, Dv.ap_un, Dv.ap_chain, Dv.ap_and, Dv.ap_or, Dv.ap_not, Dv.ap_if, Dv.ap_test, Dv.ap_bAnd, Dv.ap_bOr, Dv.ap_bNot, Dv.ap_bTru, Dv.ap_bYes, Dv.ap_aNil, Dv.ap_aCons, Dv.ap_tup, Dv.ap_lst, Dv.ap_dct, Dv.ap_B, Dv.ap_call, Dv.ap_call0, Dv.ap_sl, Dv.ap_oNo, Dv.ap_oAt, Dv.ap_me, Dv.ap_me0, Dv.ap_for, Dv.ap_iTup, Dv.ap_iLst, Dv.ap_iStr, Dv.ap_raise0, Dv.ap_raise1, Dv.bind_ok, Dv.toS_ok, Dv.get_ok, Dv.noEx_ok, Dv.onG_some, Dv.then_nx, Dv.then_rt, Option.bind_some, List.set_cons_succ, List.set_cons_zero, List.getElem?_cons_zero, List.getElem?_cons_succ, Dv.dEq_ii, Dv.dEq_ss, Dv.dNe_ii, Dv.dNe_ss, Dv.dLt_ii, Dv.dLe_ii, Dv.dGt_ii, Dv.dGe_ii, Dv.dAddG_ii, Dv.dSub_ii, Dv.int1_i, Dv.abs_i, decide_true, decide_false, Bool.false_eq_true, if_true, if_false, Dv.env0, List.map_cons, List.map_nil, List.length_cons, List.length_nil, List.replicate, List.cons_append, List.nil_append, Nat.zero_add, Nat.reduceAdd, Nat.reduceSub, Dv.len_tup, Dv.len_str, Dv.ix_tup', Dv.tru_bl, Dv.dIsN_n, Dv.dNotN_n, Dv.seqOf_tup, Dv.setOf_tup, beq_self_eq_true, Dv.at0, Dv.at1, Dv.at2, Dv.at3, Dv.at4, Bool.not_true, Bool.not_false, Int.reduceEq, Bool.false_or, Bool.true_and, m1, m2]
  have hA' : ∀ E : Dv.Env, E = [some (.tup [.int rows, .int letters, .tup (dl.map .int), p, t]), some (.int rows), some (.int letters), some (.tup (dl.map .int)), some p, some t, none] → ∀ k : S, (sSeq (sIf (bNot (bTru (fCall (fun ds μ => if ds.length = 2 then g__law_is_dealing ds μ else .no) (aCons (fVar 3) (aCons (fVar 1) aNil))))) (sRet (fCon (.str "dealing"))) sNext) k) E μ = k E (μ ++ lA) := by
    rintro _ rfl k
    simp only [Dv.ap_seq, Dv.ap_next, Dv.ap_ret, Dv.ap_retN, Dv.ap_drop, Dv.ap_break, Dv.ap_cont, Dv.ap_ifS, Dv.ap_asg, Dv.ap_par, Dv.ap_gnm, Dv.ap_gtup, Dv.ap_gcons, Dv.ap_gnil, Dv.ap_gsub, Dv.ap_var, Dv.ap_con, Dv.ap_op, Dv.ap_un, Dv.ap_chain, Dv.ap_and, Dv.ap_or, Dv.ap_not, Dv.ap_if, Dv.ap_test, Dv.ap_bAnd, Dv.ap_bOr, Dv.ap_bNot, Dv.ap_bTru, Dv.ap_bYes, Dv.ap_aNil, Dv.ap_aCons, Dv.ap_tup, Dv.ap_lst, Dv.ap_dct, Dv.ap_B, Dv.ap_call, Dv.ap_call0, Dv.ap_sl, Dv.ap_oNo, Dv.ap_oAt, Dv.ap_me, Dv.ap_me0, Dv.ap_for, Dv.ap_iTup, Dv.ap_iLst, Dv.ap_iStr, Dv.ap_raise0, Dv.ap_raise1, Dv.bind_ok, Dv.toS_ok, Dv.get_ok, Dv.noEx_ok, Dv.onG_some, Dv.then_nx, Dv.then_rt, Option.bind_some, List.set_cons_succ, List.set_cons_zero, List.getElem?_cons_zero, List.getElem?_cons_succ, Dv.dEq_ii, Dv.dEq_ss, Dv.dNe_ii, Dv.dNe_ss, Dv.dLt_ii, Dv.dLe_ii, Dv.dGt_ii, Dv.dGe_ii, Dv.dAddG_ii, Dv.dSub_ii, Dv.int1_i, Dv.abs_i, decide_true, decide_false, Bool.false_eq_true, if_true, if_false, Dv.env0, List.map_cons, List.map_nil, List.length_cons, List.length_nil, List.replicate, List.cons_append, List.nil_append, Nat.zero_add, Nat.reduceAdd, Nat.reduceSub, Dv.len_tup, Dv.len_str, Dv.ix_tup', Dv.tru_bl, Dv.dIsN_n, Dv.dNotN_n, Dv.seqOf_tup, Dv.setOf_tup, beq_self_eq_true, Dv.at0, Dv.at1, Dv.at2, Dv.at3, Dv.at4, Bool.not_true, Bool.not_false, Int.reduceEq, hA]
  rw [seq_nx (env' := [some (.tup [.int rows, .int letters, .tup (dl.map .int), p, t]), some (.int rows), some (.int letters), some (.tup (dl.map .int)), some p, some t, none]) (μ' := μ) (by simp only [Dv.ap_seq, Dv.ap_next, Dv.ap_ret, Dv.ap_retN, Dv.ap_drop, Dv.ap_break, Dv.ap_cont, Dv.ap_ifS, Dv.ap_asg, Dv.ap_par, Dv.ap_gnm, Dv.ap_gtup, Dv.ap_gcons, Dv.ap_gnil, Dv.ap_gsub, Dv.ap_var, Dv.ap_con, Dv.ap_op, Dv.ap_un, Dv.ap_chain, Dv.ap_and, Dv.ap_or, Dv.ap_not, Dv.ap_if, Dv.ap_test, Dv.ap_bAnd, Dv.ap_bOr, Dv.ap_bNot, Dv.ap_bTru, Dv.ap_bYes, Dv.ap_aNil, Dv.ap_aCons, Dv.ap_tup, Dv.ap_lst, Dv.ap_dct, Dv.ap_B, Dv.ap_call, Dv.ap_call0, Dv.ap_sl, Dv.ap_oNo, Dv.ap_oAt, Dv.ap_me, Dv.ap_me0, Dv.ap_for, Dv.ap_iTup, Dv.ap_iLst, Dv.ap_iStr, Dv.ap_raise0, Dv.ap_raise1, Dv.bind_ok, Dv.toS_ok, Dv.get_ok, Dv.noEx_ok, Dv.onG_some, Dv.then_nx, Dv.then_rt, Option.bind_some, List.set_cons_succ, List.set_cons_zero, List.getElem?_cons_zero, List.getElem?_cons_succ, Dv.dEq_ii, Dv.dEq_ss, Dv.dNe_ii, Dv.dNe_ss, Dv.dLt_ii, Dv.dLe_ii, Dv.dGt_ii, Dv.dGe_ii, Dv.dAddG_ii, Dv.dSub_ii, Dv.int1_i, Dv.abs_i, decide_true, decide_false, Bool.false_eq_true, if_true, if_false, Dv.env0, List.map_cons, List.map_nil, List.length_cons, List.length_nil, List.replicate, List.cons_append, List.nil_append, Nat.zero_add, Nat.reduceAdd, Nat.reduceSub, Dv.len_tup, Dv.len_str, Dv.ix_tup', Dv.tru_bl, Dv.dIsN_n, Dv.dNotN_n, Dv.seqOf_tup, Dv.setOf_tup, beq_self_eq_true, Dv.at0, Dv.at1, Dv.at2, Dv.at3, Dv.at4, Bool.not_true, Bool.not_false, Int.reduceEq, ap_gtup, ap_gcons, ap_gnil]),
    seq_nx (env' := [some (.tup [.int rows, .int letters, .tup (dl.map .int), p, t]), some (.int rows), some (.int letters), some (.tup (dl.map .int)), some p, some t, none]) (μ' := μ) (by simp only [Dv.ap_seq, Dv.ap_next, Dv.ap_ret, Dv.ap_retN, Dv.ap_drop, Dv.ap_break, Dv.ap_cont, Dv.ap_ifS, Dv.ap_asg, Dv.ap_par, Dv.ap_gnm, Dv.ap_gtup, Dv.ap_gcons, Dv.ap_gnil, Dv.ap_gsub, Dv.ap_var, Dv.ap_con, Dv.ap_op, Dv.ap_un, Dv.ap_chain, Dv.ap_and, Dv.ap_or, Dv.ap_not, Dv.ap_if, Dv.ap_test, Dv.ap_bAnd, Dv.ap_bOr, Dv.ap_bNot, Dv.ap_bTru, Dv.ap_bYes, Dv.ap_aNil, Dv.ap_aCons, Dv.ap_tup, Dv.ap_lst, Dv.ap_dct, Dv.ap_B, Dv.ap_call, Dv.ap_call0, Dv.ap_sl, Dv.ap_oNo, Dv.ap_oAt, Dv.ap_me, Dv.ap_me0, Dv.ap_for, Dv.ap_iTup, Dv.ap_iLst, Dv.ap_iStr, Dv.ap_raise0, Dv.ap_raise1, Dv.bind_ok, Dv.toS_ok, Dv.get_ok, Dv.noEx_ok, Dv.onG_some, Dv.then_nx, Dv.then_rt, Option.bind_some, List.set_cons_succ, List.set_cons_zero, List.getElem?_cons_zero, List.getElem?_cons_succ, Dv.dEq_ii, Dv.dEq_ss, Dv.dNe_ii, Dv.dNe_ss, Dv.dLt_ii, Dv.dLe_ii, Dv.dGt_ii, Dv.dGe_ii, Dv.dAddG_ii, Dv.dSub_ii, Dv.int1_i, Dv.abs_i, decide_true, decide_false, Bool.false_eq_true, if_true, if_false, Dv.env0, List.map_cons, List.map_nil, List.length_cons, List.length_nil, List.replicate, List.cons_append, List.nil_append, Nat.zero_add, Nat.reduceAdd, Nat.reduceSub, Dv.len_tup, Dv.len_str, Dv.ix_tup', Dv.tru_bl, Dv.dIsN_n, Dv.dNotN_n, Dv.seqOf_tup, Dv.setOf_tup, beq_self_eq_true, Dv.at0, Dv.at1, Dv.at2, Dv.at3, Dv.at4, Bool.not_true, Bool.not_false, Int.reduceEq, law_is_number gr, h1]),
    seq_nx (env' := [some (.tup [.int rows, .int letters, .tup (dl.map .int), p, t]), some (.int rows), some (.int letters), some (.tup (dl.map .int)), some p, some t, none]) (μ' := μ) (by simp only [Dv.ap_seq, Dv.ap_next, Dv.ap_ret, Dv.ap_retN, Dv.ap_drop, Dv.ap_break, Dv.ap_cont, Dv.ap_ifS, Dv.ap_asg, Dv.ap_par, Dv.ap_gnm, Dv.ap_gtup, Dv.ap_gcons, Dv.ap_gnil, Dv.ap_gsub, Dv.ap_var, Dv.ap_con, Dv.ap_op, Dv.ap_un, Dv.ap_chain, Dv.ap_and, Dv.ap_or, Dv.ap_not, Dv.ap_if, Dv.ap_test, Dv.ap_bAnd, Dv.ap_bOr, Dv.ap_bNot, Dv.ap_bTru, Dv.ap_bYes, Dv.ap_aNil, Dv.ap_aCons, Dv.ap_tup, Dv.ap_lst, Dv.ap_dct, Dv.ap_B, Dv.ap_call, Dv.ap_call0, Dv.ap_sl, Dv.ap_oNo, Dv.ap_oAt, Dv.ap_me, Dv.ap_me0, Dv.ap_for, Dv.ap_iTup, Dv.ap_iLst, Dv.ap_iStr, Dv.ap_raise0, Dv.ap_raise1, Dv.bind_ok, Dv.toS_ok, Dv.get_ok, Dv.noEx_ok, Dv.onG_some, Dv.then_nx, Dv.then_rt, Option.bind_some, List.set_cons_succ, List.set_cons_zero, List.getElem?_cons_zero, List.getElem?_cons_succ, Dv.dEq_ii, Dv.dEq_ss, Dv.dNe_ii, Dv.dNe_ss, Dv.dLt_ii, Dv.dLe_ii, Dv.dGt_ii, Dv.dGe_ii, Dv.dAddG_ii, Dv.dSub_ii, Dv.int1_i, Dv.abs_i, decide_true, decide_false, Bool.false_eq_true, if_true, if_false, Dv.env0, List.map_cons, List.map_nil, List.length_cons, List.length_nil, List.replicate, List.cons_append, List.nil_append, Nat.zero_add, Nat.reduceAdd, Nat.reduceSub, Dv.len_tup, Dv.len_str, Dv.ix_tup', Dv.tru_bl, Dv.dIsN_n, Dv.dNotN_n, Dv.seqOf_tup, Dv.setOf_tup, beq_self_eq_true, Dv.at0, Dv.at1, Dv.at2, Dv.at3, Dv.at4, Bool.not_true, Bool.not_false, Int.reduceEq, law_is_number gl, h2]), hA' _ rfl, hq _ []]
  by_cases hd : (btw 1 60 p || (Dv.isNon p && decide (m = 0))) = false
  · refine ⟨lA, ?_⟩
    rw [if_pos hd, if_pos hd]
    rfl
  rw [if_neg hd, if_neg hd]
  have gt' := gt.keep (Ty.app (l := lA))
  cases t with
  | tup xs =>
    have gs : ∀ x ∈ xs, Good μ x := by cases gt with | tup gs => exact gs
    by_cases c : (decide (1 ≤ (xs.length : Int)) && decide ((xs.length : Int) ≤ 20000)) = true
    · have c0 := c
      simp only [Bool.and_eq_true, decide_eq_true_eq] at c0
      obtain ⟨c1, c2⟩ := c0
      obtain ⟨l2, h⟩ := all_grow (f := iTupD (fVar 5)) (v := 6) (e := fCall0 (fun ds μ => if ds.length = 4 then g__law_is_item ds μ else .no) (aCons (fVar 6) (aCons (fVar 3) (aCons (fVar 2) (aCons (fB dLenG (aCons (fVar 5) aNil)) aNil))))) (env := [some (.tup [.int rows, .int letters, .tup (dl.map .int), p, .tup xs]), some (.int rows), some (.int letters), some (.tup (dl.map .int)), some p, some (.tup xs), none]) (μ := μ ++ lA) (μ1 := μ ++ lA) (items := xs) (g := []) (itemD rows (m + 1) letters xs.length) (by simp only [Dv.ap_seq, Dv.ap_next, Dv.ap_ret, Dv.ap_retN, Dv.ap_drop, Dv.ap_break, Dv.ap_cont, Dv.ap_ifS, Dv.ap_asg, Dv.ap_par, Dv.ap_gnm, Dv.ap_gtup, Dv.ap_gcons, Dv.ap_gnil, Dv.ap_gsub, Dv.ap_var, Dv.ap_con, Dv.ap_op, Dv.ap_un, Dv.ap_chain, Dv.ap_and, Dv.ap_or, Dv.ap_not, Dv.ap_if, Dv.ap_test, Dv.ap_bAnd, Dv.ap_bOr, Dv.ap_bNot, Dv.ap_bTru, Dv.ap_bYes, Dv.ap_aNil, Dv.ap_aCons, Dv.ap_tup, Dv.ap_lst, Dv.ap_dct, Dv.ap_B, Dv.ap_call, Dv.ap_call0, Dv.ap_sl, Dv.ap_oNo, Dv.ap_oAt, Dv.ap_me, Dv.ap_me0, Dv.ap_for, Dv.ap_iTup, Dv.ap_iLst, Dv.ap_iStr, Dv.ap_raise0, Dv.ap_raise1, Dv.bind_ok, Dv.toS_ok, Dv.get_ok, Dv.noEx_ok, Dv.onG_some, Dv.then_nx, Dv.then_rt, Option.bind_some, List.set_cons_succ, List.set_cons_zero, List.getElem?_cons_zero, List.getElem?_cons_succ, Dv.dEq_ii, Dv.dEq_ss, Dv.dNe_ii, Dv.dNe_ss, Dv.dLt_ii, Dv.dLe_ii, Dv.dGt_ii, Dv.dGe_ii, Dv.dAddG_ii, Dv.dSub_ii, Dv.int1_i, Dv.abs_i, decide_true, decide_false, Bool.false_eq_true, if_true, if_false, Dv.env0, List.map_cons, List.map_nil, List.length_cons, List.length_nil, List.replicate, List.cons_append, List.nil_append, Nat.zero_add, Nat.reduceAdd, Nat.reduceSub, Dv.len_tup, Dv.len_str, Dv.ix_tup', Dv.tru_bl, Dv.dIsN_n, Dv.dNotN_n, Dv.seqOf_tup, Dv.setOf_tup, beq_self_eq_true, Dv.at0, Dv.at1, Dv.at2, Dv.at3, Dv.at4, Bool.not_true, Bool.not_false, Int.reduceEq]) gok_nil (by rw [sizeLine_eq]; omega) (by
        intro x hx l
        obtain ⟨l', e⟩ := law_is_item (many := xs.length) (letters := letters) ((gs x hx).keep (Ty.app (l := lA ++ l))) (Hd.app (l := lA ++ l) (hh _ rfl x hx)) hm (by omega)
        rw [← List.append_assoc, hlen] at e
        exact ⟨l', by simp only [Dv.ap_seq, Dv.ap_next, Dv.ap_ret, Dv.ap_retN, Dv.ap_drop, Dv.ap_break, Dv.ap_cont, Dv.ap_ifS, Dv.ap_asg, Dv.ap_par, Dv.ap_gnm, Dv.ap_gtup, Dv.ap_gcons, Dv.ap_gnil, Dv.ap_gsub, Dv.ap_var, Dv.ap_con, Dv.ap_op, Dv.ap_un, Dv.ap_chain, Dv.ap_and, Dv.ap_or, Dv.ap_not, Dv.ap_if, Dv.ap_test, Dv.ap_bAnd, Dv.ap_bOr, Dv.ap_bNot, Dv.ap_bTru, Dv.ap_bYes, Dv.ap_aNil, Dv.ap_aCons, Dv.ap_tup, Dv.ap_lst, Dv.ap_dct, Dv.ap_B, Dv.ap_call, Dv.ap_call0, Dv.ap_sl, Dv.ap_oNo, Dv.ap_oAt, Dv.ap_me, Dv.ap_me0, Dv.ap_for, Dv.ap_iTup, Dv.ap_iLst, Dv.ap_iStr, Dv.ap_raise0, Dv.ap_raise1, Dv.bind_ok, Dv.toS_ok, Dv.get_ok, Dv.noEx_ok, Dv.onG_some, Dv.then_nx, Dv.then_rt, Option.bind_some, List.set_cons_succ, List.set_cons_zero, List.getElem?_cons_zero, List.getElem?_cons_succ, Dv.dEq_ii, Dv.dEq_ss, Dv.dNe_ii, Dv.dNe_ss, Dv.dLt_ii, Dv.dLe_ii, Dv.dGt_ii, Dv.dGe_ii, Dv.dAddG_ii, Dv.dSub_ii, Dv.int1_i, Dv.abs_i, decide_true, decide_false, Bool.false_eq_true, if_true, if_false, Dv.env0, List.map_cons, List.map_nil, List.length_cons, List.length_nil, List.replicate, List.cons_append, List.nil_append, Nat.zero_add, Nat.reduceAdd, Nat.reduceSub, Dv.len_tup, Dv.len_str, Dv.ix_tup', Dv.tru_bl, Dv.dIsN_n, Dv.dNotN_n, Dv.seqOf_tup, Dv.setOf_tup, beq_self_eq_true, Dv.at0, Dv.at1, Dv.at2, Dv.at3, Dv.at4, Bool.not_true, Bool.not_false, Int.reduceEq, e]⟩)
      refine ⟨lA ++ l2, ?_⟩
      simp only [Dv.ap_seq, Dv.ap_next, Dv.ap_ret, Dv.ap_retN, Dv.ap_drop, Dv.ap_break, Dv.ap_cont, Dv.ap_ifS, Dv.ap_asg, Dv.ap_par, Dv.ap_gnm, Dv.ap_gtup, Dv.ap_gcons, Dv.ap_gnil, Dv.ap_gsub, Dv.ap_var, Dv.ap_con, Dv.ap_op, Dv.ap_un, Dv.ap_chain, Dv.ap_and, Dv.ap_or, Dv.ap_not, Dv.ap_if, Dv.ap_test, Dv.ap_bAnd, Dv.ap_bOr, Dv.ap_bNot, Dv.ap_bTru, Dv.ap_bYes, Dv.ap_aNil, Dv.ap_aCons, Dv.ap_tup, Dv.ap_lst, Dv.ap_dct, Dv.ap_B, Dv.ap_call, Dv.ap_call0, Dv.ap_sl, Dv.ap_oNo, Dv.ap_oAt, Dv.ap_me, Dv.ap_me0, Dv.ap_for, Dv.ap_iTup, Dv.ap_iLst, Dv.ap_iStr, Dv.ap_raise0, Dv.ap_raise1, Dv.bind_ok, Dv.toS_ok, Dv.get_ok, Dv.noEx_ok, Dv.onG_some, Dv.then_nx, Dv.then_rt, Option.bind_some, List.set_cons_succ, List.set_cons_zero, List.getElem?_cons_zero, List.getElem?_cons_succ, Dv.dEq_ii, Dv.dEq_ss, Dv.dNe_ii, Dv.dNe_ss, Dv.dLt_ii, Dv.dLe_ii, Dv.dGt_ii, Dv.dGe_ii, Dv.dAddG_ii, Dv.dSub_ii, Dv.int1_i, Dv.abs_i, decide_true, decide_false, Bool.false_eq_true, if_true, if_false, Dv.env0, List.map_cons, List.map_nil, List.length_cons, List.length_nil, List.replicate, List.cons_append, List.nil_append, Nat.zero_add, Nat.reduceAdd, Nat.reduceSub, Dv.len_tup, Dv.len_str, Dv.ix_tup', Dv.tru_bl, Dv.dIsN_n, Dv.dNotN_n, Dv.seqOf_tup, Dv.setOf_tup, beq_self_eq_true, Dv.at0, Dv.at1, Dv.at2, Dv.at3, Dv.at4, Bool.not_true, Bool.not_false, Int.reduceEq, isTup gt', c1, c2, h]
      simp only [tableD, c, Bool.true_and]
      rw [← List.append_assoc]
      cases xs.all (itemD rows (m + 1) letters xs.length) <;> rfl
    · have c : (decide (1 ≤ (xs.length : Int)) && decide ((xs.length : Int) ≤ 20000)) = false := by simpa using c
      refine ⟨lA, ?_⟩
      have hx : tableD rows (m + 1) letters 20000 (.tup xs) = false := by simp only [tableD, c, Bool.false_and]
      rw [if_pos hx]
      by_cases c1 : 1 ≤ (xs.length : Int)
      · have c2 : ¬ (xs.length : Int) ≤ 20000 := by intro z; simp [c1, z] at c
        simp only [Dv.ap_seq, Dv.ap_next, Dv.ap_ret, Dv.ap_retN, Dv.ap_drop, Dv.ap_break, Dv.ap_cont, Dv.ap_ifS, Dv.ap_asg, Dv.ap_par, Dv.ap_gnm, Dv.ap_gtup, Dv.ap_gcons, Dv.ap_gnil, Dv.ap_gsub, Dv.ap_var, Dv.ap_con, Dv.ap_op, Dv.ap_un, Dv.ap_chain, Dv.ap_and, Dv.ap_or, Dv.ap_not, Dv.ap_if, Dv.ap_test, Dv.ap_bAnd, Dv.ap_bOr, Dv.ap_bNot, Dv.ap_bTru, Dv.ap_bYes, Dv.ap_aNil, Dv.ap_aCons, Dv.ap_tup, Dv.ap_lst, Dv.ap_dct, Dv.ap_B, Dv.ap_call, Dv.ap_call0, Dv.ap_sl, Dv.ap_oNo, Dv.ap_oAt, Dv.ap_me, Dv.ap_me0, Dv.ap_for, Dv.ap_iTup, Dv.ap_iLst, Dv.ap_iStr, Dv.ap_raise0, Dv.ap_raise1, Dv.bind_ok, Dv.toS_ok, Dv.get_ok, Dv.noEx_ok, Dv.onG_some, Dv.then_nx, Dv.then_rt, Option.bind_some, List.set_cons_succ, List.set_cons_zero, List.getElem?_cons_zero, List.getElem?_cons_succ, Dv.dEq_ii, Dv.dEq_ss, Dv.dNe_ii, Dv.dNe_ss, Dv.dLt_ii, Dv.dLe_ii, Dv.dGt_ii, Dv.dGe_ii, Dv.dAddG_ii, Dv.dSub_ii, Dv.int1_i, Dv.abs_i, decide_true, decide_false, Bool.false_eq_true, if_true, if_false, Dv.env0, List.map_cons, List.map_nil, List.length_cons, List.length_nil, List.replicate, List.cons_append, List.nil_append, Nat.zero_add, Nat.reduceAdd, Nat.reduceSub, Dv.len_tup, Dv.len_str, Dv.ix_tup', Dv.tru_bl, Dv.dIsN_n, Dv.dNotN_n, Dv.seqOf_tup, Dv.setOf_tup, beq_self_eq_true, Dv.at0, Dv.at1, Dv.at2, Dv.at3, Dv.at4, Bool.not_true, Bool.not_false, Int.reduceEq, isTup gt', c1, c2]
        rfl
      · simp only [Dv.ap_seq, Dv.ap_next, Dv.ap_ret, Dv.ap_retN, Dv.ap_drop, Dv.ap_break, Dv.ap_cont, Dv.ap_ifS, Dv.ap_asg, Dv.ap_par, Dv.ap_gnm, Dv.ap_gtup, Dv.ap_gcons, Dv.ap_gnil, Dv.ap_gsub, Dv.ap_var, Dv.ap_con, Dv.ap_op, Dv.ap_un, Dv.ap_chain, Dv.ap_and, Dv.ap_or, Dv.ap_not, Dv.ap_if, Dv.ap_test, Dv.ap_bAnd, Dv.ap_bOr, Dv.ap_bNot, Dv.ap_bTru, Dv.ap_bYes, Dv.ap_aNil, Dv.ap_aCons, Dv.ap_tup, Dv.ap_lst, Dv.ap_dct, Dv.ap_B, Dv.ap_call, Dv.ap_call0, Dv.ap_sl, Dv.ap_oNo, Dv.ap_oAt, Dv.ap_me, Dv.ap_me0, Dv.ap_for, Dv.ap_iTup, Dv.ap_iLst, Dv.ap_iStr, Dv.ap_raise0, Dv.ap_raise1, Dv.bind_ok, Dv.toS_ok, Dv.get_ok, Dv.noEx_ok, Dv.onG_some, Dv.then_nx, Dv.then_rt, Option.bind_some, List.set_cons_succ, List.set_cons_zero, List.getElem?_cons_zero, List.getElem?_cons_succ, Dv.dEq_ii, Dv.dEq_ss, Dv.dNe_ii, Dv.dNe_ss, Dv.dLt_ii, Dv.dLe_ii, Dv.dGt_ii, Dv.dGe_ii, Dv.dAddG_ii, Dv.dSub_ii, Dv.int1_i, Dv.abs_i, decide_true, decide_false, Bool.false_eq_true, if_true, if_false, Dv.env0, List.map_cons, List.map_nil, List.length_cons, List.length_nil, List.replicate, List.cons_append, List.nil_append, Nat.zero_add, Nat.reduceAdd, Nat.reduceSub, Dv.len_tup, Dv.len_str, Dv.ix_tup', Dv.tru_bl, Dv.dIsN_n, Dv.dNotN_n, Dv.seqOf_tup, Dv.setOf_tup, beq_self_eq_true, Dv.at0, Dv.at1, Dv.at2, Dv.at3, Dv.at4, Bool.not_true, Bool.not_false, Int.reduceEq, isTup gt', c1]
        rfl
  | _ =>
    refine ⟨lA, ?_⟩
    simp only [Dv.ap_seq, Dv.ap_next, Dv.ap_ret, Dv.ap_retN, Dv.ap_drop, Dv.ap_break, Dv.ap_cont, Dv.ap_ifS, Dv.ap_asg, Dv.ap_par, Dv.ap_gnm, Dv.ap_gtup, Dv.ap_gcons, Dv.ap_gnil, Dv.ap_gsub, Dv.ap_var, Dv.ap_con, Dv.ap_op, Dv.ap_un, Dv.ap_chain, Dv.ap_and, Dv.ap_or, Dv.ap_not, Dv.ap_if, Dv.ap_test, Dv.ap_bAnd, Dv.ap_bOr, Dv.ap_bNot, Dv.ap_bTru, Dv.ap_bYes, Dv.ap_aNil, Dv.ap_aCons, Dv.ap_tup, Dv.ap_lst, Dv.ap_dct, Dv.ap_B, Dv.ap_call, Dv.ap_call0, Dv.ap_sl, Dv.ap_oNo, Dv.ap_oAt, Dv.ap_me, Dv.ap_me0, Dv.ap_for, Dv.ap_iTup, Dv.ap_iLst, Dv.ap_iStr, Dv.ap_raise0, Dv.ap_raise1, Dv.bind_ok, Dv.toS_ok, Dv.get_ok, Dv.noEx_ok, Dv.onG_some, Dv.then_nx, Dv.then_rt, Option.bind_some, List.set_cons_succ, List.set_cons_zero, List.getElem?_cons_zero, List.getElem?_cons_succ, Dv.dEq_ii, Dv.dEq_ss, Dv.dNe_ii, Dv.dNe_ss, Dv.dLt_ii, Dv.dLe_ii, Dv.dGt_ii, Dv.dGe_ii, Dv.dAddG_ii, Dv.dSub_ii, Dv.int1_i, Dv.abs_i, decide_true, decide_false, Bool.false_eq_true, if_true, if_false, Dv.env0, List.map_cons, List.map_nil, List.length_cons, List.length_nil, List.replicate, List.cons_append, List.nil_append, Nat.zero_add, Nat.reduceAdd, Nat.reduceSub, Dv.len_tup, Dv.len_str, Dv.ix_tup', Dv.tru_bl, Dv.dIsN_n, Dv.dNotN_n, Dv.seqOf_tup, Dv.setOf_tup, beq_self_eq_true, Dv.at0, Dv.at1, Dv.at2, Dv.at3, Dv.at4, Bool.not_true, Bool.not_false, Int.reduceEq, isTup gt', tableD]
    rfl
end Law

set_option maxRecDepth 100000
set_option maxHeartbeats 4000000
namespace Law
open PySem PySem.Spec PyProof.Rows L2 Dv
theorem fld_ok {C0 : Addr} {f : Str} {i j : Nat} {env : Dv.Env} {μ lA : Mem} {fs : List (Str × D)} {d : D} (h1 : env[i]? = some (some (.cell μ.length))) (h2 : env[j]? = some (some d)) (hl : fs.length < 1000) :
    sFldD C0 f (fVar i) (fVar j) env (μ ++ C.ins C0 fs :: lA) = .nx env (μ ++ C.ins C0 (putD f d fs) :: lA) := by
  have at_ : (μ ++ C.ins C0 fs :: lA)[μ.length]? = some (.ins C0 fs) := by simp
  have st : ∀ fs', (μ ++ C.ins C0 fs :: lA).set μ.length (.ins C0 fs') = μ ++ C.ins C0 fs' :: lA := fun fs' => by simp
  unfold sFldD
  simp only [ap_var, h1, h2, toS_ok, at_, true_and, hl, if_true, st]
theorem putD_end {f : Str} {d : D} : ∀ {fs : List (Str × D)}, (∀ p ∈ fs, p.1 ≠ f) → putD f d fs = fs ++ [(f, d)]
  | [], _ => rfl
  | (g, x) :: r, h => by
    have h1 : ¬ g = f := h (g, x) (List.mem_cons_self ..)
    show (if g = f then _ else _) = _
    rw [if_neg h1, putD_end fun p hp => h p (List.mem_cons_of_mem _ hp)]
    rfl
theorem init {K : PySem.W.Frag} {a : Adr} {μ : Mem} {r l d p t : D} (gr : Good μ r) (gl : Good μ l) (gd : Good μ d) (gp : Good μ p) (gt : Good μ t) :
    ∃ l', g_Program_M___init__ K a [.cell μ.length, r, l, d, p, t] (μ ++ [.ins a.Program []]) = match wrongD r l d p t with
      | none => .ok .non (μ ++ l')
      | some w => .ex ⟨a.BadProgram, some [("part", .str w)]⟩ (μ ++ l') := by
  unfold g_Program_M___init__ b_Program_M___init__ runB
  have gr' := gr.keep (Ty.app (l := [.ins a.Program []]))
  have gl' := gl.keep (Ty.app (l := [.ins a.Program []]))
  have gd' := gd.keep (Ty.app (l := [.ins a.Program []]))
  by_cases h1 : btw 1 6 r = true
  rotate_left
  · have h1 : btw 1 6 r = false := by simpa using h1
    refine ⟨[.ins a.Program []], ?_⟩
    simp only [Dv.ap_seq, Dv.ap_next, Dv.ap_ret, Dv.ap_retN, Dv.ap_drop, Dv.ap_break, Dv.ap_cont, Dv.ap_ifS, Dv.ap_asg, Dv.ap_par, Dv.ap_gnm, Dv.ap_gtup, Dv.ap_gcons, Dv.ap_gnil, Dv.ap_gsub, Dv.ap_var, Dv.ap_con, Dv.ap_op, Dv.ap_un, Dv.ap_chain, Dv.ap_and, Dv.ap_or, Dv.ap_not, Dv.ap_if, Dv.ap_test, Dv.ap_bAnd, Dv.ap_bOr, Dv.ap_bNot, Dv.ap_bTru, Dv.ap_bYes, Dv.ap_aNil, Dv.ap_aCons, Dv.ap_tup, Dv.ap_lst, Dv.ap_dct, Dv.ap_B, Dv.ap_call, Dv.ap_call0, Dv.ap_sl, Dv.ap_oNo, Dv.ap_oAt, Dv.ap_me, Dv.ap_me0, Dv.ap_for, Dv.ap_iTup, Dv.ap_iLst, Dv.ap_iStr, Dv.ap_raise0, Dv.ap_raise1, Dv.bind_ok, Dv.toS_ok, Dv.get_ok, Dv.noEx_ok, Dv.onG_some, Dv.then_nx, Dv.then_rt, Option.bind_some, List.set_cons_succ, List.set_cons_zero, List.getElem?_cons_zero, List.getElem?_cons_succ, Dv.dEq_ii, Dv.dEq_ss, Dv.dNe_ii, Dv.dNe_ss, Dv.dLt_ii, Dv.dLe_ii, Dv.dGt_ii, Dv.dGe_ii, Dv.dAddG_ii, Dv.dSub_ii, Dv.int1_i, Dv.abs_i, decide_true, decide_false, Bool.false_eq_true, if_true, if_false, Dv.env0, List.map_cons, List.map_nil, List.length_cons, List.length_nil, List.replicate, List.cons_append, List.nil_append, Nat.zero_add, Nat.reduceAdd, Nat.reduceSub, Dv.len_tup, Dv.len_str, Dv.ix_tup', Dv.tru_bl, Dv.dIsN_n, Dv.dNotN_n, Dv.seqOf_tup, Dv.setOf_tup, beq_self_eq_true, Dv.at0, Dv.at1, Dv.at2, Dv.at3, Dv.at4, Bool.not_true, Bool.not_false, Int.reduceEq, is_between gr', h1, wrongD]
    rfl
  obtain ⟨rows, rfl, r1, r6⟩ := btw_int h1
  by_cases h2 : btw 1 3 l = true
  rotate_left
  · have h2 : btw 1 3 l = false := by simpa using h2
    refine ⟨[.ins a.Program []], ?_⟩
    simp only [Dv.ap_seq, Dv.ap_next, Dv.ap_ret, Dv.ap_retN, Dv.ap_drop, Dv.ap_break, Dv.ap_cont, Dv.ap_ifS, Dv.ap_asg, Dv.ap_par, Dv.ap_gnm, Dv.ap_gtup, Dv.ap_gcons, Dv.ap_gnil, Dv.ap_gsub, Dv.ap_var, Dv.ap_con, Dv.ap_op, Dv.ap_un, Dv.ap_chain, Dv.ap_and, Dv.ap_or, Dv.ap_not, Dv.ap_if, Dv.ap_test, Dv.ap_bAnd, Dv.ap_bOr, Dv.ap_bNot, Dv.ap_bTru, Dv.ap_bYes, Dv.ap_aNil, Dv.ap_aCons, Dv.ap_tup, Dv.ap_lst, Dv.ap_dct, Dv.ap_B, Dv.ap_call, Dv.ap_call0, Dv.ap_sl, Dv.ap_oNo, Dv.ap_oAt, Dv.ap_me, Dv.ap_me0, Dv.ap_for, Dv.ap_iTup, Dv.ap_iLst, Dv.ap_iStr, Dv.ap_raise0, Dv.ap_raise1, Dv.bind_ok, Dv.toS_ok, Dv.get_ok, Dv.noEx_ok, Dv.onG_some, Dv.then_nx, Dv.then_rt, Option.bind_some, List.set_cons_succ, List.set_cons_zero, List.getElem?_cons_zero, List.getElem?_cons_succ, Dv.dEq_ii, Dv.dEq_ss, Dv.dNe_ii, Dv.dNe_ss, Dv.dLt_ii, Dv.dLe_ii, Dv.dGt_ii, Dv.dGe_ii, Dv.dAddG_ii, Dv.dSub_ii, Dv.int1_i, Dv.abs_i, decide_true, decide_false, Bool.false_eq_true, if_true, if_false, Dv.env0, List.map_cons, List.map_nil, List.length_cons, List.length_nil, List.replicate, List.cons_append, List.nil_append, Nat.zero_add, Nat.reduceAdd, Nat.reduceSub, Dv.len_tup, Dv.len_str, Dv.ix_tup', Dv.tru_bl, Dv.dIsN_n, Dv.dNotN_n, Dv.seqOf_tup, Dv.setOf_tup, beq_self_eq_true, Dv.at0, Dv.at1, Dv.at2, Dv.at3, Dv.at4, Bool.not_true, Bool.not_false, Int.reduceEq, is_between gr', is_between gl', h1, h2, wrongD, Bool.true_eq_false]
    rfl
  obtain ⟨letters, rfl, l1, l3⟩ := btw_int h2
  obtain ⟨lA, hA⟩ := is_dealing gd' r1 r6
  by_cases h3 : dealD rows d = true
  rotate_left
  · have h3 : dealD rows d = false := by simpa using h3
    refine ⟨[.ins a.Program []] ++ lA, ?_⟩
    rw [h3] at hA
    simp only [Dv.ap_seq, Dv.ap_next, Dv.ap_ret, Dv.ap_retN, Dv.ap_drop, Dv.ap_break, Dv.ap_cont, Dv.ap_ifS, Dv.ap_asg, Dv.ap_par, Dv.ap_gnm, Dv.ap_gtup, Dv.ap_gcons, Dv.ap_gnil, Dv.ap_gsub, Dv.ap_var, Dv.ap_con, Dv.ap_op, Dv.ap_un, Dv.ap_chain, Dv.ap_and, Dv.ap_or, Dv.ap_not, Dv.ap_if, Dv.ap_test, Dv.ap_bAnd, Dv.ap_bOr, Dv.ap_bNot, Dv.ap_bTru, Dv.ap_bYes, Dv.ap_aNil, Dv.ap_aCons, Dv.ap_tup, Dv.ap_lst, Dv.ap_dct, Dv.ap_B, Dv.ap_call, Dv.ap_call0, Dv.ap_sl, Dv.ap_oNo, Dv.ap_oAt, Dv.ap_me, Dv.ap_me0, Dv.ap_for, Dv.ap_iTup, Dv.ap_iLst, Dv.ap_iStr, Dv.ap_raise0, Dv.ap_raise1, Dv.bind_ok, Dv.toS_ok, Dv.get_ok, Dv.noEx_ok, Dv.onG_some, Dv.then_nx, Dv.then_rt, Option.bind_some, List.set_cons_succ, List.set_cons_zero, List.getElem?_cons_zero, List.getElem?_cons_succ, Dv.dEq_ii, Dv.dEq_ss, Dv.dNe_ii, Dv.dNe_ss, Dv.dLt_ii, Dv.dLe_ii, Dv.dGt_ii, Dv.dGe_ii, Dv.dAddG_ii, Dv.dSub_ii, Dv.int1_i, Dv.abs_i, decide_true, decide_false, Bool.false_eq_true, if_true, if_false, Dv.env0, List.map_cons, List.map_nil, List.length_cons, List.length_nil, List.replicate, List.cons_append, List.nil_append, Nat.zero_add, Nat.reduceAdd, Nat.reduceSub, Dv.len_tup, Dv.len_str, Dv.ix_tup', Dv.tru_bl, Dv.dIsN_n, Dv.dNotN_n, Dv.seqOf_tup, Dv.setOf_tup, beq_self_eq_true, Dv.at0, Dv.at1, Dv.at2, Dv.at3, Dv.at4, Bool.not_true, Bool.not_false, Int.reduceEq, is_between gr', is_between gl', h1, h2, wrongD, Bool.true_eq_false, intOf, hA, h3]
    rw [List.append_assoc]
    rfl
  obtain ⟨dl, m, rfl, hlen, hm, hh', m0⟩ := deal_at h3 r1
  rw [h3] at hA
  have gp' := gp.keep (Ty.app (l := [.ins a.Program []] ++ lA))
  have gt' := gt.keep (Ty.app (l := [.ins a.Program []] ++ lA))
  rw [← List.append_assoc] at gp' gt'
  have hw : wrongD (.int rows) (.int letters) (.tup (dl.map .int)) p t = if depthD (m + 1) p = false then some ("depth" : Str) else if tableD rows (m + 1) letters 20000 t = false then some ("table" : Str) else none := by
    simp only [wrongD, h1, h2, intOf, h3, hh', Bool.true_eq_false, if_false]
  rw [hw]
  by_cases h4 : depthD (m + 1) p = true
  rotate_left
  · have h4 : depthD (m + 1) p = false := by simpa using h4
    refine ⟨[.ins a.Program []] ++ lA, ?_⟩
    simp only [Dv.ap_seq, Dv.ap_next, Dv.ap_ret, Dv.ap_retN, Dv.ap_drop, Dv.ap_break, Dv.ap_cont, Dv.ap_ifS, Dv.ap_asg, Dv.ap_par, Dv.ap_gnm, Dv.ap_gtup, Dv.ap_gcons, Dv.ap_gnil, Dv.ap_gsub, Dv.ap_var, Dv.ap_con, Dv.ap_op, Dv.ap_un, Dv.ap_chain, Dv.ap_and, Dv.ap_or, Dv.ap_not, Dv.ap_if, Dv.ap_test, Dv.ap_bAnd, Dv.ap_bOr, Dv.ap_bNot, Dv.ap_bTru, Dv.ap_bYes, Dv.ap_aNil, Dv.ap_aCons, Dv.ap_tup, Dv.ap_lst, Dv.ap_dct, Dv.ap_B, Dv.ap_call, Dv.ap_call0, Dv.ap_sl, Dv.ap_oNo, Dv.ap_oAt, Dv.ap_me, Dv.ap_me0, Dv.ap_for, Dv.ap_iTup, Dv.ap_iLst, Dv.ap_iStr, Dv.ap_raise0, Dv.ap_raise1, Dv.bind_ok, Dv.toS_ok, Dv.get_ok, Dv.noEx_ok, Dv.onG_some, Dv.then_nx, Dv.then_rt, Option.bind_some, List.set_cons_succ, List.set_cons_zero, List.getElem?_cons_zero, List.getElem?_cons_succ, Dv.dEq_ii, Dv.dEq_ss, Dv.dNe_ii, Dv.dNe_ss, Dv.dLt_ii, Dv.dLe_ii, Dv.dGt_ii, Dv.dGe_ii, Dv.dAddG_ii, Dv.dSub_ii, Dv.int1_i, Dv.abs_i, decide_true, decide_false, Bool.false_eq_true, if_true, if_false, Dv.env0, List.map_cons, List.map_nil, List.length_cons, List.length_nil, List.replicate, List.cons_append, List.nil_append, Nat.zero_add, Nat.reduceAdd, Nat.reduceSub, Dv.len_tup, Dv.len_str, Dv.ix_tup', Dv.tru_bl, Dv.dIsN_n, Dv.dNotN_n, Dv.seqOf_tup, Dv.setOf_tup, beq_self_eq_true, Dv.at0, Dv.at1, Dv.at2, Dv.at3, Dv.at4, Bool.not_true, Bool.not_false, Int.reduceEq, is_between gr', is_between gl', h1, h2, hA, max_tup hm, is_depth gp', h4]
    rw [List.append_assoc]
    rfl
  by_cases h5 : tableD rows (m + 1) letters 20000 t = true
  rotate_left
  · have h5 : tableD rows (m + 1) letters 20000 t = false := by simpa using h5
    refine ⟨[.ins a.Program []] ++ lA, ?_⟩
    simp only [Dv.ap_seq, Dv.ap_next, Dv.ap_ret, Dv.ap_retN, Dv.ap_drop, Dv.ap_break, Dv.ap_cont, Dv.ap_ifS, Dv.ap_asg, Dv.ap_par, Dv.ap_gnm, Dv.ap_gtup, Dv.ap_gcons, Dv.ap_gnil, Dv.ap_gsub, Dv.ap_var, Dv.ap_con, Dv.ap_op, Dv.ap_un, Dv.ap_chain, Dv.ap_and, Dv.ap_or, Dv.ap_not, Dv.ap_if, Dv.ap_test, Dv.ap_bAnd, Dv.ap_bOr, Dv.ap_bNot, Dv.ap_bTru, Dv.ap_bYes, Dv.ap_aNil, Dv.ap_aCons, Dv.ap_tup, Dv.ap_lst, Dv.ap_dct, Dv.ap_B, Dv.ap_call, Dv.ap_call0, Dv.ap_sl, Dv.ap_oNo, Dv.ap_oAt, Dv.ap_me, Dv.ap_me0, Dv.ap_for, Dv.ap_iTup, Dv.ap_iLst, Dv.ap_iStr, Dv.ap_raise0, Dv.ap_raise1, Dv.bind_ok, Dv.toS_ok, Dv.get_ok, Dv.noEx_ok, Dv.onG_some, Dv.then_nx, Dv.then_rt, Option.bind_some, List.set_cons_succ, List.set_cons_zero, List.getElem?_cons_zero, List.getElem?_cons_succ, Dv.dEq_ii, Dv.dEq_ss, Dv.dNe_ii, Dv.dNe_ss, Dv.dLt_ii, Dv.dLe_ii, Dv.dGt_ii, Dv.dGe_ii, Dv.dAddG_ii, Dv.dSub_ii, Dv.int1_i, Dv.abs_i, decide_true, decide_false, Bool.false_eq_true, if_true, if_false, Dv.env0, List.map_cons, List.map_nil, List.length_cons, List.length_nil, List.replicate, List.cons_append, List.nil_append, Nat.zero_add, Nat.reduceAdd, Nat.reduceSub, Dv.len_tup, Dv.len_str, Dv.ix_tup', Dv.tru_bl, Dv.dIsN_n, Dv.dNotN_n, Dv.seqOf_tup, Dv.setOf_tup, beq_self_eq_true, Dv.at0, Dv.at1, Dv.at2, Dv.at3, Dv.at4, Bool.not_true, Bool.not_false, Int.reduceEq, is_between gr', is_between gl', h1, h2, hA, max_tup hm, is_depth gp', h4, is_program_table gt', h5, Bool.true_eq_false]
    rw [List.append_assoc]
    rfl
  refine ⟨C.ins a.Program [("rows", .int rows), ("letters", .int letters), ("dealing", .tup (dl.map .int)), ("depth", p), ("table", t)] :: lA, ?_⟩
  have e0 : μ ++ [C.ins a.Program []] ++ lA = μ ++ C.ins a.Program [] :: lA := by simp
  have hz : ∀ E : Dv.Env, E = [some (D.cell μ.length), some (.int rows), some (.int letters), some (.tup (dl.map .int)), some p, some t, some (.int (m + 1))] → (sSeq (sFldD a.Program "rows" (fVar 0) (fVar 1)) (sSeq (sFldD a.Program "letters" (fVar 0) (fVar 2)) (sSeq (sFldD a.Program "dealing" (fVar 0) (fVar 3)) (sSeq (sFldD a.Program "depth" (fVar 0) (fVar 4)) (sFldD a.Program "table" (fVar 0) (fVar 5)))))) E (μ ++ C.ins a.Program [] :: lA) = .nx E (μ ++ C.ins a.Program [("rows", .int rows), ("letters", .int letters), ("dealing", .tup (dl.map .int)), ("depth", p), ("table", t)] :: lA) := by
    rintro _ rfl
    have p1 : putD "rows" (D.int rows) [] = [(("rows" : Str), D.int rows)] := rfl
    have p2 : putD "letters" (D.int letters) [(("rows" : Str), D.int rows)] = [(("rows" : Str), D.int rows), (("letters" : Str), .int letters)] := putD_end (by intro p hp; simp at hp; subst hp; dsimp only; decide +kernel)
    have p3 : putD "dealing" (D.tup (dl.map .int)) [(("rows" : Str), D.int rows), (("letters" : Str), .int letters)] = [(("rows" : Str), D.int rows), (("letters" : Str), .int letters), (("dealing" : Str), .tup (dl.map .int))] := putD_end (by intro p hp; simp at hp; rcases hp with rfl | rfl <;> (dsimp only; decide +kernel))
    have p4 : putD "depth" p [(("rows" : Str), D.int rows), (("letters" : Str), .int letters), (("dealing" : Str), .tup (dl.map .int))] = [(("rows" : Str), D.int rows), (("letters" : Str), .int letters), (("dealing" : Str), .tup (dl.map .int)), (("depth" : Str), p)] := putD_end (by intro p hp; simp at hp; rcases hp with rfl | rfl | rfl <;> (dsimp only; decide +kernel))
    have p5 : putD "table" t [(("rows" : Str), D.int rows), (("letters" : Str), .int letters), (("dealing" : Str), .tup (dl.map .int)), (("depth" : Str), p)] = [(("rows" : Str), D.int rows), (("letters" : Str), .int letters), (("dealing" : Str), .tup (dl.map .int)), (("depth" : Str), p), (("table" : Str), t)] := putD_end (by intro p hp; simp at hp; rcases hp with rfl | rfl | rfl | rfl <;> (dsimp only; decide +kernel))
    rw [seq_nx (fld_ok (d := .int rows) rfl rfl (by simp)), p1, seq_nx (fld_ok (d := .int letters) rfl rfl (by simp)), p2, seq_nx (fld_ok (d := .tup (dl.map .int)) rfl rfl (by simp)), p3, seq_nx (fld_ok (d := p) rfl rfl (by simp)), p4, fld_ok (d := t) rfl rfl (by simp), p5]
  have hy : ∀ E : Dv.Env, E = [some (D.cell μ.length), some (.int rows), some (.int letters), some (.tup (dl.map .int)), some p, some t, none] → env0 7 [.cell μ.length, .int rows, .int letters, .tup (dl.map .int), p, t] = E := by rintro _ rfl; rfl
  rw [hy _ rfl, seq_nx (env' := [some (D.cell μ.length), some (.int rows), some (.int letters), some (.tup (dl.map .int)), some p, some t, none]) (μ' := μ ++ [.ins a.Program []]) (by simp only [Dv.ap_seq, Dv.ap_next, Dv.ap_ret, Dv.ap_retN, Dv.ap_drop, Dv.ap_break, Dv.ap_cont, Dv.ap_ifS, Dv.ap_asg, Dv.ap_par, Dv.ap_gnm, Dv.ap_gtup, Dv.ap_gcons, Dv.ap_gnil, Dv.ap_gsub, Dv.ap_var, Dv.ap_con, Dv.ap_op, Dv.ap_un, Dv.ap_chain, Dv.ap_and, Dv.ap_or, Dv.ap_not, Dv.ap_if, Dv.ap_test, Dv.ap_bAnd, Dv.ap_bOr, Dv.ap_bNot, Dv.ap_bTru, Dv.ap_bYes, Dv.ap_aNil, Dv.ap_aCons, Dv.ap_tup, Dv.ap_lst, Dv.ap_dct, Dv.ap_B, Dv.ap_call, Dv.ap_call0, Dv.ap_sl, Dv.ap_oNo, Dv.ap_oAt, Dv.ap_me, Dv.ap_me0, Dv.ap_for, Dv.ap_iTup, Dv.ap_iLst, Dv.ap_iStr, Dv.ap_raise0, Dv.ap_raise1, Dv.bind_ok, Dv.toS_ok, Dv.get_ok, Dv.noEx_ok, Dv.onG_some, Dv.then_nx, Dv.then_rt, Option.bind_some, List.set_cons_succ, List.set_cons_zero, List.getElem?_cons_zero, List.getElem?_cons_succ, Dv.dEq_ii, Dv.dEq_ss, Dv.dNe_ii, Dv.dNe_ss, Dv.dLt_ii, Dv.dLe_ii, Dv.dGt_ii, Dv.dGe_ii, Dv.dAddG_ii, Dv.dSub_ii, Dv.int1_i, Dv.abs_i, decide_true, decide_false, Bool.false_eq_true, if_true, if_false, Dv.env0, List.map_cons, List.map_nil, List.length_cons, List.length_nil, List.replicate, List.cons_append, List.nil_append, Nat.zero_add, Nat.reduceAdd, Nat.reduceSub, Dv.len_tup, Dv.len_str, Dv.ix_tup', Dv.tru_bl, Dv.dIsN_n, Dv.dNotN_n, Dv.seqOf_tup, Dv.setOf_tup, beq_self_eq_true, Dv.at0, Dv.at1, Dv.at2, Dv.at3, Dv.at4, Bool.not_true, Bool.not_false, Int.reduceEq, is_between gr', h1]),
    seq_nx (env' := [some (D.cell μ.length), some (.int rows), some (.int letters), some (.tup (dl.map .int)), some p, some t, none]) (μ' := μ ++ [.ins a.Program []]) (by simp only [Dv.ap_seq, Dv.ap_next, Dv.ap_ret, Dv.ap_retN, Dv.ap_drop, Dv.ap_break, Dv.ap_cont, Dv.ap_ifS, Dv.ap_asg, Dv.ap_par, Dv.ap_gnm, Dv.ap_gtup, Dv.ap_gcons, Dv.ap_gnil, Dv.ap_gsub, Dv.ap_var, Dv.ap_con, Dv.ap_op, Dv.ap_un, Dv.ap_chain, Dv.ap_and, Dv.ap_or, Dv.ap_not, Dv.ap_if, Dv.ap_test, Dv.ap_bAnd, Dv.ap_bOr, Dv.ap_bNot, Dv.ap_bTru, Dv.ap_bYes, Dv.ap_aNil, Dv.ap_aCons, Dv.ap_tup, Dv.ap_lst, Dv.ap_dct, Dv.ap_B, Dv.ap_call, Dv.ap_call0, Dv.ap_sl, Dv.ap_oNo, Dv.ap_oAt, Dv.ap_me, Dv.ap_me0, Dv.ap_for, Dv.ap_iTup, Dv.ap_iLst, Dv.ap_iStr, Dv.ap_raise0, Dv.ap_raise1, Dv.bind_ok, Dv.toS_ok, Dv.get_ok, Dv.noEx_ok, Dv.onG_some, Dv.then_nx, Dv.then_rt, Option.bind_some, List.set_cons_succ, List.set_cons_zero, List.getElem?_cons_zero, List.getElem?_cons_succ, Dv.dEq_ii, Dv.dEq_ss, Dv.dNe_ii, Dv.dNe_ss, Dv.dLt_ii, Dv.dLe_ii, Dv.dGt_ii, Dv.dGe_ii, Dv.dAddG_ii, Dv.dSub_ii, Dv.int1_i, Dv.abs_i, decide_true, decide_false, Bool.false_eq_true, if_true, if_false, Dv.env0, List.map_cons, List.map_nil, List.length_cons, List.length_nil, List.replicate, List.cons_append, List.nil_append, Nat.zero_add, Nat.reduceAdd, Nat.reduceSub, Dv.len_tup, Dv.len_str, Dv.ix_tup', Dv.tru_bl, Dv.dIsN_n, Dv.dNotN_n, Dv.seqOf_tup, Dv.setOf_tup, beq_self_eq_true, Dv.at0, Dv.at1, Dv.at2, Dv.at3, Dv.at4, Bool.not_true, Bool.not_false, Int.reduceEq, is_between gl', h2]),
    seq_nx (env' := [some (D.cell μ.length), some (.int rows), some (.int letters), some (.tup (dl.map .int)), some p, some t, none]) (μ' := μ ++ [.ins a.Program []] ++ lA) (by simp only [Dv.ap_seq, Dv.ap_next, Dv.ap_ret, Dv.ap_retN, Dv.ap_drop, Dv.ap_break, Dv.ap_cont, Dv.ap_ifS, Dv.ap_asg, Dv.ap_par, Dv.ap_gnm, Dv.ap_gtup, Dv.ap_gcons, Dv.ap_gnil, Dv.ap_gsub, Dv.ap_var, Dv.ap_con, Dv.ap_op, Dv.ap_un, Dv.ap_chain, Dv.ap_and, Dv.ap_or, Dv.ap_not, Dv.ap_if, Dv.ap_test, Dv.ap_bAnd, Dv.ap_bOr, Dv.ap_bNot, Dv.ap_bTru, Dv.ap_bYes, Dv.ap_aNil, Dv.ap_aCons, Dv.ap_tup, Dv.ap_lst, Dv.ap_dct, Dv.ap_B, Dv.ap_call, Dv.ap_call0, Dv.ap_sl, Dv.ap_oNo, Dv.ap_oAt, Dv.ap_me, Dv.ap_me0, Dv.ap_for, Dv.ap_iTup, Dv.ap_iLst, Dv.ap_iStr, Dv.ap_raise0, Dv.ap_raise1, Dv.bind_ok, Dv.toS_ok, Dv.get_ok, Dv.noEx_ok, Dv.onG_some, Dv.then_nx, Dv.then_rt, Option.bind_some, List.set_cons_succ, List.set_cons_zero, List.getElem?_cons_zero, List.getElem?_cons_succ, Dv.dEq_ii, Dv.dEq_ss, Dv.dNe_ii, Dv.dNe_ss, Dv.dLt_ii, Dv.dLe_ii, Dv.dGt_ii, Dv.dGe_ii, Dv.dAddG_ii, Dv.dSub_ii, Dv.int1_i, Dv.abs_i, decide_true, decide_false, Bool.false_eq_true, if_true, if_false, Dv.env0, List.map_cons, List.map_nil, List.length_cons, List.length_nil, List.replicate, List.cons_append, List.nil_append, Nat.zero_add, Nat.reduceAdd, Nat.reduceSub, Dv.len_tup, Dv.len_str, Dv.ix_tup', Dv.tru_bl, Dv.dIsN_n, Dv.dNotN_n, Dv.seqOf_tup, Dv.setOf_tup, beq_self_eq_true, Dv.at0, Dv.at1, Dv.at2, Dv.at3, Dv.at4, Bool.not_true, Bool.not_false, Int.reduceEq, hA]),
    seq_nx (env' := [some (D.cell μ.length), some (.int rows), some (.int letters), some (.tup (dl.map .int)), some p, some t, some (.int (m + 1))]) (μ' := μ ++ [.ins a.Program []] ++ lA) (by simp only [Dv.ap_seq, Dv.ap_next, Dv.ap_ret, Dv.ap_retN, Dv.ap_drop, Dv.ap_break, Dv.ap_cont, Dv.ap_ifS, Dv.ap_asg, Dv.ap_par, Dv.ap_gnm, Dv.ap_gtup, Dv.ap_gcons, Dv.ap_gnil, Dv.ap_gsub, Dv.ap_var, Dv.ap_con, Dv.ap_op, Dv.ap_un, Dv.ap_chain, Dv.ap_and, Dv.ap_or, Dv.ap_not, Dv.ap_if, Dv.ap_test, Dv.ap_bAnd, Dv.ap_bOr, Dv.ap_bNot, Dv.ap_bTru, Dv.ap_bYes, Dv.ap_aNil, Dv.ap_aCons, Dv.ap_tup, Dv.ap_lst, Dv.ap_dct, Dv.ap_B, Dv.ap_call, Dv.ap_call0, Dv.ap_sl, Dv.ap_oNo, Dv.ap_oAt, Dv.ap_me, Dv.ap_me0, Dv.ap_for, Dv.ap_iTup, Dv.ap_iLst, Dv.ap_iStr, Dv.ap_raise0, Dv.ap_raise1, Dv.bind_ok, Dv.toS_ok, Dv.get_ok, Dv.noEx_ok, Dv.onG_some, Dv.then_nx, Dv.then_rt, Option.bind_some, List.set_cons_succ, List.set_cons_zero, List.getElem?_cons_zero, List.getElem?_cons_succ, Dv.dEq_ii, Dv.dEq_ss, Dv.dNe_ii, Dv.dNe_ss, Dv.dLt_ii, Dv.dLe_ii, Dv.dGt_ii, Dv.dGe_ii, Dv.dAddG_ii, Dv.dSub_ii, Dv.int1_i, Dv.abs_i, decide_true, decide_false, Bool.false_eq_true, if_true, if_false, Dv.env0, List.map_cons, List.map_nil, List.length_cons, List.length_nil, List.replicate, List.cons_append, List.nil_append, Nat.zero_add, Nat.reduceAdd, Nat.reduceSub, Dv.len_tup, Dv.len_str, Dv.ix_tup', Dv.tru_bl, Dv.dIsN_n, Dv.dNotN_n, Dv.seqOf_tup, Dv.setOf_tup, beq_self_eq_true, Dv.at0, Dv.at1, Dv.at2, Dv.at3, Dv.at4, Bool.not_true, Bool.not_false, Int.reduceEq, max_tup hm]),
    seq_nx (env' := [some (D.cell μ.length), some (.int rows), some (.int letters), some (.tup (dl.map .int)), some p, some t, some (.int (m + 1))]) (μ' := μ ++ [.ins a.Program []] ++ lA) (by simp only [Dv.ap_seq, Dv.ap_next, Dv.ap_ret, Dv.ap_retN, Dv.ap_drop, Dv.ap_break, Dv.ap_cont, Dv.ap_ifS, Dv.ap_asg, Dv.ap_par, Dv.ap_gnm, Dv.ap_gtup, Dv.ap_gcons, Dv.ap_gnil, Dv.ap_gsub, Dv.ap_var, Dv.ap_con, Dv.ap_op, Dv.ap_un, Dv.ap_chain, Dv.ap_and, Dv.ap_or, Dv.ap_not, Dv.ap_if, Dv.ap_test, Dv.ap_bAnd, Dv.ap_bOr, Dv.ap_bNot, Dv.ap_bTru, Dv.ap_bYes, Dv.ap_aNil, Dv.ap_aCons, Dv.ap_tup, Dv.ap_lst, Dv.ap_dct, Dv.ap_B, Dv.ap_call, Dv.ap_call0, Dv.ap_sl, Dv.ap_oNo, Dv.ap_oAt, Dv.ap_me, Dv.ap_me0, Dv.ap_for, Dv.ap_iTup, Dv.ap_iLst, Dv.ap_iStr, Dv.ap_raise0, Dv.ap_raise1, Dv.bind_ok, Dv.toS_ok, Dv.get_ok, Dv.noEx_ok, Dv.onG_some, Dv.then_nx, Dv.then_rt, Option.bind_some, List.set_cons_succ, List.set_cons_zero, List.getElem?_cons_zero, List.getElem?_cons_succ, Dv.dEq_ii, Dv.dEq_ss, Dv.dNe_ii, Dv.dNe_ss, Dv.dLt_ii, Dv.dLe_ii, Dv.dGt_ii, Dv.dGe_ii, Dv.dAddG_ii, Dv.dSub_ii, Dv.int1_i, Dv.abs_i, decide_true, decide_false, Bool.false_eq_true, if_true, if_false, Dv.env0, List.map_cons, List.map_nil, List.length_cons, List.length_nil, List.replicate, List.cons_append, List.nil_append, Nat.zero_add, Nat.reduceAdd, Nat.reduceSub, Dv.len_tup, Dv.len_str, Dv.ix_tup', Dv.tru_bl, Dv.dIsN_n, Dv.dNotN_n, Dv.seqOf_tup, Dv.setOf_tup, beq_self_eq_true, Dv.at0, Dv.at1, Dv.at2, Dv.at3, Dv.at4, Bool.not_true, Bool.not_false, Int.reduceEq, is_depth gp', h4]),
    seq_nx (env' := [some (D.cell μ.length), some (.int rows), some (.int letters), some (.tup (dl.map .int)), some p, some t, some (.int (m + 1))]) (μ' := μ ++ [.ins a.Program []] ++ lA) (by simp only [Dv.ap_seq, Dv.ap_next, Dv.ap_ret, Dv.ap_retN, Dv.ap_drop, Dv.ap_break, Dv.ap_cont, Dv.ap_ifS, Dv.ap_asg, Dv.ap_par, Dv.ap_gnm, Dv.ap_gtup, Dv.ap_gcons, Dv.ap_gnil, Dv.ap_gsub, Dv.ap_var, Dv.ap_con, Dv.ap_op, Dv.ap_un, Dv.ap_chain, Dv.ap_and, Dv.ap_or, Dv.ap_not, Dv.ap_if, Dv.ap_test, Dv.ap_bAnd, Dv.ap_bOr, Dv.ap_bNot, Dv.ap_bTru, Dv.ap_bYes, Dv.ap_aNil, Dv.ap_aCons, Dv.ap_tup, Dv.ap_lst, Dv.ap_dct, Dv.ap_B, Dv.ap_call, Dv.ap_call0, Dv.ap_sl, Dv.ap_oNo, Dv.ap_oAt, Dv.ap_me, Dv.ap_me0, Dv.ap_for, Dv.ap_iTup, Dv.ap_iLst, Dv.ap_iStr, Dv.ap_raise0, Dv.ap_raise1, Dv.bind_ok, Dv.toS_ok, Dv.get_ok, Dv.noEx_ok, Dv.onG_some, Dv.then_nx, Dv.then_rt, Option.bind_some, List.set_cons_succ, List.set_cons_zero, List.getElem?_cons_zero, List.getElem?_cons_succ, Dv.dEq_ii, Dv.dEq_ss, Dv.dNe_ii, Dv.dNe_ss, Dv.dLt_ii, Dv.dLe_ii, Dv.dGt_ii, Dv.dGe_ii, Dv.dAddG_ii, Dv.dSub_ii, Dv.int1_i, Dv.abs_i, decide_true, decide_false, Bool.false_eq_true, if_true, if_false, Dv.env0, List.map_cons, List.map_nil, List.length_cons, List.length_nil, List.replicate, List.cons_append, List.nil_append, Nat.zero_add, Nat.reduceAdd, Nat.reduceSub, Dv.len_tup, Dv.len_str, Dv.ix_tup', Dv.tru_bl, Dv.dIsN_n, Dv.dNotN_n, Dv.seqOf_tup, Dv.setOf_tup, beq_self_eq_true, Dv.at0, Dv.at1, Dv.at2, Dv.at3, Dv.at4, Bool.not_true, Bool.not_false, Int.reduceEq, is_program_table gt', h5]), e0, hz _ rfl]
  simp only [h4, h5, Bool.true_eq_false, if_false]
  rfl
/-- what is told of a refused one -/
def toldD : Option Str → D
  | none => .tup [.str "let", .non]
  | some w => .tup [.str "refused", .str w]
theorem refused {K : PySem.W.Frag} {a : Adr} (T : PureT K a) {μ : Mem} {r l d p t : D} (gr : Good μ r) (gl : Good μ l) (gd : Good μ d) (gp : Good μ p) (gt : Good μ t) :
    ∃ l', g__law_refused K a [.tup [r, l, d, p, t]] μ = .ok (toldD (wrongD r l d p t)) (μ ++ l') := by
  obtain ⟨l', h⟩ := init (K := K) (a := a) gr gl gd gp gt
  refine ⟨l', ?_⟩
  unfold g__law_refused b__law_refused runB
  have s2 : 2 ≤ sizeLine := by rw [sizeLine_eq]; omega
  have a3 : atI [r, l, d, p, t] 3 = some p := by simp
  have a4 : atI [r, l, d, p, t] 4 = some t := by simp
  simp only [Dv.ap_seq, Dv.ap_next, Dv.ap_ret, Dv.ap_retN, Dv.ap_drop, Dv.ap_break, Dv.ap_cont, Dv.ap_ifS, Dv.ap_asg, Dv.ap_par, Dv.ap_gnm, Dv.ap_gtup, Dv.ap_gcons, Dv.ap_gnil, Dv.ap_gsub, Dv.ap_var, Dv.ap_con, Dv.ap_op, Dv.ap_un, Dv.ap_chain, Dv.ap_and, Dv.ap_or, Dv.ap_not, Dv.ap_if, Dv.ap_test, Dv.ap_bAnd, Dv.ap_bOr, Dv.ap_bNot, Dv.ap_bTru, Dv.ap_bYes, Dv.ap_aNil, Dv.ap_aCons, Dv.ap_tup, Dv.ap_lst, Dv.ap_dct, Dv.ap_B, Dv.ap_call, Dv.ap_call0, Dv.ap_sl, Dv.ap_oNo, Dv.ap_oAt, Dv.ap_me, Dv.ap_me0, Dv.ap_for, Dv.ap_iTup, Dv.ap_iLst, Dv.ap_iStr, Dv.ap_raise0, Dv.ap_raise1, Dv.bind_ok, Dv.toS_ok, Dv.get_ok, Dv.noEx_ok, Dv.onG_some, Dv.then_nx, Dv.then_rt, Option.bind_some, List.set_cons_succ, List.set_cons_zero, List.getElem?_cons_zero, List.getElem?_cons_succ, Dv.dEq_ii, Dv.dEq_ss, Dv.dNe_ii, Dv.dNe_ss, Dv.dLt_ii, Dv.dLe_ii, Dv.dGt_ii, Dv.dGe_ii, Dv.dAddG_ii, Dv.dSub_ii, Dv.int1_i, Dv.abs_i, decide_true, decide_false, Bool.false_eq_true, if_true, if_false, Dv.env0, List.map_cons, List.map_nil, List.length_cons, List.length_nil, List.replicate, List.cons_append, List.nil_append, Nat.zero_add, Nat.reduceAdd, Nat.reduceSub, Dv.len_tup, Dv.len_str, Dv.ix_tup', Dv.tru_bl, Dv.dIsN_n, Dv.dNotN_n, Dv.seqOf_tup, Dv.setOf_tup, beq_self_eq_true, Dv.at0, Dv.at1, Dv.at2, Dv.at3, Dv.at4, Bool.not_true, Bool.not_false, Int.reduceEq, s2, sTryAs, fMake, a3, a4, h]
  cases wrongD r l d p t with
  | none => rfl
  | some w =>
    simp only [Dv.ap_seq, Dv.ap_next, Dv.ap_ret, Dv.ap_retN, Dv.ap_drop, Dv.ap_break, Dv.ap_cont, Dv.ap_ifS, Dv.ap_asg, Dv.ap_par, Dv.ap_gnm, Dv.ap_gtup, Dv.ap_gcons, Dv.ap_gnil, Dv.ap_gsub, Dv.ap_var, Dv.ap_con, Dv.ap_op, Dv.ap_un, Dv.ap_chain, Dv.ap_and, Dv.ap_or, Dv.ap_not, Dv.ap_if, Dv.ap_test, Dv.ap_bAnd, Dv.ap_bOr, Dv.ap_bNot, Dv.ap_bTru, Dv.ap_bYes, Dv.ap_aNil, Dv.ap_aCons, Dv.ap_tup, Dv.ap_lst, Dv.ap_dct, Dv.ap_B, Dv.ap_call, Dv.ap_call0, Dv.ap_sl, Dv.ap_oNo, Dv.ap_oAt, Dv.ap_me, Dv.ap_me0, Dv.ap_for, Dv.ap_iTup, Dv.ap_iLst, Dv.ap_iStr, Dv.ap_raise0, Dv.ap_raise1, Dv.bind_ok, Dv.toS_ok, Dv.get_ok, Dv.noEx_ok, Dv.onG_some, Dv.then_nx, Dv.then_rt, Option.bind_some, List.set_cons_succ, List.set_cons_zero, List.getElem?_cons_zero, List.getElem?_cons_succ, Dv.dEq_ii, Dv.dEq_ss, Dv.dNe_ii, Dv.dNe_ss, Dv.dLt_ii, Dv.dLe_ii, Dv.dGt_ii, Dv.dGe_ii, Dv.dAddG_ii, Dv.dSub_ii, Dv.int1_i, Dv.abs_i, decide_true, decide_false, Bool.false_eq_true, if_true, if_false, Dv.env0, List.map_cons, List.map_nil, List.length_cons, List.length_nil, List.replicate, List.cons_append, List.nil_append, Nat.zero_add, Nat.reduceAdd, Nat.reduceSub, Dv.len_tup, Dv.len_str, Dv.ix_tup', Dv.tru_bl, Dv.dIsN_n, Dv.dNotN_n, Dv.seqOf_tup, Dv.setOf_tup, beq_self_eq_true, Dv.at0, Dv.at1, Dv.at2, Dv.at3, Dv.at4, Bool.not_true, Bool.not_false, Int.reduceEq, bind_ex, toS_ex, then_ex, T.exm_BadProgram_WalkError, s2, clr, fIsX, T.exc_BadProgram, T.kit_BadProgram_BadProgram, T.kit_BadProgram_ValueError, fXf, List.lookup_cons]
    rfl
end Law

set_option maxRecDepth 100000
set_option maxHeartbeats 4000000
namespace Law
open PySem PySem.Spec PyProof.Rows L2 Dv
theorem draws {fs : FA} {v cnt n m : Nat} {fe : F} {env : Dv.Env} {μ : Mem} {k : Int} (P : Dice μ n m) (hf : fs env μ = .ok [.int cnt] μ) (hc : cnt ≤ 1000) (h0 : 0 < k) (h1 : k < 1073741824) (hv : ∀ x, (env.set v (some x))[0]? = some (some (.cell n))) (he : ∀ x μ, fe (env.set v (some x)) μ = .ok (.int k) μ) :
    Gives (fun d μ' => ∃ ns : List Int, d = .cell μ.length ∧ μ'[μ.length]? = some (.lst (ns.map .int)) ∧ ns.length = cnt ∧ (∀ i ∈ ns, 0 ≤ i ∧ i < k) ∧ Dice μ' n m ∧ Sbn n μ μ') (fLc (iRng1D fs) (gNm v) bYes (fCall0 (fun ds μ => if ds.length = 2 then g__law_draw ds μ else .no) (aCons (fVar 0) (aCons fe aNil))) [v] env μ) := by
  have lt := P.lt
  refine (lc_map (v := v) (rng1_ok (μ1 := μ) (n := cnt) hf (by omega)) (fun i acc μ' => ∃ ns : List Int, acc = ns.map .int ∧ ns.length = i ∧ (∀ i ∈ ns, 0 ≤ i ∧ i < k) ∧ Dice μ' n m ∧ Sbn n μ μ') (fun _ _ _ _ => gok_nil) ⟨[], rfl, rfl, fun i h => (nomatch h), P.app, Sbn.refl.app⟩ ?_).imp ?_
  · intro i x acc μ' hx q hA
    obtain ⟨ns, rfl, hn, hb, hD, hS⟩ := q
    have hi := (List.getElem?_eq_some_iff.mp hx).1
    rw [len_rng] at hi
    obtain ⟨_, μ2, e, r, rfl, r0, r1, hD2, hS2⟩ := draw hD h0 h1
    refine ⟨.int r, μ2, ?_, hS2 _ _ (by omega) hA, by rw [List.length_map, sizeLine_eq]; omega, ns ++ [r], by rw [List.map_append]; rfl, by simp [hn], ?_, hD2.put (by omega) (by omega), (hS.trans hS2).put (Nat.le_refl _)⟩
    · simp only [ap_call0, ap_aCons, ap_aNil, ap_var, hv, he, bind_ok, List.length_cons, List.length_nil, Nat.zero_add, Nat.reduceAdd, if_true, e, noEx_ok]
    · intro j hj
      rcases List.mem_append.mp hj with hj | hj
      · exact hb j hj
      · rw [List.mem_singleton] at hj; subst hj; exact ⟨r0, r1⟩
  · rintro d μ' ⟨acc, rfl, ⟨ns, rfl, hn, hb, hD, hS⟩, hA⟩
    rw [len_rng] at hn
    exact ⟨ns, rfl, hA, hn, hb, hD, hS⟩
/-- the shape of a standing -/
inductive It : D → Prop
  | num (k : Str) (i : Int) (ns : List Int) (h : ns ≠ []) (hl : ns.length ≤ 4) : It (.tup [.str k, .int i, .tup (ns.map .int)])
  | go (k : Str) (i j : Int) : It (.tup [.str k, .int i, .int j])
  | say (k w : Str) (j : Int) : It (.tup [.str k, .str w, .int j])
  | stop (k : Str) : It (.tup [.str k])
theorem nexts_ok {letters many : Int} {ns : List Int} (hl : (ns.length : Int) = letters + 1) (hb : ∀ i ∈ ns, 0 ≤ i ∧ i < many) : nextsD letters many (.tup (ns.map .int)) = true := by
  simp only [nextsD, List.length_map, hl, decide_true, Bool.true_and, List.all_map]
  rw [List.all_eq_true]
  intro i hi
  have := hb i hi
  simp only [Function.comp_def, btw, Bool.and_eq_true, decide_eq_true_eq]
  omega
theorem btw_ok {lo hi i : Int} (h0 : lo ≤ i) (h1 : i ≤ hi) : btw lo hi (.int i) = true := by
  simp only [btw, Bool.and_eq_true, decide_eq_true_eq]; exact ⟨h0, h1⟩
theorem item {μ : Mem} {n m : Nat} {rows letters hands size kind : Int} (P : Dice μ n m) (r1 : 1 ≤ rows) (r6 : rows ≤ 6) (l1 : 1 ≤ letters) (l3 : letters ≤ 3) (h1 : 1 ≤ hands) (h6 : hands ≤ 6) (s1 : 1 ≤ size) (s8 : size ≤ 8) :
    Gives (fun d μ' => It d ∧ itemD rows hands letters size d = true ∧ Dice μ' n m ∧ Sbn n μ μ') (g__law_item [.cell n, .int rows, .int letters, .int hands, .int size, .int kind] μ) := by
  have lt := P.lt
  have s3 : 3 ≤ sizeLine := by rw [sizeLine_eq]; omega
  have sz1 : 1 ≤ sizeLine := by rw [sizeLine_eq]; omega
  refine Ends.run ?_
  have hl : (((letters + 1).toNat : Nat) : Int) = letters + 1 := Int.toNat_of_nonneg (by omega)
  refine Nexts.seq (Q := fun e μ' => ∃ ns : List Int, e = [some (.cell n), some (.int rows), some (.int letters), some (.int hands), some (.int size), some (.int kind), some (.tup (ns.map .int)), none] ∧ ns.length = (letters + 1).toNat ∧ (∀ i ∈ ns, 0 ≤ i ∧ i < size) ∧ Dice μ' n m ∧ Sbn n μ μ') ?_ ?_
  · obtain ⟨_, μ', e, ns, rfl, hA, hn, hb, hD, hS⟩ := draws (v := 7) (fs := aCons (fOp dAddG (fVar 2) (fCon (.int 1))) aNil) (fe := fVar 4) (env := [some (.cell n), some (.int rows), some (.int letters), some (.int hands), some (.int size), some (.int kind), none, none]) (cnt := (letters + 1).toNat) (k := size) P (by simp only [Dv.ap_seq, Dv.ap_next, Dv.ap_ret, Dv.ap_retN, Dv.ap_drop, Dv.ap_break, Dv.ap_cont, Dv.ap_ifS, Dv.ap_asg, Dv.ap_par, Dv.ap_gnm, Dv.ap_gtup, Dv.ap_gcons, Dv.ap_gnil, Dv.ap_gsub, Dv.ap_var, Dv.ap_con, Dv.ap_op, Dv.ap_un, Dv.ap_chain, Dv.ap_and, Dv.ap_or, Dv.ap_not, Dv.ap_if, Dv.ap_test, Dv.ap_bAnd, Dv.ap_bOr, Dv.ap_bNot, Dv.ap_bTru, Dv.ap_bYes, Dv.ap_aNil, Dv.ap_aCons, Dv.ap_tup, Dv.ap_lst, Dv.ap_dct, Dv.ap_B, Dv.ap_call, Dv.ap_call0, Dv.ap_sl, Dv.ap_oNo, Dv.ap_oAt, Dv.ap_me, Dv.ap_me0, Dv.ap_for, Dv.ap_iTup, Dv.ap_iLst, Dv.ap_iStr, Dv.ap_raise0, Dv.ap_raise1, Dv.bind_ok, Dv.toS_ok, Dv.get_ok, Dv.noEx_ok, Dv.onG_some, Dv.then_nx, Dv.then_rt, Option.bind_some, List.set_cons_succ, List.set_cons_zero, List.getElem?_cons_zero, List.getElem?_cons_succ, Dv.dEq_ii, Dv.dEq_ss, Dv.dNe_ii, Dv.dNe_ss, Dv.dLt_ii, Dv.dLe_ii, Dv.dGt_ii, Dv.dGe_ii, Dv.dAddG_ii, Dv.dSub_ii, Dv.int1_i, Dv.abs_i, decide_true, decide_false, Bool.false_eq_true, if_true, if_false, Dv.env0, List.map_cons, List.map_nil, List.length_cons, List.length_nil, List.replicate, List.cons_append, List.nil_append, Nat.zero_add, Nat.reduceAdd, Nat.reduceSub, Dv.len_tup, Dv.len_str, Dv.ix_tup', Dv.tru_bl, Dv.dIsN_n, Dv.dNotN_n, Dv.seqOf_tup, Dv.setOf_tup, beq_self_eq_true, Dv.at0, Dv.at1, Dv.at2, Dv.at3, Dv.at4, Bool.not_true, Bool.not_false, Int.reduceEq, hl]) (by omega) (by omega) (by omega) (fun x => by simp only [Dv.ap_seq, Dv.ap_next, Dv.ap_ret, Dv.ap_retN, Dv.ap_drop, Dv.ap_break, Dv.ap_cont, Dv.ap_ifS, Dv.ap_asg, Dv.ap_par, Dv.ap_gnm, Dv.ap_gtup, Dv.ap_gcons, Dv.ap_gnil, Dv.ap_gsub, Dv.ap_var, Dv.ap_con, Dv.ap_op, Dv.ap_un, Dv.ap_chain, Dv.ap_and, Dv.ap_or, Dv.ap_not, Dv.ap_if, Dv.ap_test, Dv.ap_bAnd, Dv.ap_bOr, Dv.ap_bNot, Dv.ap_bTru, Dv.ap_bYes, Dv.ap_aNil, Dv.ap_aCons, Dv.ap_tup, Dv.ap_lst, Dv.ap_dct, Dv.ap_B, Dv.ap_call, Dv.ap_call0, Dv.ap_sl, Dv.ap_oNo, Dv.ap_oAt, Dv.ap_me, Dv.ap_me0, Dv.ap_for, Dv.ap_iTup, Dv.ap_iLst, Dv.ap_iStr, Dv.ap_raise0, Dv.ap_raise1, Dv.bind_ok, Dv.toS_ok, Dv.get_ok, Dv.noEx_ok, Dv.onG_some, Dv.then_nx, Dv.then_rt, Option.bind_some, List.set_cons_succ, List.set_cons_zero, List.getElem?_cons_zero, List.getElem?_cons_succ, Dv.dEq_ii, Dv.dEq_ss, Dv.dNe_ii, Dv.dNe_ss, Dv.dLt_ii, Dv.dLe_ii, Dv.dGt_ii, Dv.dGe_ii, Dv.dAddG_ii, Dv.dSub_ii, Dv.int1_i, Dv.abs_i, decide_true, decide_false, Bool.false_eq_true, if_true, if_false, Dv.env0, List.map_cons, List.map_nil, List.length_cons, List.length_nil, List.replicate, List.cons_append, List.nil_append, Nat.zero_add, Nat.reduceAdd, Nat.reduceSub, Dv.len_tup, Dv.len_str, Dv.ix_tup', Dv.tru_bl, Dv.dIsN_n, Dv.dNotN_n, Dv.seqOf_tup, Dv.setOf_tup, beq_self_eq_true, Dv.at0, Dv.at1, Dv.at2, Dv.at3, Dv.at4, Bool.not_true, Bool.not_false, Int.reduceEq]) (fun x μ => by simp only [Dv.ap_seq, Dv.ap_next, Dv.ap_ret, Dv.ap_retN, Dv.ap_drop, Dv.ap_break, Dv.ap_cont, Dv.ap_ifS, Dv.ap_asg, Dv.ap_par, Dv.ap_gnm, Dv.ap_gtup, Dv.ap_gcons, Dv.ap_gnil, Dv.ap_gsub, Dv.ap_var, Dv.ap_con, Dv.ap_op, Dv.ap_un, Dv.ap_chain, Dv.ap_and, Dv.ap_or, Dv.ap_not, Dv.ap_if, Dv.ap_test, Dv.ap_bAnd, Dv.ap_bOr, Dv.ap_bNot, Dv.ap_bTru, Dv.ap_bYes, Dv.ap_aNil, Dv.ap_aCons, Dv.ap_tup, Dv.ap_lst, Dv.ap_dct, Dv.ap_B, Dv.ap_call, Dv.ap_call0, Dv.ap_sl, Dv.ap_oNo, Dv.ap_oAt, Dv.ap_me, Dv.ap_me0, Dv.ap_for, Dv.ap_iTup, Dv.ap_iLst, Dv.ap_iStr, Dv.ap_raise0, Dv.ap_raise1, Dv.bind_ok, Dv.toS_ok, Dv.get_ok, Dv.noEx_ok, Dv.onG_some, Dv.then_nx, Dv.then_rt, Option.bind_some, List.set_cons_succ, List.set_cons_zero, List.getElem?_cons_zero, List.getElem?_cons_succ, Dv.dEq_ii, Dv.dEq_ss, Dv.dNe_ii, Dv.dNe_ss, Dv.dLt_ii, Dv.dLe_ii, Dv.dGt_ii, Dv.dGe_ii, Dv.dAddG_ii, Dv.dSub_ii, Dv.int1_i, Dv.abs_i, decide_true, decide_false, Bool.false_eq_true, if_true, if_false, Dv.env0, List.map_cons, List.map_nil, List.length_cons, List.length_nil, List.replicate, List.cons_append, List.nil_append, Nat.zero_add, Nat.reduceAdd, Nat.reduceSub, Dv.len_tup, Dv.len_str, Dv.ix_tup', Dv.tru_bl, Dv.dIsN_n, Dv.dNotN_n, Dv.seqOf_tup, Dv.setOf_tup, beq_self_eq_true, Dv.at0, Dv.at1, Dv.at2, Dv.at3, Dv.at4, Bool.not_true, Bool.not_false, Int.reduceEq])
    refine ⟨_, μ', ?_, ns, rfl, hn, hb, hD, hS⟩
    simp only [Dv.ap_seq, Dv.ap_next, Dv.ap_ret, Dv.ap_retN, Dv.ap_drop, Dv.ap_break, Dv.ap_cont, Dv.ap_ifS, Dv.ap_asg, Dv.ap_par, Dv.ap_gnm, Dv.ap_gtup, Dv.ap_gcons, Dv.ap_gnil, Dv.ap_gsub, Dv.ap_var, Dv.ap_con, Dv.ap_op, Dv.ap_un, Dv.ap_chain, Dv.ap_and, Dv.ap_or, Dv.ap_not, Dv.ap_if, Dv.ap_test, Dv.ap_bAnd, Dv.ap_bOr, Dv.ap_bNot, Dv.ap_bTru, Dv.ap_bYes, Dv.ap_aNil, Dv.ap_aCons, Dv.ap_tup, Dv.ap_lst, Dv.ap_dct, Dv.ap_B, Dv.ap_call, Dv.ap_call0, Dv.ap_sl, Dv.ap_oNo, Dv.ap_oAt, Dv.ap_me, Dv.ap_me0, Dv.ap_for, Dv.ap_iTup, Dv.ap_iLst, Dv.ap_iStr, Dv.ap_raise0, Dv.ap_raise1, Dv.bind_ok, Dv.toS_ok, Dv.get_ok, Dv.noEx_ok, Dv.onG_some, Dv.then_nx, Dv.then_rt, Option.bind_some, List.set_cons_succ, List.set_cons_zero, List.getElem?_cons_zero, List.getElem?_cons_succ, Dv.dEq_ii, Dv.dEq_ss, Dv.dNe_ii, Dv.dNe_ss, Dv.dLt_ii, Dv.dLe_ii, Dv.dGt_ii, Dv.dGe_ii, Dv.dAddG_ii, Dv.dSub_ii, Dv.int1_i, Dv.abs_i, decide_true, decide_false, Bool.false_eq_true, if_true, if_false, Dv.env0, List.map_cons, List.map_nil, List.length_cons, List.length_nil, List.replicate, List.cons_append, List.nil_append, Nat.zero_add, Nat.reduceAdd, Nat.reduceSub, Dv.len_tup, Dv.len_str, Dv.ix_tup', Dv.tru_bl, Dv.dIsN_n, Dv.dNotN_n, Dv.seqOf_tup, Dv.setOf_tup, beq_self_eq_true, Dv.at0, Dv.at1, Dv.at2, Dv.at3, Dv.at4, Bool.not_true, Bool.not_false, Int.reduceEq, e, dTupOf, seqOf, hA]
  · rintro _ μ1 ⟨ns, rfl, hn, hb, hD, hS⟩
    have hnl : (ns.length : Int) = letters + 1 := by omega
    have nn : ns ≠ [] := by intro z; rw [z] at hn; simp at hn; omega
    have hx := nexts_ok hnl hb
    have lt1 := hD.lt
    obtain ⟨n0, hn0⟩ : ∃ z, ns[0]? = some z := by
      cases ns with
      | nil => exact absurd rfl nn
      | cons z _ => exact ⟨z, rfl⟩
    have b0 := hb n0 (List.mem_of_getElem? hn0)
    have i0 : atI (ns.map D.int) 0 = some (.int n0) := by
      rw [atI_in (by omega) (by rw [List.length_map]; omega), List.getElem?_map]
      show (ns[0]?).map D.int = _
      rw [hn0]; rfl
    by_cases k1 : kind < 4
    · obtain ⟨_, μ2, e, r, rfl, q0, q1, hD2, hS2⟩ := draw (k := rows) hD (by omega) (by omega)
      simp only [Dv.ap_seq, Dv.ap_next, Dv.ap_ret, Dv.ap_retN, Dv.ap_drop, Dv.ap_break, Dv.ap_cont, Dv.ap_ifS, Dv.ap_asg, Dv.ap_par, Dv.ap_gnm, Dv.ap_gtup, Dv.ap_gcons, Dv.ap_gnil, Dv.ap_gsub, Dv.ap_var, Dv.ap_con, Dv.ap_op, Dv.ap_un, Dv.ap_chain, Dv.ap_and, Dv.ap_or, Dv.ap_not, Dv.ap_if, Dv.ap_test, Dv.ap_bAnd, Dv.ap_bOr, Dv.ap_bNot, Dv.ap_bTru, Dv.ap_bYes, Dv.ap_aNil, Dv.ap_aCons, Dv.ap_tup, Dv.ap_lst, Dv.ap_dct, Dv.ap_B, Dv.ap_call, Dv.ap_call0, Dv.ap_sl, Dv.ap_oNo, Dv.ap_oAt, Dv.ap_me, Dv.ap_me0, Dv.ap_for, Dv.ap_iTup, Dv.ap_iLst, Dv.ap_iStr, Dv.ap_raise0, Dv.ap_raise1, Dv.bind_ok, Dv.toS_ok, Dv.get_ok, Dv.noEx_ok, Dv.onG_some, Dv.then_nx, Dv.then_rt, Option.bind_some, List.set_cons_succ, List.set_cons_zero, List.getElem?_cons_zero, List.getElem?_cons_succ, Dv.dEq_ii, Dv.dEq_ss, Dv.dNe_ii, Dv.dNe_ss, Dv.dLt_ii, Dv.dLe_ii, Dv.dGt_ii, Dv.dGe_ii, Dv.dAddG_ii, Dv.dSub_ii, Dv.int1_i, Dv.abs_i, decide_true, decide_false, Bool.false_eq_true, if_true, if_false, Dv.env0, List.map_cons, List.map_nil, List.length_cons, List.length_nil, List.replicate, List.cons_append, List.nil_append, Nat.zero_add, Nat.reduceAdd, Nat.reduceSub, Dv.len_tup, Dv.len_str, Dv.ix_tup', Dv.tru_bl, Dv.dIsN_n, Dv.dNotN_n, Dv.seqOf_tup, Dv.setOf_tup, beq_self_eq_true, Dv.at0, Dv.at1, Dv.at2, Dv.at3, Dv.at4, Bool.not_true, Bool.not_false, Int.reduceEq, k1, e, s3]
      refine ends_rt ⟨.num _ _ _ nn (by omega), ?_, hD2, hS.trans hS2⟩
      rw [itemD3, if_pos rfl, btw_ok q0 (by omega), hx]; rfl
    by_cases k2 : kind < 8
    · obtain ⟨_, μ2, e, r, rfl, q0, q1, hD2, hS2⟩ := draw (k := hands) hD (by omega) (by omega)
      simp only [Dv.ap_seq, Dv.ap_next, Dv.ap_ret, Dv.ap_retN, Dv.ap_drop, Dv.ap_break, Dv.ap_cont, Dv.ap_ifS, Dv.ap_asg, Dv.ap_par, Dv.ap_gnm, Dv.ap_gtup, Dv.ap_gcons, Dv.ap_gnil, Dv.ap_gsub, Dv.ap_var, Dv.ap_con, Dv.ap_op, Dv.ap_un, Dv.ap_chain, Dv.ap_and, Dv.ap_or, Dv.ap_not, Dv.ap_if, Dv.ap_test, Dv.ap_bAnd, Dv.ap_bOr, Dv.ap_bNot, Dv.ap_bTru, Dv.ap_bYes, Dv.ap_aNil, Dv.ap_aCons, Dv.ap_tup, Dv.ap_lst, Dv.ap_dct, Dv.ap_B, Dv.ap_call, Dv.ap_call0, Dv.ap_sl, Dv.ap_oNo, Dv.ap_oAt, Dv.ap_me, Dv.ap_me0, Dv.ap_for, Dv.ap_iTup, Dv.ap_iLst, Dv.ap_iStr, Dv.ap_raise0, Dv.ap_raise1, Dv.bind_ok, Dv.toS_ok, Dv.get_ok, Dv.noEx_ok, Dv.onG_some, Dv.then_nx, Dv.then_rt, Option.bind_some, List.set_cons_succ, List.set_cons_zero, List.getElem?_cons_zero, List.getElem?_cons_succ, Dv.dEq_ii, Dv.dEq_ss, Dv.dNe_ii, Dv.dNe_ss, Dv.dLt_ii, Dv.dLe_ii, Dv.dGt_ii, Dv.dGe_ii, Dv.dAddG_ii, Dv.dSub_ii, Dv.int1_i, Dv.abs_i, decide_true, decide_false, Bool.false_eq_true, if_true, if_false, Dv.env0, List.map_cons, List.map_nil, List.length_cons, List.length_nil, List.replicate, List.cons_append, List.nil_append, Nat.zero_add, Nat.reduceAdd, Nat.reduceSub, Dv.len_tup, Dv.len_str, Dv.ix_tup', Dv.tru_bl, Dv.dIsN_n, Dv.dNotN_n, Dv.seqOf_tup, Dv.setOf_tup, beq_self_eq_true, Dv.at0, Dv.at1, Dv.at2, Dv.at3, Dv.at4, Bool.not_true, Bool.not_false, Int.reduceEq, k1, k2, e, s3]
      refine ends_rt ⟨.num _ _ _ nn (by omega), ?_, hD2, hS.trans hS2⟩
      rw [itemD3, if_neg (by decide +kernel), if_pos rfl, btw_ok q0 (by omega), hx]; rfl
    by_cases k3 : kind < 10
    · obtain ⟨_, μ2, e, r, rfl, q0, q1, hD2, hS2⟩ := draw (k := hands) hD (by omega) (by omega)
      simp only [Dv.ap_seq, Dv.ap_next, Dv.ap_ret, Dv.ap_retN, Dv.ap_drop, Dv.ap_break, Dv.ap_cont, Dv.ap_ifS, Dv.ap_asg, Dv.ap_par, Dv.ap_gnm, Dv.ap_gtup, Dv.ap_gcons, Dv.ap_gnil, Dv.ap_gsub, Dv.ap_var, Dv.ap_con, Dv.ap_op, Dv.ap_un, Dv.ap_chain, Dv.ap_and, Dv.ap_or, Dv.ap_not, Dv.ap_if, Dv.ap_test, Dv.ap_bAnd, Dv.ap_bOr, Dv.ap_bNot, Dv.ap_bTru, Dv.ap_bYes, Dv.ap_aNil, Dv.ap_aCons, Dv.ap_tup, Dv.ap_lst, Dv.ap_dct, Dv.ap_B, Dv.ap_call, Dv.ap_call0, Dv.ap_sl, Dv.ap_oNo, Dv.ap_oAt, Dv.ap_me, Dv.ap_me0, Dv.ap_for, Dv.ap_iTup, Dv.ap_iLst, Dv.ap_iStr, Dv.ap_raise0, Dv.ap_raise1, Dv.bind_ok, Dv.toS_ok, Dv.get_ok, Dv.noEx_ok, Dv.onG_some, Dv.then_nx, Dv.then_rt, Option.bind_some, List.set_cons_succ, List.set_cons_zero, List.getElem?_cons_zero, List.getElem?_cons_succ, Dv.dEq_ii, Dv.dEq_ss, Dv.dNe_ii, Dv.dNe_ss, Dv.dLt_ii, Dv.dLe_ii, Dv.dGt_ii, Dv.dGe_ii, Dv.dAddG_ii, Dv.dSub_ii, Dv.int1_i, Dv.abs_i, decide_true, decide_false, Bool.false_eq_true, if_true, if_false, Dv.env0, List.map_cons, List.map_nil, List.length_cons, List.length_nil, List.replicate, List.cons_append, List.nil_append, Nat.zero_add, Nat.reduceAdd, Nat.reduceSub, Dv.len_tup, Dv.len_str, Dv.ix_tup', Dv.tru_bl, Dv.dIsN_n, Dv.dNotN_n, Dv.seqOf_tup, Dv.setOf_tup, beq_self_eq_true, Dv.at0, Dv.at1, Dv.at2, Dv.at3, Dv.at4, Bool.not_true, Bool.not_false, Int.reduceEq, k1, k2, k3, e, s3, i0]
      refine ends_rt ⟨.go _ _ _, ?_, hD2, hS.trans hS2⟩
      rw [itemD3, if_neg (by decide +kernel), if_neg (by decide +kernel), if_pos rfl, btw_ok q0 (by omega), btw_ok b0.1 (by omega)]; rfl
    by_cases k4 : kind = 10
    · obtain ⟨_, μ2, e, r, rfl, q0, q1, hD2, hS2⟩ := draw (μ := μ1 ++ [.lst [.str "x", .str "yes", .str "words"]]) (k := 3) hD.app (by omega) (by omega)
      have hL : μ2[μ1.length]? = some (.lst [.str "x", .str "yes", .str "words"]) := hS2 _ _ (by omega) (by simp)
      obtain ⟨w, hw, hwd⟩ : ∃ w : Str, atI [D.str "x", .str "yes", .str "words"] r = some (.str w) ∧ wordD (.str w) = true := by
        have : r = 0 ∨ r = 1 ∨ r = 2 := by omega
        rcases this with rfl | rfl | rfl
        · exact ⟨"x", by simp, by decide +kernel⟩
        · exact ⟨"yes", by simp, by decide +kernel⟩
        · exact ⟨"words", by simp, by decide +kernel⟩
      subst k4
      simp only [Dv.ap_seq, Dv.ap_next, Dv.ap_ret, Dv.ap_retN, Dv.ap_drop, Dv.ap_break, Dv.ap_cont, Dv.ap_ifS, Dv.ap_asg, Dv.ap_par, Dv.ap_gnm, Dv.ap_gtup, Dv.ap_gcons, Dv.ap_gnil, Dv.ap_gsub, Dv.ap_var, Dv.ap_con, Dv.ap_op, Dv.ap_un, Dv.ap_chain, Dv.ap_and, Dv.ap_or, Dv.ap_not, Dv.ap_if, Dv.ap_test, Dv.ap_bAnd, Dv.ap_bOr, Dv.ap_bNot, Dv.ap_bTru, Dv.ap_bYes, Dv.ap_aNil, Dv.ap_aCons, Dv.ap_tup, Dv.ap_lst, Dv.ap_dct, Dv.ap_B, Dv.ap_call, Dv.ap_call0, Dv.ap_sl, Dv.ap_oNo, Dv.ap_oAt, Dv.ap_me, Dv.ap_me0, Dv.ap_for, Dv.ap_iTup, Dv.ap_iLst, Dv.ap_iStr, Dv.ap_raise0, Dv.ap_raise1, Dv.bind_ok, Dv.toS_ok, Dv.get_ok, Dv.noEx_ok, Dv.onG_some, Dv.then_nx, Dv.then_rt, Option.bind_some, List.set_cons_succ, List.set_cons_zero, List.getElem?_cons_zero, List.getElem?_cons_succ, Dv.dEq_ii, Dv.dEq_ss, Dv.dNe_ii, Dv.dNe_ss, Dv.dLt_ii, Dv.dLe_ii, Dv.dGt_ii, Dv.dGe_ii, Dv.dAddG_ii, Dv.dSub_ii, Dv.int1_i, Dv.abs_i, decide_true, decide_false, Bool.false_eq_true, if_true, if_false, Dv.env0, List.map_cons, List.map_nil, List.length_cons, List.length_nil, List.replicate, List.cons_append, List.nil_append, Nat.zero_add, Nat.reduceAdd, Nat.reduceSub, Dv.len_tup, Dv.len_str, Dv.ix_tup', Dv.tru_bl, Dv.dIsN_n, Dv.dNotN_n, Dv.seqOf_tup, Dv.setOf_tup, beq_self_eq_true, Dv.at0, Dv.at1, Dv.at2, Dv.at3, Dv.at4, Bool.not_true, Bool.not_false, Int.reduceEq, e, s3, i0, ix_of hL hw, Int.reduceLT]
      refine ends_rt ⟨.say _ _ _, ?_, hD2, hS.app.trans hS2⟩
      rw [itemD3, if_neg (by decide +kernel), if_neg (by decide +kernel), if_neg (by decide +kernel), if_pos rfl, hwd, btw_ok b0.1 (by omega)]; rfl
    · simp only [Dv.ap_seq, Dv.ap_next, Dv.ap_ret, Dv.ap_retN, Dv.ap_drop, Dv.ap_break, Dv.ap_cont, Dv.ap_ifS, Dv.ap_asg, Dv.ap_par, Dv.ap_gnm, Dv.ap_gtup, Dv.ap_gcons, Dv.ap_gnil, Dv.ap_gsub, Dv.ap_var, Dv.ap_con, Dv.ap_op, Dv.ap_un, Dv.ap_chain, Dv.ap_and, Dv.ap_or, Dv.ap_not, Dv.ap_if, Dv.ap_test, Dv.ap_bAnd, Dv.ap_bOr, Dv.ap_bNot, Dv.ap_bTru, Dv.ap_bYes, Dv.ap_aNil, Dv.ap_aCons, Dv.ap_tup, Dv.ap_lst, Dv.ap_dct, Dv.ap_B, Dv.ap_call, Dv.ap_call0, Dv.ap_sl, Dv.ap_oNo, Dv.ap_oAt, Dv.ap_me, Dv.ap_me0, Dv.ap_for, Dv.ap_iTup, Dv.ap_iLst, Dv.ap_iStr, Dv.ap_raise0, Dv.ap_raise1, Dv.bind_ok, Dv.toS_ok, Dv.get_ok, Dv.noEx_ok, Dv.onG_some, Dv.then_nx, Dv.then_rt, Option.bind_some, List.set_cons_succ, List.set_cons_zero, List.getElem?_cons_zero, List.getElem?_cons_succ, Dv.dEq_ii, Dv.dEq_ss, Dv.dNe_ii, Dv.dNe_ss, Dv.dLt_ii, Dv.dLe_ii, Dv.dGt_ii, Dv.dGe_ii, Dv.dAddG_ii, Dv.dSub_ii, Dv.int1_i, Dv.abs_i, decide_true, decide_false, Bool.false_eq_true, if_true, if_false, Dv.env0, List.map_cons, List.map_nil, List.length_cons, List.length_nil, List.replicate, List.cons_append, List.nil_append, Nat.zero_add, Nat.reduceAdd, Nat.reduceSub, Dv.len_tup, Dv.len_str, Dv.ix_tup', Dv.tru_bl, Dv.dIsN_n, Dv.dNotN_n, Dv.seqOf_tup, Dv.setOf_tup, beq_self_eq_true, Dv.at0, Dv.at1, Dv.at2, Dv.at3, Dv.at4, Bool.not_true, Bool.not_false, Int.reduceEq, k1, k2, k3, k4, sz1]
      refine ends_rt ⟨.stop _, ?_, hD, hS⟩
      rfl
end Law

set_option maxRecDepth 100000
set_option maxHeartbeats 4000000
namespace Law
open PySem PySem.Spec PyProof.Rows L2 Dv
theorem deal_ok {rows hands : Nat} {dl : List Int} (h : Dealing rows dl hands) : dealD rows (.tup (dl.map .int)) = true ∧ maxI dl = some ((hands : Int) - 1) ∧ handsOf (.tup (dl.map .int)) = hands := by
  obtain ⟨h1, h2, h3, h4, h5⟩ := h
  have ne : dl ≠ [] := by intro z; subst z; have := h5 0 h2; cases this
  obtain ⟨m, hm⟩ := maxI_some ne
  obtain ⟨m1, m2⟩ := maxI_spec hm
  have em : m = (hands : Int) - 1 := Dealing.max ⟨h1, h2, h3, h4, h5⟩ m1 m2
  subst em
  refine ⟨?_, hm, ?_⟩
  · have hs : segB dl = true := @decide_eq_true _ (Classical.propDecidable _) ⟨hands, h4, h5⟩
    simp only [dealD, List.length_map, h1, decide_true, Bool.true_and, intsL_map, hs, Bool.and_true, List.all_map]
    rw [List.all_eq_true]
    intro i hi
    have := h4 i hi
    exact btw_ok this.1 (by omega)
  · simp only [handsOf, intsL_map, hm, Option.getD_some]; omega
/-- a right program's parts -/
structure IsSpec (d : D) : Prop where
  ex : ∃ (rows letters : Int) (dl : List Int) (p : D) (items : List D), d = .tup [.int rows, .int letters, .tup (dl.map .int), p, .tup items] ∧ 1 ≤ rows ∧ rows ≤ 6 ∧ (dl.length : Int) = rows ∧ (p = .non ∨ ∃ i, p = .int i) ∧ 1 ≤ items.length ∧ items.length ≤ 8 ∧ (∀ x ∈ items, It x) ∧ wrongD (.int rows) (.int letters) (.tup (dl.map .int)) p (.tup items) = none
theorem program {μ : Mem} {n m : Nat} (P : Dice μ n m) : Gives (fun d μ' => IsSpec d ∧ Dice μ' n m ∧ Sbn n μ μ') (g__law_program [.cell n, .int 8] μ) := by
  have lt := P.lt
  have s5 : 5 ≤ sizeLine := by rw [sizeLine_eq]; omega
  refine Ends.run ?_
  obtain ⟨_, μ1, e1, a, rfl, a0, a1, P1, S1⟩ := draw (k := 3) P (by omega) (by omega)
  refine Nexts.seq (Q := fun e μ' => e = [some (.cell n), some (.int 8), some (.int (1 + a)), none, none, none, none, none, none, none, none] ∧ μ1 = μ') ⟨_, _, by simp only [Dv.ap_seq, Dv.ap_next, Dv.ap_ret, Dv.ap_retN, Dv.ap_drop, Dv.ap_break, Dv.ap_cont, Dv.ap_ifS, Dv.ap_asg, Dv.ap_par, Dv.ap_gnm, Dv.ap_gtup, Dv.ap_gcons, Dv.ap_gnil, Dv.ap_gsub, Dv.ap_var, Dv.ap_con, Dv.ap_op, Dv.ap_un, Dv.ap_chain, Dv.ap_and, Dv.ap_or, Dv.ap_not, Dv.ap_if, Dv.ap_test, Dv.ap_bAnd, Dv.ap_bOr, Dv.ap_bNot, Dv.ap_bTru, Dv.ap_bYes, Dv.ap_aNil, Dv.ap_aCons, Dv.ap_tup, Dv.ap_lst, Dv.ap_dct, Dv.ap_B, Dv.ap_call, Dv.ap_call0, Dv.ap_sl, Dv.ap_oNo, Dv.ap_oAt, Dv.ap_me, Dv.ap_me0, Dv.ap_for, Dv.ap_iTup, Dv.ap_iLst, Dv.ap_iStr, Dv.ap_raise0, Dv.ap_raise1, Dv.bind_ok, Dv.toS_ok, Dv.get_ok, Dv.noEx_ok, Dv.onG_some, Dv.then_nx, Dv.then_rt, Option.bind_some, List.set_cons_succ, List.set_cons_zero, List.getElem?_cons_zero, List.getElem?_cons_succ, Dv.dEq_ii, Dv.dEq_ss, Dv.dNe_ii, Dv.dNe_ss, Dv.dLt_ii, Dv.dLe_ii, Dv.dGt_ii, Dv.dGe_ii, Dv.dAddG_ii, Dv.dSub_ii, Dv.int1_i, Dv.abs_i, decide_true, decide_false, Bool.false_eq_true, if_true, if_false, Dv.env0, List.map_cons, List.map_nil, List.length_cons, List.length_nil, List.replicate, List.cons_append, List.nil_append, Nat.zero_add, Nat.reduceAdd, Nat.reduceSub, Dv.len_tup, Dv.len_str, Dv.ix_tup', Dv.tru_bl, Dv.dIsN_n, Dv.dNotN_n, Dv.seqOf_tup, Dv.setOf_tup, beq_self_eq_true, Dv.at0, Dv.at1, Dv.at2, Dv.at3, Dv.at4, Bool.not_true, Bool.not_false, Int.reduceEq, e1], rfl, rfl⟩ ?_
  rintro _ _ ⟨rfl, rfl⟩
  obtain ⟨_, μ2, e2, b, rfl, b0, b1, P2, S2⟩ := draw (k := 3) P1 (by omega) (by omega)
  refine Nexts.seq (Q := fun e μ' => e = [some (.cell n), some (.int 8), some (.int (1 + a)), some (.int (1 + b)), none, none, none, none, none, none, none] ∧ μ2 = μ') ⟨_, _, by simp only [Dv.ap_seq, Dv.ap_next, Dv.ap_ret, Dv.ap_retN, Dv.ap_drop, Dv.ap_break, Dv.ap_cont, Dv.ap_ifS, Dv.ap_asg, Dv.ap_par, Dv.ap_gnm, Dv.ap_gtup, Dv.ap_gcons, Dv.ap_gnil, Dv.ap_gsub, Dv.ap_var, Dv.ap_con, Dv.ap_op, Dv.ap_un, Dv.ap_chain, Dv.ap_and, Dv.ap_or, Dv.ap_not, Dv.ap_if, Dv.ap_test, Dv.ap_bAnd, Dv.ap_bOr, Dv.ap_bNot, Dv.ap_bTru, Dv.ap_bYes, Dv.ap_aNil, Dv.ap_aCons, Dv.ap_tup, Dv.ap_lst, Dv.ap_dct, Dv.ap_B, Dv.ap_call, Dv.ap_call0, Dv.ap_sl, Dv.ap_oNo, Dv.ap_oAt, Dv.ap_me, Dv.ap_me0, Dv.ap_for, Dv.ap_iTup, Dv.ap_iLst, Dv.ap_iStr, Dv.ap_raise0, Dv.ap_raise1, Dv.bind_ok, Dv.toS_ok, Dv.get_ok, Dv.noEx_ok, Dv.onG_some, Dv.then_nx, Dv.then_rt, Option.bind_some, List.set_cons_succ, List.set_cons_zero, List.getElem?_cons_zero, List.getElem?_cons_succ, Dv.dEq_ii, Dv.dEq_ss, Dv.dNe_ii, Dv.dNe_ss, Dv.dLt_ii, Dv.dLe_ii, Dv.dGt_ii, Dv.dGe_ii, Dv.dAddG_ii, Dv.dSub_ii, Dv.int1_i, Dv.abs_i, decide_true, decide_false, Bool.false_eq_true, if_true, if_false, Dv.env0, List.map_cons, List.map_nil, List.length_cons, List.length_nil, List.replicate, List.cons_append, List.nil_append, Nat.zero_add, Nat.reduceAdd, Nat.reduceSub, Dv.len_tup, Dv.len_str, Dv.ix_tup', Dv.tru_bl, Dv.dIsN_n, Dv.dNotN_n, Dv.seqOf_tup, Dv.setOf_tup, beq_self_eq_true, Dv.at0, Dv.at1, Dv.at2, Dv.at3, Dv.at4, Bool.not_true, Bool.not_false, Int.reduceEq, e2], rfl, rfl⟩ ?_
  rintro _ _ ⟨rfl, rfl⟩
  obtain ⟨rows, hr⟩ := nat_of (z := 1 + a) (by omega)
  obtain ⟨_, μ3, e3, dl, hands, rfl, hd, P3, S3⟩ := dealing (rows := rows) P2 (by omega) (by omega)
  rw [hr]
  refine Nexts.seq (Q := fun e μ' => e = [some (.cell n), some (.int 8), some (.int rows), some (.int (1 + b)), some (.tup (dl.map .int)), none, none, none, none, none, none] ∧ μ3 = μ') ⟨_, _, by simp only [Dv.ap_seq, Dv.ap_next, Dv.ap_ret, Dv.ap_retN, Dv.ap_drop, Dv.ap_break, Dv.ap_cont, Dv.ap_ifS, Dv.ap_asg, Dv.ap_par, Dv.ap_gnm, Dv.ap_gtup, Dv.ap_gcons, Dv.ap_gnil, Dv.ap_gsub, Dv.ap_var, Dv.ap_con, Dv.ap_op, Dv.ap_un, Dv.ap_chain, Dv.ap_and, Dv.ap_or, Dv.ap_not, Dv.ap_if, Dv.ap_test, Dv.ap_bAnd, Dv.ap_bOr, Dv.ap_bNot, Dv.ap_bTru, Dv.ap_bYes, Dv.ap_aNil, Dv.ap_aCons, Dv.ap_tup, Dv.ap_lst, Dv.ap_dct, Dv.ap_B, Dv.ap_call, Dv.ap_call0, Dv.ap_sl, Dv.ap_oNo, Dv.ap_oAt, Dv.ap_me, Dv.ap_me0, Dv.ap_for, Dv.ap_iTup, Dv.ap_iLst, Dv.ap_iStr, Dv.ap_raise0, Dv.ap_raise1, Dv.bind_ok, Dv.toS_ok, Dv.get_ok, Dv.noEx_ok, Dv.onG_some, Dv.then_nx, Dv.then_rt, Option.bind_some, List.set_cons_succ, List.set_cons_zero, List.getElem?_cons_zero, List.getElem?_cons_succ, Dv.dEq_ii, Dv.dEq_ss, Dv.dNe_ii, Dv.dNe_ss, Dv.dLt_ii, Dv.dLe_ii, Dv.dGt_ii, Dv.dGe_ii, Dv.dAddG_ii, Dv.dSub_ii, Dv.int1_i, Dv.abs_i, decide_true, decide_false, Bool.false_eq_true, if_true, if_false, Dv.env0, List.map_cons, List.map_nil, List.length_cons, List.length_nil, List.replicate, List.cons_append, List.nil_append, Nat.zero_add, Nat.reduceAdd, Nat.reduceSub, Dv.len_tup, Dv.len_str, Dv.ix_tup', Dv.tru_bl, Dv.dIsN_n, Dv.dNotN_n, Dv.seqOf_tup, Dv.setOf_tup, beq_self_eq_true, Dv.at0, Dv.at1, Dv.at2, Dv.at3, Dv.at4, Bool.not_true, Bool.not_false, Int.reduceEq, e3], rfl, rfl⟩ ?_
  rintro _ _ ⟨rfl, rfl⟩
  obtain ⟨k1, k2, k3⟩ := deal_ok hd
  obtain ⟨_, μ4, e4, c, rfl, c0, c1, P4, S4⟩ := draw (k := 3) P3 (by omega) (by omega)
  refine Nexts.seq (Q := fun e μ' => e = [some (.cell n), some (.int 8), some (.int rows), some (.int (1 + b)), some (.tup (dl.map .int)), some (.int (1 + c)), none, none, none, none, none] ∧ μ4 = μ') ⟨_, _, by simp only [Dv.ap_seq, Dv.ap_next, Dv.ap_ret, Dv.ap_retN, Dv.ap_drop, Dv.ap_break, Dv.ap_cont, Dv.ap_ifS, Dv.ap_asg, Dv.ap_par, Dv.ap_gnm, Dv.ap_gtup, Dv.ap_gcons, Dv.ap_gnil, Dv.ap_gsub, Dv.ap_var, Dv.ap_con, Dv.ap_op, Dv.ap_un, Dv.ap_chain, Dv.ap_and, Dv.ap_or, Dv.ap_not, Dv.ap_if, Dv.ap_test, Dv.ap_bAnd, Dv.ap_bOr, Dv.ap_bNot, Dv.ap_bTru, Dv.ap_bYes, Dv.ap_aNil, Dv.ap_aCons, Dv.ap_tup, Dv.ap_lst, Dv.ap_dct, Dv.ap_B, Dv.ap_call, Dv.ap_call0, Dv.ap_sl, Dv.ap_oNo, Dv.ap_oAt, Dv.ap_me, Dv.ap_me0, Dv.ap_for, Dv.ap_iTup, Dv.ap_iLst, Dv.ap_iStr, Dv.ap_raise0, Dv.ap_raise1, Dv.bind_ok, Dv.toS_ok, Dv.get_ok, Dv.noEx_ok, Dv.onG_some, Dv.then_nx, Dv.then_rt, Option.bind_some, List.set_cons_succ, List.set_cons_zero, List.getElem?_cons_zero, List.getElem?_cons_succ, Dv.dEq_ii, Dv.dEq_ss, Dv.dNe_ii, Dv.dNe_ss, Dv.dLt_ii, Dv.dLe_ii, Dv.dGt_ii, Dv.dGe_ii, Dv.dAddG_ii, Dv.dSub_ii, Dv.int1_i, Dv.abs_i, decide_true, decide_false, Bool.false_eq_true, if_true, if_false, Dv.env0, List.map_cons, List.map_nil, List.length_cons, List.length_nil, List.replicate, List.cons_append, List.nil_append, Nat.zero_add, Nat.reduceAdd, Nat.reduceSub, Dv.len_tup, Dv.len_str, Dv.ix_tup', Dv.tru_bl, Dv.dIsN_n, Dv.dNotN_n, Dv.seqOf_tup, Dv.setOf_tup, beq_self_eq_true, Dv.at0, Dv.at1, Dv.at2, Dv.at3, Dv.at4, Bool.not_true, Bool.not_false, Int.reduceEq, e4], rfl, rfl⟩ ?_
  rintro _ _ ⟨rfl, rfl⟩
  have S04 := ((S1.trans S2).trans S3).trans S4
  refine Nexts.seq (Q := fun e μ' => ∃ p, e = [some (.cell n), some (.int 8), some (.int rows), some (.int (1 + b)), some (.tup (dl.map .int)), some p, none, none, none, none, none] ∧ Dice μ' n m ∧ Sbn n μ μ' ∧ (p = .non ∨ ∃ i, p = .int i) ∧ depthD hands p = true) ?_ ?_
  · have dd : depthD hands (.int (1 + c)) = true := btw_ok (by omega) (by omega)
    by_cases z : (hands : Int) - 1 = 0
    · obtain ⟨_, μ5, e5, q, rfl, q0, q1, P5, S5⟩ := draw (k := 3) P4 (by omega) (by omega)
      by_cases y : q = 0
      · refine ⟨_, μ5, by simp only [Dv.ap_seq, Dv.ap_next, Dv.ap_ret, Dv.ap_retN, Dv.ap_drop, Dv.ap_break, Dv.ap_cont, Dv.ap_ifS, Dv.ap_asg, Dv.ap_par, Dv.ap_gnm, Dv.ap_gtup, Dv.ap_gcons, Dv.ap_gnil, Dv.ap_gsub, Dv.ap_var, Dv.ap_con, Dv.ap_op, Dv.ap_un, Dv.ap_chain, Dv.ap_and, Dv.ap_or, Dv.ap_not, Dv.ap_if, Dv.ap_test, Dv.ap_bAnd, Dv.ap_bOr, Dv.ap_bNot, Dv.ap_bTru, Dv.ap_bYes, Dv.ap_aNil, Dv.ap_aCons, Dv.ap_tup, Dv.ap_lst, Dv.ap_dct, Dv.ap_B, Dv.ap_call, Dv.ap_call0, Dv.ap_sl, Dv.ap_oNo, Dv.ap_oAt, Dv.ap_me, Dv.ap_me0, Dv.ap_for, Dv.ap_iTup, Dv.ap_iLst, Dv.ap_iStr, Dv.ap_raise0, Dv.ap_raise1, Dv.bind_ok, Dv.toS_ok, Dv.get_ok, Dv.noEx_ok, Dv.onG_some, Dv.then_nx, Dv.then_rt, Option.bind_some, List.set_cons_succ, List.set_cons_zero, List.getElem?_cons_zero, List.getElem?_cons_succ, Dv.dEq_ii, Dv.dEq_ss, Dv.dNe_ii, Dv.dNe_ss, Dv.dLt_ii, Dv.dLe_ii, Dv.dGt_ii, Dv.dGe_ii, Dv.dAddG_ii, Dv.dSub_ii, Dv.int1_i, Dv.abs_i, decide_true, decide_false, Bool.false_eq_true, if_true, if_false, Dv.env0, List.map_cons, List.map_nil, List.length_cons, List.length_nil, List.replicate, List.cons_append, List.nil_append, Nat.zero_add, Nat.reduceAdd, Nat.reduceSub, Dv.len_tup, Dv.len_str, Dv.ix_tup', Dv.tru_bl, Dv.dIsN_n, Dv.dNotN_n, Dv.seqOf_tup, Dv.setOf_tup, beq_self_eq_true, Dv.at0, Dv.at1, Dv.at2, Dv.at3, Dv.at4, Bool.not_true, Bool.not_false, Int.reduceEq, max_tup k2, z, e5, y], .non, rfl, P5, S04.trans S5, .inl rfl, ?_⟩
        simp only [depthD, decide_eq_true_eq]; omega
      · exact ⟨_, μ5, by simp only [Dv.ap_seq, Dv.ap_next, Dv.ap_ret, Dv.ap_retN, Dv.ap_drop, Dv.ap_break, Dv.ap_cont, Dv.ap_ifS, Dv.ap_asg, Dv.ap_par, Dv.ap_gnm, Dv.ap_gtup, Dv.ap_gcons, Dv.ap_gnil, Dv.ap_gsub, Dv.ap_var, Dv.ap_con, Dv.ap_op, Dv.ap_un, Dv.ap_chain, Dv.ap_and, Dv.ap_or, Dv.ap_not, Dv.ap_if, Dv.ap_test, Dv.ap_bAnd, Dv.ap_bOr, Dv.ap_bNot, Dv.ap_bTru, Dv.ap_bYes, Dv.ap_aNil, Dv.ap_aCons, Dv.ap_tup, Dv.ap_lst, Dv.ap_dct, Dv.ap_B, Dv.ap_call, Dv.ap_call0, Dv.ap_sl, Dv.ap_oNo, Dv.ap_oAt, Dv.ap_me, Dv.ap_me0, Dv.ap_for, Dv.ap_iTup, Dv.ap_iLst, Dv.ap_iStr, Dv.ap_raise0, Dv.ap_raise1, Dv.bind_ok, Dv.toS_ok, Dv.get_ok, Dv.noEx_ok, Dv.onG_some, Dv.then_nx, Dv.then_rt, Option.bind_some, List.set_cons_succ, List.set_cons_zero, List.getElem?_cons_zero, List.getElem?_cons_succ, Dv.dEq_ii, Dv.dEq_ss, Dv.dNe_ii, Dv.dNe_ss, Dv.dLt_ii, Dv.dLe_ii, Dv.dGt_ii, Dv.dGe_ii, Dv.dAddG_ii, Dv.dSub_ii, Dv.int1_i, Dv.abs_i, decide_true, decide_false, Bool.false_eq_true, if_true, if_false, Dv.env0, List.map_cons, List.map_nil, List.length_cons, List.length_nil, List.replicate, List.cons_append, List.nil_append, Nat.zero_add, Nat.reduceAdd, Nat.reduceSub, Dv.len_tup, Dv.len_str, Dv.ix_tup', Dv.tru_bl, Dv.dIsN_n, Dv.dNotN_n, Dv.seqOf_tup, Dv.setOf_tup, beq_self_eq_true, Dv.at0, Dv.at1, Dv.at2, Dv.at3, Dv.at4, Bool.not_true, Bool.not_false, Int.reduceEq, max_tup k2, z, e5, y], _, rfl, P5, S04.trans S5, .inr ⟨_, rfl⟩, dd⟩
    · exact ⟨_, μ4, by simp only [Dv.ap_seq, Dv.ap_next, Dv.ap_ret, Dv.ap_retN, Dv.ap_drop, Dv.ap_break, Dv.ap_cont, Dv.ap_ifS, Dv.ap_asg, Dv.ap_par, Dv.ap_gnm, Dv.ap_gtup, Dv.ap_gcons, Dv.ap_gnil, Dv.ap_gsub, Dv.ap_var, Dv.ap_con, Dv.ap_op, Dv.ap_un, Dv.ap_chain, Dv.ap_and, Dv.ap_or, Dv.ap_not, Dv.ap_if, Dv.ap_test, Dv.ap_bAnd, Dv.ap_bOr, Dv.ap_bNot, Dv.ap_bTru, Dv.ap_bYes, Dv.ap_aNil, Dv.ap_aCons, Dv.ap_tup, Dv.ap_lst, Dv.ap_dct, Dv.ap_B, Dv.ap_call, Dv.ap_call0, Dv.ap_sl, Dv.ap_oNo, Dv.ap_oAt, Dv.ap_me, Dv.ap_me0, Dv.ap_for, Dv.ap_iTup, Dv.ap_iLst, Dv.ap_iStr, Dv.ap_raise0, Dv.ap_raise1, Dv.bind_ok, Dv.toS_ok, Dv.get_ok, Dv.noEx_ok, Dv.onG_some, Dv.then_nx, Dv.then_rt, Option.bind_some, List.set_cons_succ, List.set_cons_zero, List.getElem?_cons_zero, List.getElem?_cons_succ, Dv.dEq_ii, Dv.dEq_ss, Dv.dNe_ii, Dv.dNe_ss, Dv.dLt_ii, Dv.dLe_ii, Dv.dGt_ii, Dv.dGe_ii, Dv.dAddG_ii, Dv.dSub_ii, Dv.int1_i, Dv.abs_i, decide_true, decide_false, Bool.false_eq_true, if_true, if_false, Dv.env0, List.map_cons, List.map_nil, List.length_cons, List.length_nil, List.replicate, List.cons_append, List.nil_append, Nat.zero_add, Nat.reduceAdd, Nat.reduceSub, Dv.len_tup, Dv.len_str, Dv.ix_tup', Dv.tru_bl, Dv.dIsN_n, Dv.dNotN_n, Dv.seqOf_tup, Dv.setOf_tup, beq_self_eq_true, Dv.at0, Dv.at1, Dv.at2, Dv.at3, Dv.at4, Bool.not_true, Bool.not_false, Int.reduceEq, max_tup k2, z], _, rfl, P4, S04, .inr ⟨_, rfl⟩, dd⟩
  rintro _ μ5 ⟨p, rfl, P5, S5, hp, hdp⟩
  obtain ⟨_, μ6, e6, s, rfl, q0, q1, P6, S6⟩ := draw (k := 8) P5 (by omega) (by omega)
  obtain ⟨size, hs⟩ := nat_of (z := 1 + s) (by omega)
  refine Nexts.seq (Q := fun e μ' => e = [some (.cell n), some (.int 8), some (.int rows), some (.int (1 + b)), some (.tup (dl.map .int)), some p, some (.int size), none, none, none, none] ∧ μ6 = μ') ⟨_, _, by simp only [Dv.ap_seq, Dv.ap_next, Dv.ap_ret, Dv.ap_retN, Dv.ap_drop, Dv.ap_break, Dv.ap_cont, Dv.ap_ifS, Dv.ap_asg, Dv.ap_par, Dv.ap_gnm, Dv.ap_gtup, Dv.ap_gcons, Dv.ap_gnil, Dv.ap_gsub, Dv.ap_var, Dv.ap_con, Dv.ap_op, Dv.ap_un, Dv.ap_chain, Dv.ap_and, Dv.ap_or, Dv.ap_not, Dv.ap_if, Dv.ap_test, Dv.ap_bAnd, Dv.ap_bOr, Dv.ap_bNot, Dv.ap_bTru, Dv.ap_bYes, Dv.ap_aNil, Dv.ap_aCons, Dv.ap_tup, Dv.ap_lst, Dv.ap_dct, Dv.ap_B, Dv.ap_call, Dv.ap_call0, Dv.ap_sl, Dv.ap_oNo, Dv.ap_oAt, Dv.ap_me, Dv.ap_me0, Dv.ap_for, Dv.ap_iTup, Dv.ap_iLst, Dv.ap_iStr, Dv.ap_raise0, Dv.ap_raise1, Dv.bind_ok, Dv.toS_ok, Dv.get_ok, Dv.noEx_ok, Dv.onG_some, Dv.then_nx, Dv.then_rt, Option.bind_some, List.set_cons_succ, List.set_cons_zero, List.getElem?_cons_zero, List.getElem?_cons_succ, Dv.dEq_ii, Dv.dEq_ss, Dv.dNe_ii, Dv.dNe_ss, Dv.dLt_ii, Dv.dLe_ii, Dv.dGt_ii, Dv.dGe_ii, Dv.dAddG_ii, Dv.dSub_ii, Dv.int1_i, Dv.abs_i, decide_true, decide_false, Bool.false_eq_true, if_true, if_false, Dv.env0, List.map_cons, List.map_nil, List.length_cons, List.length_nil, List.replicate, List.cons_append, List.nil_append, Nat.zero_add, Nat.reduceAdd, Nat.reduceSub, Dv.len_tup, Dv.len_str, Dv.ix_tup', Dv.tru_bl, Dv.dIsN_n, Dv.dNotN_n, Dv.seqOf_tup, Dv.setOf_tup, beq_self_eq_true, Dv.at0, Dv.at1, Dv.at2, Dv.at3, Dv.at4, Bool.not_true, Bool.not_false, Int.reduceEq, e6, hs], rfl, rfl⟩ ?_
  rintro _ _ ⟨rfl, rfl⟩
  obtain ⟨_, μ7, e7, ks, rfl, hA, hn, hb, P7, S7⟩ := draws (v := 9) (fs := aCons (fVar 6) aNil) (fe := fCon (.int 12)) (env := [some (.cell n), some (.int 8), some (.int rows), some (.int (1 + b)), some (.tup (dl.map .int)), some p, some (.int size), none, none, none, none]) (cnt := size) (k := 12) P6 (by simp only [Dv.ap_seq, Dv.ap_next, Dv.ap_ret, Dv.ap_retN, Dv.ap_drop, Dv.ap_break, Dv.ap_cont, Dv.ap_ifS, Dv.ap_asg, Dv.ap_par, Dv.ap_gnm, Dv.ap_gtup, Dv.ap_gcons, Dv.ap_gnil, Dv.ap_gsub, Dv.ap_var, Dv.ap_con, Dv.ap_op, Dv.ap_un, Dv.ap_chain, Dv.ap_and, Dv.ap_or, Dv.ap_not, Dv.ap_if, Dv.ap_test, Dv.ap_bAnd, Dv.ap_bOr, Dv.ap_bNot, Dv.ap_bTru, Dv.ap_bYes, Dv.ap_aNil, Dv.ap_aCons, Dv.ap_tup, Dv.ap_lst, Dv.ap_dct, Dv.ap_B, Dv.ap_call, Dv.ap_call0, Dv.ap_sl, Dv.ap_oNo, Dv.ap_oAt, Dv.ap_me, Dv.ap_me0, Dv.ap_for, Dv.ap_iTup, Dv.ap_iLst, Dv.ap_iStr, Dv.ap_raise0, Dv.ap_raise1, Dv.bind_ok, Dv.toS_ok, Dv.get_ok, Dv.noEx_ok, Dv.onG_some, Dv.then_nx, Dv.then_rt, Option.bind_some, List.set_cons_succ, List.set_cons_zero, List.getElem?_cons_zero, List.getElem?_cons_succ, Dv.dEq_ii, Dv.dEq_ss, Dv.dNe_ii, Dv.dNe_ss, Dv.dLt_ii, Dv.dLe_ii, Dv.dGt_ii, Dv.dGe_ii, Dv.dAddG_ii, Dv.dSub_ii, Dv.int1_i, Dv.abs_i, decide_true, decide_false, Bool.false_eq_true, if_true, if_false, Dv.env0, List.map_cons, List.map_nil, List.length_cons, List.length_nil, List.replicate, List.cons_append, List.nil_append, Nat.zero_add, Nat.reduceAdd, Nat.reduceSub, Dv.len_tup, Dv.len_str, Dv.ix_tup', Dv.tru_bl, Dv.dIsN_n, Dv.dNotN_n, Dv.seqOf_tup, Dv.setOf_tup, beq_self_eq_true, Dv.at0, Dv.at1, Dv.at2, Dv.at3, Dv.at4, Bool.not_true, Bool.not_false, Int.reduceEq]) (by omega) (by omega) (by omega) (fun x => by simp only [Dv.ap_seq, Dv.ap_next, Dv.ap_ret, Dv.ap_retN, Dv.ap_drop, Dv.ap_break, Dv.ap_cont, Dv.ap_ifS, Dv.ap_asg, Dv.ap_par, Dv.ap_gnm, Dv.ap_gtup, Dv.ap_gcons, Dv.ap_gnil, Dv.ap_gsub, Dv.ap_var, Dv.ap_con, Dv.ap_op, Dv.ap_un, Dv.ap_chain, Dv.ap_and, Dv.ap_or, Dv.ap_not, Dv.ap_if, Dv.ap_test, Dv.ap_bAnd, Dv.ap_bOr, Dv.ap_bNot, Dv.ap_bTru, Dv.ap_bYes, Dv.ap_aNil, Dv.ap_aCons, Dv.ap_tup, Dv.ap_lst, Dv.ap_dct, Dv.ap_B, Dv.ap_call, Dv.ap_call0, Dv.ap_sl, Dv.ap_oNo, Dv.ap_oAt, Dv.ap_me, Dv.ap_me0, Dv.ap_for, Dv.ap_iTup, Dv.ap_iLst, Dv.ap_iStr, Dv.ap_raise0, Dv.ap_raise1, Dv.bind_ok, Dv.toS_ok, Dv.get_ok, Dv.noEx_ok, Dv.onG_some, Dv.then_nx, Dv.then_rt, Option.bind_some, List.set_cons_succ, List.set_cons_zero, List.getElem?_cons_zero, List.getElem?_cons_succ, Dv.dEq_ii, Dv.dEq_ss, Dv.dNe_ii, Dv.dNe_ss, Dv.dLt_ii, Dv.dLe_ii, Dv.dGt_ii, Dv.dGe_ii, Dv.dAddG_ii, Dv.dSub_ii, Dv.int1_i, Dv.abs_i, decide_true, decide_false, Bool.false_eq_true, if_true, if_false, Dv.env0, List.map_cons, List.map_nil, List.length_cons, List.length_nil, List.replicate, List.cons_append, List.nil_append, Nat.zero_add, Nat.reduceAdd, Nat.reduceSub, Dv.len_tup, Dv.len_str, Dv.ix_tup', Dv.tru_bl, Dv.dIsN_n, Dv.dNotN_n, Dv.seqOf_tup, Dv.setOf_tup, beq_self_eq_true, Dv.at0, Dv.at1, Dv.at2, Dv.at3, Dv.at4, Bool.not_true, Bool.not_false, Int.reduceEq]) (fun x μ => by simp only [Dv.ap_seq, Dv.ap_next, Dv.ap_ret, Dv.ap_retN, Dv.ap_drop, Dv.ap_break, Dv.ap_cont, Dv.ap_ifS, Dv.ap_asg, Dv.ap_par, Dv.ap_gnm, Dv.ap_gtup, Dv.ap_gcons, Dv.ap_gnil, Dv.ap_gsub, Dv.ap_var, Dv.ap_con, Dv.ap_op, Dv.ap_un, Dv.ap_chain, Dv.ap_and, Dv.ap_or, Dv.ap_not, Dv.ap_if, Dv.ap_test, Dv.ap_bAnd, Dv.ap_bOr, Dv.ap_bNot, Dv.ap_bTru, Dv.ap_bYes, Dv.ap_aNil, Dv.ap_aCons, Dv.ap_tup, Dv.ap_lst, Dv.ap_dct, Dv.ap_B, Dv.ap_call, Dv.ap_call0, Dv.ap_sl, Dv.ap_oNo, Dv.ap_oAt, Dv.ap_me, Dv.ap_me0, Dv.ap_for, Dv.ap_iTup, Dv.ap_iLst, Dv.ap_iStr, Dv.ap_raise0, Dv.ap_raise1, Dv.bind_ok, Dv.toS_ok, Dv.get_ok, Dv.noEx_ok, Dv.onG_some, Dv.then_nx, Dv.then_rt, Option.bind_some, List.set_cons_succ, List.set_cons_zero, List.getElem?_cons_zero, List.getElem?_cons_succ, Dv.dEq_ii, Dv.dEq_ss, Dv.dNe_ii, Dv.dNe_ss, Dv.dLt_ii, Dv.dLe_ii, Dv.dGt_ii, Dv.dGe_ii, Dv.dAddG_ii, Dv.dSub_ii, Dv.int1_i, Dv.abs_i, decide_true, decide_false, Bool.false_eq_true, if_true, if_false, Dv.env0, List.map_cons, List.map_nil, List.length_cons, List.length_nil, List.replicate, List.cons_append, List.nil_append, Nat.zero_add, Nat.reduceAdd, Nat.reduceSub, Dv.len_tup, Dv.len_str, Dv.ix_tup', Dv.tru_bl, Dv.dIsN_n, Dv.dNotN_n, Dv.seqOf_tup, Dv.setOf_tup, beq_self_eq_true, Dv.at0, Dv.at1, Dv.at2, Dv.at3, Dv.at4, Bool.not_true, Bool.not_false, Int.reduceEq])
  refine Nexts.seq (Q := fun e μ' => e = [some (.cell n), some (.int 8), some (.int rows), some (.int (1 + b)), some (.tup (dl.map .int)), some p, some (.int size), some (.cell μ6.length), none, none, none] ∧ μ7 = μ') ⟨_, _, by simp only [Dv.ap_seq, Dv.ap_next, Dv.ap_ret, Dv.ap_retN, Dv.ap_drop, Dv.ap_break, Dv.ap_cont, Dv.ap_ifS, Dv.ap_asg, Dv.ap_par, Dv.ap_gnm, Dv.ap_gtup, Dv.ap_gcons, Dv.ap_gnil, Dv.ap_gsub, Dv.ap_var, Dv.ap_con, Dv.ap_op, Dv.ap_un, Dv.ap_chain, Dv.ap_and, Dv.ap_or, Dv.ap_not, Dv.ap_if, Dv.ap_test, Dv.ap_bAnd, Dv.ap_bOr, Dv.ap_bNot, Dv.ap_bTru, Dv.ap_bYes, Dv.ap_aNil, Dv.ap_aCons, Dv.ap_tup, Dv.ap_lst, Dv.ap_dct, Dv.ap_B, Dv.ap_call, Dv.ap_call0, Dv.ap_sl, Dv.ap_oNo, Dv.ap_oAt, Dv.ap_me, Dv.ap_me0, Dv.ap_for, Dv.ap_iTup, Dv.ap_iLst, Dv.ap_iStr, Dv.ap_raise0, Dv.ap_raise1, Dv.bind_ok, Dv.toS_ok, Dv.get_ok, Dv.noEx_ok, Dv.onG_some, Dv.then_nx, Dv.then_rt, Option.bind_some, List.set_cons_succ, List.set_cons_zero, List.getElem?_cons_zero, List.getElem?_cons_succ, Dv.dEq_ii, Dv.dEq_ss, Dv.dNe_ii, Dv.dNe_ss, Dv.dLt_ii, Dv.dLe_ii, Dv.dGt_ii, Dv.dGe_ii, Dv.dAddG_ii, Dv.dSub_ii, Dv.int1_i, Dv.abs_i, decide_true, decide_false, Bool.false_eq_true, if_true, if_false, Dv.env0, List.map_cons, List.map_nil, List.length_cons, List.length_nil, List.replicate, List.cons_append, List.nil_append, Nat.zero_add, Nat.reduceAdd, Nat.reduceSub, Dv.len_tup, Dv.len_str, Dv.ix_tup', Dv.tru_bl, Dv.dIsN_n, Dv.dNotN_n, Dv.seqOf_tup, Dv.setOf_tup, beq_self_eq_true, Dv.at0, Dv.at1, Dv.at2, Dv.at3, Dv.at4, Bool.not_true, Bool.not_false, Int.reduceEq, e7], rfl, rfl⟩ ?_
  rintro _ _ ⟨rfl, rfl⟩
  have lt6 := P6.lt
  have S07 := (S5.trans S6).trans S7
  refine Nexts.seq (Q := fun e μ' => ∃ ks : List Int, e = [some (.cell n), some (.int 8), some (.int rows), some (.int (1 + b)), some (.tup (dl.map .int)), some p, some (.int size), some (.cell μ6.length), none, none, none] ∧ Dice μ' n m ∧ Sbn n μ μ' ∧ μ'[μ6.length]? = some (.lst (ks.map .int)) ∧ ks.length = size) ?_ ?_
  · obtain ⟨_, μ8, e8, f, rfl, f0, f1, P8, S8⟩ := draw (k := 4) P7 (by omega) (by omega)
    have hA8 := S8 _ _ (by omega) hA
    by_cases y : 0 < f
    · have hset : setL (.cell μ6.length) (.int 0) (.int 0) μ8 = .ok () (μ8.set μ6.length (.lst ((ks.map D.int).set 0 (.int 0)))) := set_of hA8 (by unfold ixN; rw [if_pos (by omega), if_pos (by rw [List.length_map]; omega)]; rfl)
      have hl6 : μ.length ≤ μ6.length := (S5.trans S6).len lt6.1
      refine ⟨_, μ8.set μ6.length (.lst ((ks.map D.int).set 0 (.int 0))), by simp only [Dv.ap_seq, Dv.ap_next, Dv.ap_ret, Dv.ap_retN, Dv.ap_drop, Dv.ap_break, Dv.ap_cont, Dv.ap_ifS, Dv.ap_asg, Dv.ap_par, Dv.ap_gnm, Dv.ap_gtup, Dv.ap_gcons, Dv.ap_gnil, Dv.ap_gsub, Dv.ap_var, Dv.ap_con, Dv.ap_op, Dv.ap_un, Dv.ap_chain, Dv.ap_and, Dv.ap_or, Dv.ap_not, Dv.ap_if, Dv.ap_test, Dv.ap_bAnd, Dv.ap_bOr, Dv.ap_bNot, Dv.ap_bTru, Dv.ap_bYes, Dv.ap_aNil, Dv.ap_aCons, Dv.ap_tup, Dv.ap_lst, Dv.ap_dct, Dv.ap_B, Dv.ap_call, Dv.ap_call0, Dv.ap_sl, Dv.ap_oNo, Dv.ap_oAt, Dv.ap_me, Dv.ap_me0, Dv.ap_for, Dv.ap_iTup, Dv.ap_iLst, Dv.ap_iStr, Dv.ap_raise0, Dv.ap_raise1, Dv.bind_ok, Dv.toS_ok, Dv.get_ok, Dv.noEx_ok, Dv.onG_some, Dv.then_nx, Dv.then_rt, Option.bind_some, List.set_cons_succ, List.set_cons_zero, List.getElem?_cons_zero, List.getElem?_cons_succ, Dv.dEq_ii, Dv.dEq_ss, Dv.dNe_ii, Dv.dNe_ss, Dv.dLt_ii, Dv.dLe_ii, Dv.dGt_ii, Dv.dGe_ii, Dv.dAddG_ii, Dv.dSub_ii, Dv.int1_i, Dv.abs_i, decide_true, decide_false, Bool.false_eq_true, if_true, if_false, Dv.env0, List.map_cons, List.map_nil, List.length_cons, List.length_nil, List.replicate, List.cons_append, List.nil_append, Nat.zero_add, Nat.reduceAdd, Nat.reduceSub, Dv.len_tup, Dv.len_str, Dv.ix_tup', Dv.tru_bl, Dv.dIsN_n, Dv.dNotN_n, Dv.seqOf_tup, Dv.setOf_tup, beq_self_eq_true, Dv.at0, Dv.at1, Dv.at2, Dv.at3, Dv.at4, Bool.not_true, Bool.not_false, Int.reduceEq, e8, y, hset], ks.set 0 0, rfl, P8.put (by omega) (by omega), (S07.trans S8).put hl6, ?_, by simp [hn]⟩
      rw [get_set hA8, List.map_set]
    · exact ⟨_, _, by simp only [Dv.ap_seq, Dv.ap_next, Dv.ap_ret, Dv.ap_retN, Dv.ap_drop, Dv.ap_break, Dv.ap_cont, Dv.ap_ifS, Dv.ap_asg, Dv.ap_par, Dv.ap_gnm, Dv.ap_gtup, Dv.ap_gcons, Dv.ap_gnil, Dv.ap_gsub, Dv.ap_var, Dv.ap_con, Dv.ap_op, Dv.ap_un, Dv.ap_chain, Dv.ap_and, Dv.ap_or, Dv.ap_not, Dv.ap_if, Dv.ap_test, Dv.ap_bAnd, Dv.ap_bOr, Dv.ap_bNot, Dv.ap_bTru, Dv.ap_bYes, Dv.ap_aNil, Dv.ap_aCons, Dv.ap_tup, Dv.ap_lst, Dv.ap_dct, Dv.ap_B, Dv.ap_call, Dv.ap_call0, Dv.ap_sl, Dv.ap_oNo, Dv.ap_oAt, Dv.ap_me, Dv.ap_me0, Dv.ap_for, Dv.ap_iTup, Dv.ap_iLst, Dv.ap_iStr, Dv.ap_raise0, Dv.ap_raise1, Dv.bind_ok, Dv.toS_ok, Dv.get_ok, Dv.noEx_ok, Dv.onG_some, Dv.then_nx, Dv.then_rt, Option.bind_some, List.set_cons_succ, List.set_cons_zero, List.getElem?_cons_zero, List.getElem?_cons_succ, Dv.dEq_ii, Dv.dEq_ss, Dv.dNe_ii, Dv.dNe_ss, Dv.dLt_ii, Dv.dLe_ii, Dv.dGt_ii, Dv.dGe_ii, Dv.dAddG_ii, Dv.dSub_ii, Dv.int1_i, Dv.abs_i, decide_true, decide_false, Bool.false_eq_true, if_true, if_false, Dv.env0, List.map_cons, List.map_nil, List.length_cons, List.length_nil, List.replicate, List.cons_append, List.nil_append, Nat.zero_add, Nat.reduceAdd, Nat.reduceSub, Dv.len_tup, Dv.len_str, Dv.ix_tup', Dv.tru_bl, Dv.dIsN_n, Dv.dNotN_n, Dv.seqOf_tup, Dv.setOf_tup, beq_self_eq_true, Dv.at0, Dv.at1, Dv.at2, Dv.at3, Dv.at4, Bool.not_true, Bool.not_false, Int.reduceEq, e8, y], ks, rfl, P8, S07.trans S8, hA8, hn⟩
  rintro _ μ8 ⟨ks, rfl, P8, S8, hA, hn⟩
  have lt8 := P8.lt
  obtain ⟨_, μ9, e9, items, rfl, ⟨hi1, hi2, P9, S9⟩, hI⟩ := lc_map (v := 10) (f := iLstD (fVar 7)) (e := fCall0 (fun ds μ => if ds.length = 6 then g__law_item ds μ else .no) (aCons (fVar 0) (aCons (fVar 2) (aCons (fVar 3) (aCons (fOp dAddG (fB dMaxG (aCons (fVar 4) aNil)) (fCon (.int 1))) (aCons (fVar 6) (aCons (fVar 10) aNil))))))) (env := [some (.cell n), some (.int 8), some (.int rows), some (.int (1 + b)), some (.tup (dl.map .int)), some p, some (.int size), some (.cell μ6.length), none, none, none]) (μ := μ8) (μ1 := μ8) (items := ks.map .int) (g := [(μ6.length, ks.map .int)]) (by simp only [Dv.ap_seq, Dv.ap_next, Dv.ap_ret, Dv.ap_retN, Dv.ap_drop, Dv.ap_break, Dv.ap_cont, Dv.ap_ifS, Dv.ap_asg, Dv.ap_par, Dv.ap_gnm, Dv.ap_gtup, Dv.ap_gcons, Dv.ap_gnil, Dv.ap_gsub, Dv.ap_var, Dv.ap_con, Dv.ap_op, Dv.ap_un, Dv.ap_chain, Dv.ap_and, Dv.ap_or, Dv.ap_not, Dv.ap_if, Dv.ap_test, Dv.ap_bAnd, Dv.ap_bOr, Dv.ap_bNot, Dv.ap_bTru, Dv.ap_bYes, Dv.ap_aNil, Dv.ap_aCons, Dv.ap_tup, Dv.ap_lst, Dv.ap_dct, Dv.ap_B, Dv.ap_call, Dv.ap_call0, Dv.ap_sl, Dv.ap_oNo, Dv.ap_oAt, Dv.ap_me, Dv.ap_me0, Dv.ap_for, Dv.ap_iTup, Dv.ap_iLst, Dv.ap_iStr, Dv.ap_raise0, Dv.ap_raise1, Dv.bind_ok, Dv.toS_ok, Dv.get_ok, Dv.noEx_ok, Dv.onG_some, Dv.then_nx, Dv.then_rt, Option.bind_some, List.set_cons_succ, List.set_cons_zero, List.getElem?_cons_zero, List.getElem?_cons_succ, Dv.dEq_ii, Dv.dEq_ss, Dv.dNe_ii, Dv.dNe_ss, Dv.dLt_ii, Dv.dLe_ii, Dv.dGt_ii, Dv.dGe_ii, Dv.dAddG_ii, Dv.dSub_ii, Dv.int1_i, Dv.abs_i, decide_true, decide_false, Bool.false_eq_true, if_true, if_false, Dv.env0, List.map_cons, List.map_nil, List.length_cons, List.length_nil, List.replicate, List.cons_append, List.nil_append, Nat.zero_add, Nat.reduceAdd, Nat.reduceSub, Dv.len_tup, Dv.len_str, Dv.ix_tup', Dv.tru_bl, Dv.dIsN_n, Dv.dNotN_n, Dv.seqOf_tup, Dv.setOf_tup, beq_self_eq_true, Dv.at0, Dv.at1, Dv.at2, Dv.at3, Dv.at4, Bool.not_true, Bool.not_false, Int.reduceEq, hA])
    (fun i acc μ' => acc.length = i ∧ (∀ x ∈ acc, It x ∧ itemD rows hands (1 + b) size x = true) ∧ Dice μ' n m ∧ Sbn n μ8 μ') (fun i acc μ' q => by rw [gok_one]; exact q.2.2.2 _ _ (by omega) hA) ⟨rfl, fun x h => (nomatch h), P8.app, Sbn.refl.app⟩ (by
      intro i x acc μ' hx q hL
      obtain ⟨q1, q2, q3, q4⟩ := q
      have hi := (List.getElem?_eq_some_iff.mp hx).1
      rw [List.length_map] at hi
      obtain ⟨y, _, rfl⟩ := List.mem_map.mp (List.mem_of_getElem? hx)
      obtain ⟨d, μ'', e, t1, t2, t3, t4⟩ := item (rows := rows) (letters := 1 + b) (hands := hands) (size := size) (kind := y) q3 (by omega) (by omega) (by omega) (by omega) (by have := hd.2.1; omega) (by have := hd.2.2.1; omega) (by omega) (by omega)
      refine ⟨d, μ'', ?_, t4 _ _ (by omega) hL, by rw [sizeLine_eq]; omega, by simp [q1], ?_, t3.put (by omega) (by omega), (q4.trans t4).put (Nat.le_refl _)⟩
      · rw [show (hands : Int) = (hands : Int) - 1 + 1 by omega] at e
        simp only [Dv.ap_seq, Dv.ap_next, Dv.ap_ret, Dv.ap_retN, Dv.ap_drop, Dv.ap_break, Dv.ap_cont, Dv.ap_ifS, Dv.ap_asg, Dv.ap_par, Dv.ap_gnm, Dv.ap_gtup, Dv.ap_gcons, Dv.ap_gnil, Dv.ap_gsub, Dv.ap_var, Dv.ap_con, Dv.ap_op, Dv.ap_un, Dv.ap_chain, Dv.ap_and, Dv.ap_or, Dv.ap_not, Dv.ap_if, Dv.ap_test, Dv.ap_bAnd, Dv.ap_bOr, Dv.ap_bNot, Dv.ap_bTru, Dv.ap_bYes, Dv.ap_aNil, Dv.ap_aCons, Dv.ap_tup, Dv.ap_lst, Dv.ap_dct, Dv.ap_B, Dv.ap_call, Dv.ap_call0, Dv.ap_sl, Dv.ap_oNo, Dv.ap_oAt, Dv.ap_me, Dv.ap_me0, Dv.ap_for, Dv.ap_iTup, Dv.ap_iLst, Dv.ap_iStr, Dv.ap_raise0, Dv.ap_raise1, Dv.bind_ok, Dv.toS_ok, Dv.get_ok, Dv.noEx_ok, Dv.onG_some, Dv.then_nx, Dv.then_rt, Option.bind_some, List.set_cons_succ, List.set_cons_zero, List.getElem?_cons_zero, List.getElem?_cons_succ, Dv.dEq_ii, Dv.dEq_ss, Dv.dNe_ii, Dv.dNe_ss, Dv.dLt_ii, Dv.dLe_ii, Dv.dGt_ii, Dv.dGe_ii, Dv.dAddG_ii, Dv.dSub_ii, Dv.int1_i, Dv.abs_i, decide_true, decide_false, Bool.false_eq_true, if_true, if_false, Dv.env0, List.map_cons, List.map_nil, List.length_cons, List.length_nil, List.replicate, List.cons_append, List.nil_append, Nat.zero_add, Nat.reduceAdd, Nat.reduceSub, Dv.len_tup, Dv.len_str, Dv.ix_tup', Dv.tru_bl, Dv.dIsN_n, Dv.dNotN_n, Dv.seqOf_tup, Dv.setOf_tup, beq_self_eq_true, Dv.at0, Dv.at1, Dv.at2, Dv.at3, Dv.at4, Bool.not_true, Bool.not_false, Int.reduceEq, max_tup k2, e]
      · intro z hz
        rcases List.mem_append.mp hz with hz | hz
        · exact q2 z hz
        · rw [List.mem_singleton] at hz; subst hz; exact ⟨t1, t2⟩)
  rw [List.length_map] at hi1
  have hw : wrongD (.int rows) (.int (1 + b)) (.tup (dl.map .int)) p (.tup items) = none := by
    have w1 : btw 1 6 (.int rows) = true := btw_ok (by omega) (by omega)
    have w2 : btw 1 3 (.int (1 + b)) = true := btw_ok (by omega) (by omega)
    have w5 : tableD rows hands (1 + b) 20000 (.tup items) = true := by
      have y1 : 1 ≤ (items.length : Int) := by omega
      have y2 : (items.length : Int) ≤ 20000 := by omega
      simp only [tableD, y1, y2, decide_true, Bool.true_and]
      rw [List.all_eq_true, hi1, hn]
      exact fun x hx => (hi2 x hx).2
    simp only [wrongD, w1, w2, intOf, k1, k3, hdp, w5, Bool.true_eq_false, if_false]
  refine ⟨.tup [.int rows, .int (1 + b), .tup (dl.map .int), p, .tup items], μ9, ?_, ⟨rows, 1 + b, dl, p, items, rfl, by omega, by omega, by rw [hd.1], hp, by omega, by omega, fun x hx => (hi2 x hx).1, hw⟩, P9, S8.trans S9⟩
  simp only [Dv.ap_seq, Dv.ap_next, Dv.ap_ret, Dv.ap_retN, Dv.ap_drop, Dv.ap_break, Dv.ap_cont, Dv.ap_ifS, Dv.ap_asg, Dv.ap_par, Dv.ap_gnm, Dv.ap_gtup, Dv.ap_gcons, Dv.ap_gnil, Dv.ap_gsub, Dv.ap_var, Dv.ap_con, Dv.ap_op, Dv.ap_un, Dv.ap_chain, Dv.ap_and, Dv.ap_or, Dv.ap_not, Dv.ap_if, Dv.ap_test, Dv.ap_bAnd, Dv.ap_bOr, Dv.ap_bNot, Dv.ap_bTru, Dv.ap_bYes, Dv.ap_aNil, Dv.ap_aCons, Dv.ap_tup, Dv.ap_lst, Dv.ap_dct, Dv.ap_B, Dv.ap_call, Dv.ap_call0, Dv.ap_sl, Dv.ap_oNo, Dv.ap_oAt, Dv.ap_me, Dv.ap_me0, Dv.ap_for, Dv.ap_iTup, Dv.ap_iLst, Dv.ap_iStr, Dv.ap_raise0, Dv.ap_raise1, Dv.bind_ok, Dv.toS_ok, Dv.get_ok, Dv.noEx_ok, Dv.onG_some, Dv.then_nx, Dv.then_rt, Option.bind_some, List.set_cons_succ, List.set_cons_zero, List.getElem?_cons_zero, List.getElem?_cons_succ, Dv.dEq_ii, Dv.dEq_ss, Dv.dNe_ii, Dv.dNe_ss, Dv.dLt_ii, Dv.dLe_ii, Dv.dGt_ii, Dv.dGe_ii, Dv.dAddG_ii, Dv.dSub_ii, Dv.int1_i, Dv.abs_i, decide_true, decide_false, Bool.false_eq_true, if_true, if_false, Dv.env0, List.map_cons, List.map_nil, List.length_cons, List.length_nil, List.replicate, List.cons_append, List.nil_append, Nat.zero_add, Nat.reduceAdd, Nat.reduceSub, Dv.len_tup, Dv.len_str, Dv.ix_tup', Dv.tru_bl, Dv.dIsN_n, Dv.dNotN_n, Dv.seqOf_tup, Dv.setOf_tup, beq_self_eq_true, Dv.at0, Dv.at1, Dv.at2, Dv.at3, Dv.at4, Bool.not_true, Bool.not_false, Int.reduceEq, e9, dTupOf, seqOf, hI, s5]
  rfl
end Law

set_option maxRecDepth 100000
set_option maxHeartbeats 4000000
namespace Law
open PySem PySem.Spec PyProof.Rows L2 Dv
theorem at_mem {α : Type} {xs : List α} {i : Int} (h0 : 0 ≤ i) (h1 : i < (xs.length : Int)) : ∃ d, atI xs i = some d ∧ d ∈ xs := by
  rw [atI_in h0 h1]
  have h : i.toNat < xs.length := by omega
  exact ⟨xs[i.toNat], List.getElem?_eq_getElem h, List.getElem_mem h⟩
theorem pow1039 {μ : Mem} : dPow (.int 10) (.int 39) μ = .ok (.int (10 ^ 39)) μ := dI_int (C := CPow) (g := fun i j => .int (i ^ j.toNat)) (i := 10) (j := 39) ⟨by decide, by decide, by decide⟩
theorem ty_lst {μ : Mem} {n : Nat} {xs : List D} (h : μ[n]? = some (.lst xs)) : tyN μ (.cell n) = some "list" := by simp only [tyN, h]
theorem ty_dct {μ : Mem} {n : Nat} {xs} (h : μ[n]? = some (.dK xs)) : tyN μ (.cell n) = some "dict" := by simp only [tyN, h]
/-- the dice are left, the rest stays -/
structure Nxt (n m : Nat) (μ μ' : Mem) : Prop where
  d : Dice μ' n m
  s : Sbn n μ μ'
  t : Ty μ μ'
theorem Nxt.of {n m : Nat} {μ μ' : Mem} (P : Dice μ n m) (P' : Dice μ' n m) (s : Sbn n μ μ') : Nxt n m μ μ' := ⟨P', s, Ty.of P P' s⟩
theorem Nxt.app {n m : Nat} {μ μ' l : Mem} (h : Nxt n m μ μ') : Nxt n m μ (μ' ++ l) := ⟨h.d.app, h.s.app, h.t.trans Ty.app⟩
theorem Nxt.trans {n m : Nat} {μ μ1 μ2 : Mem} (a : Nxt n m μ μ1) (b : Nxt n m μ1 μ2) : Nxt n m μ μ2 := ⟨b.d, a.s.trans b.s, a.t.trans b.t⟩
theorem Nxt.refl {n m : Nat} {μ : Mem} (P : Dice μ n m) : Nxt n m μ μ := ⟨P, Sbn.refl, Ty.refl⟩
theorem drawN {μ : Mem} {n m : Nat} {k : Int} (P : Dice μ n m) (h0 : 0 < k) (h1 : k < 1073741824) : ∃ r μ', g__law_draw [.cell n, .int k] μ = .ok (.int r) μ' ∧ 0 ≤ r ∧ r < k ∧ Nxt n m μ μ' := by
  obtain ⟨_, μ', e, r, rfl, r0, r1, hD, hS⟩ := draw P h0 h1
  exact ⟨r, μ', e, r0, r1, .of P hD hS⟩
theorem odd {μ : Mem} {n m : Nat} {near : Int} (P : Dice μ n m) : ∃ d μ', g__law_odd [.cell n, .int near] μ = .ok d μ' ∧ Good μ' d ∧ Nxt n m μ μ' := by
  obtain ⟨k, μ1, e, k0, k1, N⟩ := drawN (k := 13) P (by omega) (by omega)
  have s1 : 1 ≤ sizeLine := by rw [sizeLine_eq]; omega
  have s10 : 10 ≤ sizeLine := by rw [sizeLine_eq]; omega
  unfold g__law_odd b__law_odd runB
  by_cases h : k < 3
  · refine ⟨.int (near + k - 1), μ1, ?_, .int _, N⟩
    simp only [Dv.ap_seq, Dv.ap_next, Dv.ap_ret, Dv.ap_retN, Dv.ap_drop, Dv.ap_break, Dv.ap_cont, Dv.ap_ifS, Dv.ap_asg, Dv.ap_par, Dv.ap_gnm, Dv.ap_gtup, Dv.ap_gcons, Dv.ap_gnil, Dv.ap_gsub, Dv.ap_var, Dv.ap_con, Dv.ap_op, Dv.ap_un, Dv.ap_chain, Dv.ap_and, Dv.ap_or, Dv.ap_not, Dv.ap_if, Dv.ap_test, Dv.ap_bAnd, Dv.ap_bOr, Dv.ap_bNot, Dv.ap_bTru, Dv.ap_bYes, Dv.ap_aNil, Dv.ap_aCons, Dv.ap_tup, Dv.ap_lst, Dv.ap_dct, Dv.ap_B, Dv.ap_call, Dv.ap_call0, Dv.ap_sl, Dv.ap_oNo, Dv.ap_oAt, Dv.ap_me, Dv.ap_me0, Dv.ap_for, Dv.ap_iTup, Dv.ap_iLst, Dv.ap_iStr, Dv.ap_raise0, Dv.ap_raise1, Dv.bind_ok, Dv.toS_ok, Dv.get_ok, Dv.noEx_ok, Dv.onG_some, Dv.then_nx, Dv.then_rt, Option.bind_some, List.set_cons_succ, List.set_cons_zero, List.getElem?_cons_zero, List.getElem?_cons_succ, Dv.dEq_ii, Dv.dEq_ss, Dv.dNe_ii, Dv.dNe_ss, Dv.dLt_ii, Dv.dLe_ii, Dv.dGt_ii, Dv.dGe_ii, Dv.dAddG_ii, Dv.dSub_ii, Dv.int1_i, Dv.abs_i, decide_true, decide_false, Bool.false_eq_true, if_true, if_false, Dv.env0, List.map_cons, List.map_nil, List.length_cons, List.length_nil, List.replicate, List.cons_append, List.nil_append, Nat.zero_add, Nat.reduceAdd, Nat.reduceSub, Dv.len_tup, Dv.len_str, Dv.ix_tup', Dv.tru_bl, Dv.dIsN_n, Dv.dNotN_n, Dv.seqOf_tup, Dv.setOf_tup, beq_self_eq_true, Dv.at0, Dv.at1, Dv.at2, Dv.at3, Dv.at4, Bool.not_true, Bool.not_false, Int.reduceEq, e, h]
    rfl
  · let xs : List D := [.non, .bl true, .bl false, .str "1", .tup [.int near], .cell μ1.length, .int (-1), .int (10 ^ 39), .cell (μ1.length + 1), .int 0]
    obtain ⟨d, hd, hm⟩ := at_mem (xs := xs) (i := k - 3) (by omega) (by show k - 3 < 10; omega)
    refine ⟨d, μ1 ++ [.lst [.int near]] ++ [C.dK []] ++ [.lst xs], ?_, ?_, N.app.app.app⟩
    · have hL : (μ1 ++ [C.lst [.int near]] ++ [C.dK []] ++ [.lst xs])[(μ1 ++ [C.lst [.int near]] ++ [C.dK []]).length]? = some (.lst xs) := by simp
      have hl : (μ1 ++ [C.lst [.int near]]).length = μ1.length + 1 := by simp
      have hn : ∀ μ, dNeg (.int 1) μ = .ok (.int (-1)) μ := fun _ => rfl
      simp only [Dv.ap_seq, Dv.ap_next, Dv.ap_ret, Dv.ap_retN, Dv.ap_drop, Dv.ap_break, Dv.ap_cont, Dv.ap_ifS, Dv.ap_asg, Dv.ap_par, Dv.ap_gnm, Dv.ap_gtup, Dv.ap_gcons, Dv.ap_gnil, Dv.ap_gsub, Dv.ap_var, Dv.ap_con, Dv.ap_op, Dv.ap_un, Dv.ap_chain, Dv.ap_and, Dv.ap_or, Dv.ap_not, Dv.ap_if, Dv.ap_test, Dv.ap_bAnd, Dv.ap_bOr, Dv.ap_bNot, Dv.ap_bTru, Dv.ap_bYes, Dv.ap_aNil, Dv.ap_aCons, Dv.ap_tup, Dv.ap_lst, Dv.ap_dct, Dv.ap_B, Dv.ap_call, Dv.ap_call0, Dv.ap_sl, Dv.ap_oNo, Dv.ap_oAt, Dv.ap_me, Dv.ap_me0, Dv.ap_for, Dv.ap_iTup, Dv.ap_iLst, Dv.ap_iStr, Dv.ap_raise0, Dv.ap_raise1, Dv.bind_ok, Dv.toS_ok, Dv.get_ok, Dv.noEx_ok, Dv.onG_some, Dv.then_nx, Dv.then_rt, Option.bind_some, List.set_cons_succ, List.set_cons_zero, List.getElem?_cons_zero, List.getElem?_cons_succ, Dv.dEq_ii, Dv.dEq_ss, Dv.dNe_ii, Dv.dNe_ss, Dv.dLt_ii, Dv.dLe_ii, Dv.dGt_ii, Dv.dGe_ii, Dv.dAddG_ii, Dv.dSub_ii, Dv.int1_i, Dv.abs_i, decide_true, decide_false, Bool.false_eq_true, if_true, if_false, Dv.env0, List.map_cons, List.map_nil, List.length_cons, List.length_nil, List.replicate, List.cons_append, List.nil_append, Nat.zero_add, Nat.reduceAdd, Nat.reduceSub, Dv.len_tup, Dv.len_str, Dv.ix_tup', Dv.tru_bl, Dv.dIsN_n, Dv.dNotN_n, Dv.seqOf_tup, Dv.setOf_tup, beq_self_eq_true, Dv.at0, Dv.at1, Dv.at2, Dv.at3, Dv.at4, Bool.not_true, Bool.not_false, Int.reduceEq, e, h, s1, s10, hl, hn, pow1039]
      have := ix_of hL hd
      rw [this]
      rfl
    · have a1 : (μ1 ++ [C.lst [.int near]] ++ [C.dK []] ++ [.lst xs])[μ1.length]? = some (.lst [.int near]) := by simp
      have a2 : (μ1 ++ [C.lst [.int near]] ++ [C.dK []] ++ [C.lst xs])[μ1.length + 1]? = some (C.dK []) := by
        rw [List.append_assoc, List.append_assoc, List.getElem?_append_right (by omega)]; simp
      simp only [xs, List.mem_cons, List.not_mem_nil, or_false] at hm
      rcases hm with rfl | rfl | rfl | rfl | rfl | rfl | rfl | rfl | rfl | rfl
      · exact .non
      · exact .bl _
      · exact .bl _
      · exact .str _
      · exact .tup fun x hx => by rw [List.mem_singleton] at hx; subst hx; exact .int _
      · exact .lst (ty_lst a1)
      · exact .int _
      · exact .int _
      · exact .dct (ty_dct a2)
      · exact .int _
end Law

set_option maxRecDepth 100000
set_option maxHeartbeats 4000000
namespace Law
open PySem PySem.Spec PyProof.Rows L2 Dv
theorem cut_from {xs : List D} {j : Nat} : Dv.cutD xs (some (j : Int)) none = xs.drop j := by
  unfold Dv.cutD
  rw [HT.sIx_none, HT.sIx_nat]
  rcases Nat.le_total j xs.length with h | h
  · rw [Nat.min_eq_left h]
    exact List.take_of_length_le (by rw [List.length_drop]; exact Nat.le_refl _)
  · rw [Nat.min_eq_right h, List.drop_eq_nil_of_le h, List.drop_eq_nil_of_le (Nat.le_refl _), List.take_nil]
theorem cut_to {xs : List D} {j : Nat} : Dv.cutD xs none (some (j : Int)) = xs.take j := by
  unfold Dv.cutD
  rw [HT.sIx_none, HT.sIx_nat, List.drop_zero, Nat.sub_zero]
  rcases Nat.le_total j xs.length with h | h
  · rw [Nat.min_eq_left h]
  · rw [Nat.min_eq_right h, List.take_of_length_le h, List.take_of_length_le (Nat.le_refl _)]
theorem sl_from {xs : List D} {j : Nat} {μ : Mem} : slG (.tup xs) (some (j : Int)) none μ = .ok (.tup (xs.drop j)) μ := by
  rw [← cut_from]; rfl
theorem sl_to {xs : List D} {j : Nat} {μ : Mem} : slG (.tup xs) none (some (j : Int)) μ = .ok (.tup (xs.take j)) μ := by
  rw [← cut_to]; rfl
theorem Hd.tup {μ : Mem} {x : D} {r : List D} (h : ∃ b, hdB "stop" μ x = some b) : Hd μ (.tup (x :: r)) := fun y s e => by cases e; exact h
theorem Hd.nil {μ : Mem} : Hd μ (.tup []) := fun y s e => by cases e
theorem Hd.other {μ : Mem} {d : D} (h : ∀ xs, d ≠ .tup xs) : Hd μ d := fun y s e => absurd e (h _)
theorem Good.three {μ : Mem} {a b c : D} (ha : Good μ a) (hb : Good μ b) (hc : Good μ c) : Good μ (.tup [a, b, c]) := .tup fun x hx => by
  simp only [List.mem_cons, List.not_mem_nil, or_false] at hx
  rcases hx with rfl | rfl | rfl <;> assumption
theorem Good.ints {μ : Mem} {ns : List Int} : Good μ (.tup (ns.map .int)) := .tup fun x hx => by
  obtain ⟨i, _, rfl⟩ := List.mem_map.mp hx; exact .int i
/-- a standing of three parts -/
structure It3 (k : Str) (x y : D) : Prop where
  gx : ∀ μ, Good μ x
  gy : ∀ μ, Good μ y
  hx : (∃ i, x = .int i) ∨ ∃ w, x = .str w
  hy : (∃ ns : List Int, ns ≠ [] ∧ ns.length ≤ 4 ∧ y = .tup (ns.map .int)) ∨ ∃ j, y = .int j
theorem It.cases' {d : D} (h : It d) : (∃ k, d = .tup [.str k]) ∨ ∃ k x y, d = .tup [.str k, x, y] ∧ It3 k x y := by
  cases h with
  | num k i ns h hl => exact .inr ⟨k, _, _, rfl, fun _ => .int i, fun _ => .ints, .inl ⟨i, rfl⟩, .inl ⟨ns, h, hl, rfl⟩⟩
  | go k i j => exact .inr ⟨k, _, _, rfl, fun _ => .int i, fun _ => .int j, .inl ⟨i, rfl⟩, .inr ⟨j, rfl⟩⟩
  | say k w j => exact .inr ⟨k, _, _, rfl, fun _ => .str w, fun _ => .int j, .inr ⟨w, rfl⟩, .inr ⟨j, rfl⟩⟩
  | stop k => exact .inl ⟨k, rfl⟩
theorem It.good {d : D} (h : It d) (μ : Mem) : Good μ d := by
  rcases h.cases' with ⟨k, rfl⟩ | ⟨k, x, y, rfl, h3⟩
  · exact .tup fun x hx => by rw [List.mem_singleton] at hx; subst hx; exact .str _
  · exact .three (.str _) (h3.gx μ) (h3.gy μ)
theorem It.hd {d : D} (h : It d) (μ : Mem) : Hd μ d := by
  rcases h.cases' with ⟨k, rfl⟩ | ⟨k, x, y, rfl, h3⟩ <;> exact .tup ⟨_, rfl⟩
def Out (n m : Nat) (μ : Mem) (r : R D) : Prop := ∃ d μ', r = .ok d μ' ∧ Good μ' d ∧ Hd μ' d ∧ Nxt n m μ μ'
def wrongsL : List D := [.str "look", .str "stop", .str "Begin", .str "on", .str "leave", .str "say", .str "begin", .str "", .non, .int 3]
theorem wrongs_ok {μ : Mem} {d : D} (h : d ∈ wrongsL) : Good μ d ∧ ∃ b, hdB "stop" μ d = some b := by
  simp only [wrongsL, List.mem_cons, List.not_mem_nil, or_false] at h
  rcases h with rfl | rfl | rfl | rfl | rfl | rfl | rfl | rfl | rfl | rfl
  · exact ⟨.str _, _, rfl⟩
  · exact ⟨.str _, _, rfl⟩
  · exact ⟨.str _, _, rfl⟩
  · exact ⟨.str _, _, rfl⟩
  · exact ⟨.str _, _, rfl⟩
  · exact ⟨.str _, _, rfl⟩
  · exact ⟨.str _, _, rfl⟩
  · exact ⟨.str _, _, rfl⟩
  · exact ⟨.non, _, rfl⟩
  · exact ⟨.int _, _, rfl⟩
theorem n31 : decide (((3 : Nat) : Int) = 1) = false := rfl
theorem item_changed {μ : Mem} {n m : Nat} {d : D} (P : Dice μ n m) (hI : It d) : Out n m μ (g__law_item_changed [.cell n, d] μ) := by
  obtain ⟨kind, μ1, e1, k0, k1, N1⟩ := drawN (k := 6) P (by omega) (by omega)
  have s1 : 1 ≤ sizeLine := by rw [sizeLine_eq]; omega
  have s3 : 3 ≤ sizeLine := by rw [sizeLine_eq]; omega
  have s6 : 6 ≤ sizeLine := by rw [sizeLine_eq]; omega
  have s10 : 10 ≤ sizeLine := by rw [sizeLine_eq]; omega
  have hlt := N1.d.lt
  unfold g__law_item_changed b__law_item_changed runB
  rw [seq_nx (env' := [some (.cell n), some d, some (.int kind), none, none, none, none]) (μ' := μ1) (by simp only [Dv.ap_seq, Dv.ap_next, Dv.ap_ret, Dv.ap_retN, Dv.ap_drop, Dv.ap_break, Dv.ap_cont, Dv.ap_ifS, Dv.ap_asg, Dv.ap_par, Dv.ap_gnm, Dv.ap_gtup, Dv.ap_gcons, Dv.ap_gnil, Dv.ap_gsub, Dv.ap_var, Dv.ap_con, Dv.ap_op, Dv.ap_un, Dv.ap_chain, Dv.ap_and, Dv.ap_or, Dv.ap_not, Dv.ap_if, Dv.ap_test, Dv.ap_bAnd, Dv.ap_bOr, Dv.ap_bNot, Dv.ap_bTru, Dv.ap_bYes, Dv.ap_aNil, Dv.ap_aCons, Dv.ap_tup, Dv.ap_lst, Dv.ap_dct, Dv.ap_B, Dv.ap_call, Dv.ap_call0, Dv.ap_sl, Dv.ap_oNo, Dv.ap_oAt, Dv.ap_me, Dv.ap_me0, Dv.ap_for, Dv.ap_iTup, Dv.ap_iLst, Dv.ap_iStr, Dv.ap_raise0, Dv.ap_raise1, Dv.bind_ok, Dv.toS_ok, Dv.get_ok, Dv.noEx_ok, Dv.onG_some, Dv.then_nx, Dv.then_rt, Option.bind_some, List.set_cons_succ, List.set_cons_zero, List.getElem?_cons_zero, List.getElem?_cons_succ, Dv.dEq_ii, Dv.dEq_ss, Dv.dNe_ii, Dv.dNe_ss, Dv.dLt_ii, Dv.dLe_ii, Dv.dGt_ii, Dv.dGe_ii, Dv.dAddG_ii, Dv.dSub_ii, Dv.int1_i, Dv.abs_i, decide_true, decide_false, Bool.false_eq_true, if_true, if_false, Dv.env0, List.map_cons, List.map_nil, List.length_cons, List.length_nil, List.replicate, List.cons_append, List.nil_append, Nat.zero_add, Nat.reduceAdd, Nat.reduceSub, Dv.len_tup, Dv.len_str, Dv.ix_tup', Dv.tru_bl, Dv.dIsN_n, Dv.dNotN_n, Dv.seqOf_tup, Dv.setOf_tup, beq_self_eq_true, Dv.at0, Dv.at1, Dv.at2, Dv.at3, Dv.at4, Bool.not_true, Bool.not_false, Int.reduceEq, e1])]
  have first : ∀ (k : Str) (r : List D) (K : S), d = .tup (.str k :: r) → r.length ≤ 2 → (kind = 0 ∨ r = []) → (∀ μ, ∀ x ∈ r, Good μ x) → Out n m μ (outS (sSeq (sIf (bOr (bTest (fOp dEq (fVar 2) (fCon (.int 0)))) (bTest (fOp dEq (fB dLenG (aCons (fVar 1) aNil)) (fCon (.int 1))))) (sSeq (sAsg (fLst (aCons (fCon (.str "look")) (aCons (fCon (.str "stop")) (aCons (fCon (.str "Begin")) (aCons (fCon (.str "on")) (aCons (fCon (.str "leave")) (aCons (fCon (.str "say")) (aCons (fCon (.str "begin")) (aCons (fCon (.str "")) (aCons (fCon .non) (aCons (fCon (.int 3)) aNil))))))))))) (gNm 3))
        (sRet (fOp dAddG (fTup (aCons (fOp ixD (fVar 3) (fCall (fun ds μ => if ds.length = 2 then g__law_draw ds μ else .no) (aCons (fVar 0) (aCons (fCon (.int 10)) aNil)))) aNil)) (fSl slG (fVar 1) (oAt (fCon (.int 1))) oNo)))) sNext) K [some (.cell n), some d, some (.int kind), none, none, none, none] μ1)) := by
    rintro k r K rfl hr hk hg
    obtain ⟨q, μ2, e2, q0, q1, N2⟩ := drawN (μ := μ1 ++ [.lst wrongsL]) (k := 10) N1.d.app (by omega) (by omega)
    have hL : μ2[μ1.length]? = some (.lst wrongsL) := N2.s _ _ (by omega) (by simp)
    obtain ⟨w, hw, hm⟩ := at_mem (xs := wrongsL) (i := q) q0 (by show q < 10; omega)
    have wo := wrongs_ok (μ := μ2) hm
    have hsl : slG (.tup (.str k :: r)) (some 1) none μ2 = .ok (.tup r) μ2 := sl_from (j := 1)
    have hw10 : wrongsL.length ≤ sizeLine := s10
    have hlen : 1 + r.length ≤ sizeLine := by rw [sizeLine_eq]; omega
    refine ⟨.tup (w :: r), μ2, ?_, .tup ?_, .tup wo.2, N1.app.trans N2⟩
    · have ew : ([.str "look", .str "stop", .str "Begin", .str "on", .str "leave", .str "say", .str "begin", .str "", .non, .int 3] : List D) = wrongsL := rfl
      rcases hk with rfl | rfl
      · simp only [Dv.ap_seq, Dv.ap_next, Dv.ap_ret, Dv.ap_retN, Dv.ap_drop, Dv.ap_break, Dv.ap_cont, Dv.ap_ifS, Dv.ap_asg, Dv.ap_par, Dv.ap_gnm, Dv.ap_gtup, Dv.ap_gcons, Dv.ap_gnil, Dv.ap_gsub, Dv.ap_var, Dv.ap_con, Dv.ap_op, Dv.ap_un, Dv.ap_chain, Dv.ap_and, Dv.ap_or, Dv.ap_not, Dv.ap_if, Dv.ap_test, Dv.ap_bAnd, Dv.ap_bOr, Dv.ap_bNot, Dv.ap_bTru, Dv.ap_bYes, Dv.ap_aNil, Dv.ap_aCons, Dv.ap_tup, Dv.ap_lst, Dv.ap_dct, Dv.ap_B, Dv.ap_call, Dv.ap_call0, Dv.ap_sl, Dv.ap_oNo, Dv.ap_oAt, Dv.ap_me, Dv.ap_me0, Dv.ap_for, Dv.ap_iTup, Dv.ap_iLst, Dv.ap_iStr, Dv.ap_raise0, Dv.ap_raise1, Dv.bind_ok, Dv.toS_ok, Dv.get_ok, Dv.noEx_ok, Dv.onG_some, Dv.then_nx, Dv.then_rt, Option.bind_some, List.set_cons_succ, List.set_cons_zero, List.getElem?_cons_zero, List.getElem?_cons_succ, Dv.dEq_ii, Dv.dEq_ss, Dv.dNe_ii, Dv.dNe_ss, Dv.dLt_ii, Dv.dLe_ii, Dv.dGt_ii, Dv.dGe_ii, Dv.dAddG_ii, Dv.dSub_ii, Dv.int1_i, Dv.abs_i, decide_true, decide_false, Bool.false_eq_true, if_true, if_false, Dv.env0, List.map_cons, List.map_nil, List.length_cons, List.length_nil, List.replicate, List.cons_append, List.nil_append, Nat.zero_add, Nat.reduceAdd, Nat.reduceSub, Dv.len_tup, Dv.len_str, Dv.ix_tup', Dv.tru_bl, Dv.dIsN_n, Dv.dNotN_n, Dv.seqOf_tup, Dv.setOf_tup, beq_self_eq_true, Dv.at0, Dv.at1, Dv.at2, Dv.at3, Dv.at4, Bool.not_true, Bool.not_false, Int.reduceEq, hw10, ew, e2, ix_of hL hw, s1, hsl, dAddG_tt, hlen]
        rfl
      · by_cases z : kind = 0
        · simp only [Dv.ap_seq, Dv.ap_next, Dv.ap_ret, Dv.ap_retN, Dv.ap_drop, Dv.ap_break, Dv.ap_cont, Dv.ap_ifS, Dv.ap_asg, Dv.ap_par, Dv.ap_gnm, Dv.ap_gtup, Dv.ap_gcons, Dv.ap_gnil, Dv.ap_gsub, Dv.ap_var, Dv.ap_con, Dv.ap_op, Dv.ap_un, Dv.ap_chain, Dv.ap_and, Dv.ap_or, Dv.ap_not, Dv.ap_if, Dv.ap_test, Dv.ap_bAnd, Dv.ap_bOr, Dv.ap_bNot, Dv.ap_bTru, Dv.ap_bYes, Dv.ap_aNil, Dv.ap_aCons, Dv.ap_tup, Dv.ap_lst, Dv.ap_dct, Dv.ap_B, Dv.ap_call, Dv.ap_call0, Dv.ap_sl, Dv.ap_oNo, Dv.ap_oAt, Dv.ap_me, Dv.ap_me0, Dv.ap_for, Dv.ap_iTup, Dv.ap_iLst, Dv.ap_iStr, Dv.ap_raise0, Dv.ap_raise1, Dv.bind_ok, Dv.toS_ok, Dv.get_ok, Dv.noEx_ok, Dv.onG_some, Dv.then_nx, Dv.then_rt, Option.bind_some, List.set_cons_succ, List.set_cons_zero, List.getElem?_cons_zero, List.getElem?_cons_succ, Dv.dEq_ii, Dv.dEq_ss, Dv.dNe_ii, Dv.dNe_ss, Dv.dLt_ii, Dv.dLe_ii, Dv.dGt_ii, Dv.dGe_ii, Dv.dAddG_ii, Dv.dSub_ii, Dv.int1_i, Dv.abs_i, decide_true, decide_false, Bool.false_eq_true, if_true, if_false, Dv.env0, List.map_cons, List.map_nil, List.length_cons, List.length_nil, List.replicate, List.cons_append, List.nil_append, Nat.zero_add, Nat.reduceAdd, Nat.reduceSub, Dv.len_tup, Dv.len_str, Dv.ix_tup', Dv.tru_bl, Dv.dIsN_n, Dv.dNotN_n, Dv.seqOf_tup, Dv.setOf_tup, beq_self_eq_true, Dv.at0, Dv.at1, Dv.at2, Dv.at3, Dv.at4, Bool.not_true, Bool.not_false, Int.reduceEq, z, hw10, ew, e2, ix_of hL hw, s1, hsl, dAddG_tt]
          rfl
        · have z1 : ((1 : Nat) : Int) = 1 := rfl
          simp only [Dv.ap_seq, Dv.ap_next, Dv.ap_ret, Dv.ap_retN, Dv.ap_drop, Dv.ap_break, Dv.ap_cont, Dv.ap_ifS, Dv.ap_asg, Dv.ap_par, Dv.ap_gnm, Dv.ap_gtup, Dv.ap_gcons, Dv.ap_gnil, Dv.ap_gsub, Dv.ap_var, Dv.ap_con, Dv.ap_op, Dv.ap_un, Dv.ap_chain, Dv.ap_and, Dv.ap_or, Dv.ap_not, Dv.ap_if, Dv.ap_test, Dv.ap_bAnd, Dv.ap_bOr, Dv.ap_bNot, Dv.ap_bTru, Dv.ap_bYes, Dv.ap_aNil, Dv.ap_aCons, Dv.ap_tup, Dv.ap_lst, Dv.ap_dct, Dv.ap_B, Dv.ap_call, Dv.ap_call0, Dv.ap_sl, Dv.ap_oNo, Dv.ap_oAt, Dv.ap_me, Dv.ap_me0, Dv.ap_for, Dv.ap_iTup, Dv.ap_iLst, Dv.ap_iStr, Dv.ap_raise0, Dv.ap_raise1, Dv.bind_ok, Dv.toS_ok, Dv.get_ok, Dv.noEx_ok, Dv.onG_some, Dv.then_nx, Dv.then_rt, Option.bind_some, List.set_cons_succ, List.set_cons_zero, List.getElem?_cons_zero, List.getElem?_cons_succ, Dv.dEq_ii, Dv.dEq_ss, Dv.dNe_ii, Dv.dNe_ss, Dv.dLt_ii, Dv.dLe_ii, Dv.dGt_ii, Dv.dGe_ii, Dv.dAddG_ii, Dv.dSub_ii, Dv.int1_i, Dv.abs_i, decide_true, decide_false, Bool.false_eq_true, if_true, if_false, Dv.env0, List.map_cons, List.map_nil, List.length_cons, List.length_nil, List.replicate, List.cons_append, List.nil_append, Nat.zero_add, Nat.reduceAdd, Nat.reduceSub, Dv.len_tup, Dv.len_str, Dv.ix_tup', Dv.tru_bl, Dv.dIsN_n, Dv.dNotN_n, Dv.seqOf_tup, Dv.setOf_tup, beq_self_eq_true, Dv.at0, Dv.at1, Dv.at2, Dv.at3, Dv.at4, Bool.not_true, Bool.not_false, Int.reduceEq, z, z1, hw10, ew, e2, ix_of hL hw, s1, hsl, dAddG_tt]
          rfl
    · intro x hx
      rcases List.mem_cons.mp hx with rfl | hx
      · exact wo.1
      · exact hg _ _ hx
  rcases hI.cases' with ⟨k, rfl⟩ | ⟨k, x, y, rfl, h3⟩
  · exact first k [] _ rfl (by simp) (.inr rfl) fun _ x h => (nomatch h)
  by_cases z0 : kind = 0
  · exact first k [x, y] _ rfl (by simp) (.inl z0) fun μ z hz => by
      simp only [List.mem_cons, List.not_mem_nil, or_false] at hz
      rcases hz with rfl | rfl
      · exact h3.gx μ
      · exact h3.gy μ
  rw [seq_nx (env' := [some (.cell n), some (.tup [.str k, x, y]), some (.int kind), none, none, none, none]) (μ' := μ1) (by simp only [Dv.ap_seq, Dv.ap_next, Dv.ap_ret, Dv.ap_retN, Dv.ap_drop, Dv.ap_break, Dv.ap_cont, Dv.ap_ifS, Dv.ap_asg, Dv.ap_par, Dv.ap_gnm, Dv.ap_gtup, Dv.ap_gcons, Dv.ap_gnil, Dv.ap_gsub, Dv.ap_var, Dv.ap_con, Dv.ap_op, Dv.ap_un, Dv.ap_chain, Dv.ap_and, Dv.ap_or, Dv.ap_not, Dv.ap_if, Dv.ap_test, Dv.ap_bAnd, Dv.ap_bOr, Dv.ap_bNot, Dv.ap_bTru, Dv.ap_bYes, Dv.ap_aNil, Dv.ap_aCons, Dv.ap_tup, Dv.ap_lst, Dv.ap_dct, Dv.ap_B, Dv.ap_call, Dv.ap_call0, Dv.ap_sl, Dv.ap_oNo, Dv.ap_oAt, Dv.ap_me, Dv.ap_me0, Dv.ap_for, Dv.ap_iTup, Dv.ap_iLst, Dv.ap_iStr, Dv.ap_raise0, Dv.ap_raise1, Dv.bind_ok, Dv.toS_ok, Dv.get_ok, Dv.noEx_ok, Dv.onG_some, Dv.then_nx, Dv.then_rt, Option.bind_some, List.set_cons_succ, List.set_cons_zero, List.getElem?_cons_zero, List.getElem?_cons_succ, Dv.dEq_ii, Dv.dEq_ss, Dv.dNe_ii, Dv.dNe_ss, Dv.dLt_ii, Dv.dLe_ii, Dv.dGt_ii, Dv.dGe_ii, Dv.dAddG_ii, Dv.dSub_ii, Dv.int1_i, Dv.abs_i, decide_true, decide_false, Bool.false_eq_true, if_true, if_false, Dv.env0, List.map_cons, List.map_nil, List.length_cons, List.length_nil, List.replicate, List.cons_append, List.nil_append, Nat.zero_add, Nat.reduceAdd, Nat.reduceSub, Dv.len_tup, Dv.len_str, Dv.ix_tup', Dv.tru_bl, Dv.dIsN_n, Dv.dNotN_n, Dv.seqOf_tup, Dv.setOf_tup, beq_self_eq_true, Dv.at0, Dv.at1, Dv.at2, Dv.at3, Dv.at4, Bool.not_true, Bool.not_false, Int.reduceEq, z0, n31])]
  have last : ∃ o μ', g__law_odd [.cell n, (match x with | .int i => .int i | _ => .int 1)] μ1 = .ok o μ' ∧ Good μ' o ∧ Nxt n m μ1 μ' := by
    rcases h3.hx with ⟨i, rfl⟩ | ⟨w, rfl⟩
    · exact odd N1.d
    · exact odd N1.d
  obtain ⟨ol, μl, el, gl, Nl⟩ := last
  have hint := (isInt (h3.gx μ1)).1
  have htup := isTup (h3.gy μ1)
  by_cases z1 : kind = 1
  · subst z1
    obtain ⟨o, μ2, e2, g2, N2⟩ := odd (near := 2) N1.d
    obtain ⟨ws, hws⟩ : ∃ ws : List D, ws = [o, .str "abcdefgh", .str "abcdefghi", .str "", .str "a b", .str "aB"] := ⟨_, rfl⟩
    have hwl : ws.length ≤ sizeLine := by rw [hws, sizeLine_eq]; simp
    have hwn : ws.length = 6 := by rw [hws]; rfl
    obtain ⟨q, μ3, e3, q0, q1, N3⟩ := drawN (μ := μ2 ++ [.lst ws]) (k := 6) N2.d.app (by omega) (by omega)
    have hL : μ3[μ2.length]? = some (.lst ws) := N3.s _ _ (by have := N2.d.lt; omega) (by simp)
    obtain ⟨w, hw, hm⟩ := at_mem (xs := ws) (i := q) q0 (by omega)
    have gw : Good μ3 w := by
      rw [hws] at hm
      simp only [List.mem_cons, List.not_mem_nil, or_false] at hm
      rcases hm with rfl | rfl | rfl | rfl | rfl | rfl
      · exact g2.keep (Ty.app.trans N3.t)
      all_goals exact .str _
    refine ⟨.tup [.str k, w, y], μ3, ?_, .three (.str _) gw (h3.gy _), .tup ⟨_, rfl⟩, (N1.trans N2.app).trans N3⟩
    simp only [Dv.ap_seq, Dv.ap_next, Dv.ap_ret, Dv.ap_retN, Dv.ap_drop, Dv.ap_break, Dv.ap_cont, Dv.ap_ifS, Dv.ap_asg, Dv.ap_par, Dv.ap_gnm, Dv.ap_gtup, Dv.ap_gcons, Dv.ap_gnil, Dv.ap_gsub, Dv.ap_var, Dv.ap_con, Dv.ap_op, Dv.ap_un, Dv.ap_chain, Dv.ap_and, Dv.ap_or, Dv.ap_not, Dv.ap_if, Dv.ap_test, Dv.ap_bAnd, Dv.ap_bOr, Dv.ap_bNot, Dv.ap_bTru, Dv.ap_bYes, Dv.ap_aNil, Dv.ap_aCons, Dv.ap_tup, Dv.ap_lst, Dv.ap_dct, Dv.ap_B, Dv.ap_call, Dv.ap_call0, Dv.ap_sl, Dv.ap_oNo, Dv.ap_oAt, Dv.ap_me, Dv.ap_me0, Dv.ap_for, Dv.ap_iTup, Dv.ap_iLst, Dv.ap_iStr, Dv.ap_raise0, Dv.ap_raise1, Dv.bind_ok, Dv.toS_ok, Dv.get_ok, Dv.noEx_ok, Dv.onG_some, Dv.then_nx, Dv.then_rt, Option.bind_some, List.set_cons_succ, List.set_cons_zero, List.getElem?_cons_zero, List.getElem?_cons_succ, Dv.dEq_ii, Dv.dEq_ss, Dv.dNe_ii, Dv.dNe_ss, Dv.dLt_ii, Dv.dLe_ii, Dv.dGt_ii, Dv.dGe_ii, Dv.dAddG_ii, Dv.dSub_ii, Dv.int1_i, Dv.abs_i, decide_true, decide_false, Bool.false_eq_true, if_true, if_false, Dv.env0, List.map_cons, List.map_nil, List.length_cons, List.length_nil, List.replicate, List.cons_append, List.nil_append, Nat.zero_add, Nat.reduceAdd, Nat.reduceSub, Dv.len_tup, Dv.len_str, Dv.ix_tup', Dv.tru_bl, Dv.dIsN_n, Dv.dNotN_n, Dv.seqOf_tup, Dv.setOf_tup, beq_self_eq_true, Dv.at0, Dv.at1, Dv.at2, Dv.at3, Dv.at4, Bool.not_true, Bool.not_false, Int.reduceEq, e2, s6, ← hws, hwl, e3, ix_of hL hw, s3]
    rfl
  by_cases z3 : kind = 3
  · subst z3
    obtain ⟨o, μ2, e2, g2, N2⟩ := odd (near := 8) N1.d
    obtain ⟨ws, hws⟩ : ∃ ws : List D, ws = [o, .tup [.int 0, .int 0], .tup [.int 0, .int 0, .int 0], .tup [.int 0], .cell μ2.length, .tup [.int 0, .int 0, .int 0, .int 0]] := ⟨_, rfl⟩
    have hwl : ws.length ≤ sizeLine := by rw [hws, sizeLine_eq]; simp
    have hwn : ws.length = 6 := by rw [hws]; rfl
    obtain ⟨q, μ3, e3, q0, q1, N3⟩ := drawN (μ := μ2 ++ [.lst [.int 0, .int 0]] ++ [.lst ws]) (k := 6) N2.d.app.app (by omega) (by omega)
    have lt2 := N2.d.lt
    have hl : (μ2 ++ [C.lst [.int 0, .int 0]]).length = μ2.length + 1 := by simp
    have hL : μ3[μ2.length + 1]? = some (.lst ws) := N3.s _ _ (by omega) (by rw [List.getElem?_append_right (by omega)]; simp)
    have hC : μ3[μ2.length]? = some (.lst [.int 0, .int 0]) := N3.s _ _ (by omega) (by simp)
    obtain ⟨w, hw, hm⟩ := at_mem (xs := ws) (i := q) q0 (by omega)
    have s2 : 2 ≤ sizeLine := by rw [sizeLine_eq]; omega
    have s4 : 4 ≤ sizeLine := by rw [sizeLine_eq]; omega
    have gw : Good μ3 w := by
      rw [hws] at hm
      simp only [List.mem_cons, List.not_mem_nil, or_false] at hm
      rcases hm with rfl | rfl | rfl | rfl | rfl | rfl
      · exact g2.keep ((Ty.app.trans Ty.app).trans N3.t)
      · exact .ints (ns := [0, 0])
      · exact .ints (ns := [0, 0, 0])
      · exact .ints (ns := [0])
      · exact .lst (ty_lst hC)
      · exact .ints (ns := [0, 0, 0, 0])
    refine ⟨.tup [.str k, x, w], μ3, ?_, .three (.str _) (h3.gx _) gw, .tup ⟨_, rfl⟩, (N1.trans N2.app.app).trans N3⟩
    simp only [Dv.ap_seq, Dv.ap_next, Dv.ap_ret, Dv.ap_retN, Dv.ap_drop, Dv.ap_break, Dv.ap_cont, Dv.ap_ifS, Dv.ap_asg, Dv.ap_par, Dv.ap_gnm, Dv.ap_gtup, Dv.ap_gcons, Dv.ap_gnil, Dv.ap_gsub, Dv.ap_var, Dv.ap_con, Dv.ap_op, Dv.ap_un, Dv.ap_chain, Dv.ap_and, Dv.ap_or, Dv.ap_not, Dv.ap_if, Dv.ap_test, Dv.ap_bAnd, Dv.ap_bOr, Dv.ap_bNot, Dv.ap_bTru, Dv.ap_bYes, Dv.ap_aNil, Dv.ap_aCons, Dv.ap_tup, Dv.ap_lst, Dv.ap_dct, Dv.ap_B, Dv.ap_call, Dv.ap_call0, Dv.ap_sl, Dv.ap_oNo, Dv.ap_oAt, Dv.ap_me, Dv.ap_me0, Dv.ap_for, Dv.ap_iTup, Dv.ap_iLst, Dv.ap_iStr, Dv.ap_raise0, Dv.ap_raise1, Dv.bind_ok, Dv.toS_ok, Dv.get_ok, Dv.noEx_ok, Dv.onG_some, Dv.then_nx, Dv.then_rt, Option.bind_some, List.set_cons_succ, List.set_cons_zero, List.getElem?_cons_zero, List.getElem?_cons_succ, Dv.dEq_ii, Dv.dEq_ss, Dv.dNe_ii, Dv.dNe_ss, Dv.dLt_ii, Dv.dLe_ii, Dv.dGt_ii, Dv.dGe_ii, Dv.dAddG_ii, Dv.dSub_ii, Dv.int1_i, Dv.abs_i, decide_true, decide_false, Bool.false_eq_true, if_true, if_false, Dv.env0, List.map_cons, List.map_nil, List.length_cons, List.length_nil, List.replicate, List.cons_append, List.nil_append, Nat.zero_add, Nat.reduceAdd, Nat.reduceSub, Dv.len_tup, Dv.len_str, Dv.ix_tup', Dv.tru_bl, Dv.dIsN_n, Dv.dNotN_n, Dv.seqOf_tup, Dv.setOf_tup, beq_self_eq_true, Dv.at0, Dv.at1, Dv.at2, Dv.at3, Dv.at4, Bool.not_true, Bool.not_false, Int.reduceEq, e2, s6, s1, s2, s3, s4, hl, ← hws, hwl, e3, ix_of hL hw]
    rfl
  by_cases z4 : kind = 4
  · subst z4
    obtain ⟨ws, hws⟩ : ∃ ws : List D, ws = [.tup [.str k, x, y, .int 0], .tup [.str k, x], .cell μ1.length, .tup [], .non, .str k, .tup [.tup [.str k, x, y]]] := ⟨_, rfl⟩
    have hwl : ws.length ≤ sizeLine := by rw [hws, sizeLine_eq]; simp
    have hwn : ws.length = 7 := by rw [hws]; rfl
    obtain ⟨q, μ3, e3, q0, q1, N3⟩ := drawN (μ := μ1 ++ [.lst [.str k, x, y]] ++ [.lst ws]) (k := 7) N1.d.app.app (by omega) (by omega)
    have hl : (μ1 ++ [C.lst [.str k, x, y]]).length = μ1.length + 1 := by simp
    have hL : μ3[μ1.length + 1]? = some (.lst ws) := N3.s _ _ (by omega) (by rw [List.getElem?_append_right (by omega)]; simp)
    have hC : μ3[μ1.length]? = some (.lst [.str k, x, y]) := N3.s _ _ (by omega) (by simp)
    obtain ⟨w, hw, hm⟩ := at_mem (xs := ws) (i := q) q0 (by omega)
    have s4 : 3 + 1 ≤ sizeLine := by rw [sizeLine_eq]; omega
    have s4' : 4 ≤ sizeLine := s4
    have s7 : 7 ≤ sizeLine := by rw [sizeLine_eq]; omega
    have s0 : 0 ≤ sizeLine := Nat.zero_le _
    have git : Good μ3 (.tup [.str k, x, y]) := .three (.str _) (h3.gx _) (h3.gy _)
    have gw : Good μ3 w ∧ Hd μ3 w := by
      rw [hws] at hm
      simp only [List.mem_cons, List.not_mem_nil, or_false] at hm
      rcases hm with rfl | rfl | rfl | rfl | rfl | rfl | rfl
      · refine ⟨.tup fun z hz => ?_, .tup ⟨_, rfl⟩⟩
        simp only [List.mem_cons, List.not_mem_nil, or_false] at hz
        rcases hz with rfl | rfl | rfl | rfl
        · exact .str _
        · exact h3.gx _
        · exact h3.gy _
        · exact .int _
      · refine ⟨.tup fun z hz => ?_, .tup ⟨_, rfl⟩⟩
        simp only [List.mem_cons, List.not_mem_nil, or_false] at hz
        rcases hz with rfl | rfl
        · exact .str _
        · exact h3.gx _
      · exact ⟨.lst (ty_lst hC), .other (by intro xs e; cases e)⟩
      · exact ⟨.tup fun z hz => (nomatch hz), .nil⟩
      · exact ⟨.non, .other (by intro xs e; cases e)⟩
      · exact ⟨.str _, .other (by intro xs e; cases e)⟩
      · exact ⟨.tup fun z hz => by rw [List.mem_singleton] at hz; subst hz; exact git, .tup ⟨_, rfl⟩⟩
    refine ⟨w, μ3, ?_, gw.1, gw.2, (N1.app.app).trans N3⟩
    have hsl : ∀ μ, slG (.tup [.str k, x, y]) none (some 2) μ = .ok (.tup [.str k, x]) μ := fun μ => sl_to (j := 2)
    simp only [Dv.ap_seq, Dv.ap_next, Dv.ap_ret, Dv.ap_retN, Dv.ap_drop, Dv.ap_break, Dv.ap_cont, Dv.ap_ifS, Dv.ap_asg, Dv.ap_par, Dv.ap_gnm, Dv.ap_gtup, Dv.ap_gcons, Dv.ap_gnil, Dv.ap_gsub, Dv.ap_var, Dv.ap_con, Dv.ap_op, Dv.ap_un, Dv.ap_chain, Dv.ap_and, Dv.ap_or, Dv.ap_not, Dv.ap_if, Dv.ap_test, Dv.ap_bAnd, Dv.ap_bOr, Dv.ap_bNot, Dv.ap_bTru, Dv.ap_bYes, Dv.ap_aNil, Dv.ap_aCons, Dv.ap_tup, Dv.ap_lst, Dv.ap_dct, Dv.ap_B, Dv.ap_call, Dv.ap_call0, Dv.ap_sl, Dv.ap_oNo, Dv.ap_oAt, Dv.ap_me, Dv.ap_me0, Dv.ap_for, Dv.ap_iTup, Dv.ap_iLst, Dv.ap_iStr, Dv.ap_raise0, Dv.ap_raise1, Dv.bind_ok, Dv.toS_ok, Dv.get_ok, Dv.noEx_ok, Dv.onG_some, Dv.then_nx, Dv.then_rt, Option.bind_some, List.set_cons_succ, List.set_cons_zero, List.getElem?_cons_zero, List.getElem?_cons_succ, Dv.dEq_ii, Dv.dEq_ss, Dv.dNe_ii, Dv.dNe_ss, Dv.dLt_ii, Dv.dLe_ii, Dv.dGt_ii, Dv.dGe_ii, Dv.dAddG_ii, Dv.dSub_ii, Dv.int1_i, Dv.abs_i, decide_true, decide_false, Bool.false_eq_true, if_true, if_false, Dv.env0, List.map_cons, List.map_nil, List.length_cons, List.length_nil, List.replicate, List.cons_append, List.nil_append, Nat.zero_add, Nat.reduceAdd, Nat.reduceSub, Dv.len_tup, Dv.len_str, Dv.ix_tup', Dv.tru_bl, Dv.dIsN_n, Dv.dNotN_n, Dv.seqOf_tup, Dv.setOf_tup, beq_self_eq_true, Dv.at0, Dv.at1, Dv.at2, Dv.at3, Dv.at4, Bool.not_true, Bool.not_false, Int.reduceEq, s1, s3, s0, s4, s4', s7, hl, dAddG_tt, hsl, dLstOf, ← hws, hwl, e3, ix_of hL hw]
    rfl
  have fin : (¬ kind = 2 ∨ ∃ j, y = .int j) → Out n m μ (.ok (.tup [.str k, ol, y]) μl) := fun _ => ⟨_, _, rfl, .three (.str _) gl (h3.gy _), .tup ⟨_, rfl⟩, N1.trans Nl⟩
  by_cases z2 : kind = 2
  · subst z2
    rcases h3.hy with ⟨ns, hn, hl4, rfl⟩ | ⟨j, rfl⟩
    · have hnp : 0 < ns.length := List.length_pos_iff.mpr hn
      obtain ⟨q, μ2, e2, q0, q1, N2⟩ := drawN (k := ((ns.map D.int).length : Int)) N1.d (by rw [List.length_map]; omega) (by rw [List.length_map]; omega)
      obtain ⟨j, rfl⟩ := nat_of q0
      obtain ⟨r, μ3, e3, r0, r1, N3⟩ := drawN (k := 9) N2.d (by omega) (by omega)
      have hj : j < ns.length := by rw [List.length_map] at q1; omega
      have hat : atI (ns.map D.int) (j : Int) = some (.int ns[j]) := by
        rw [atI_in (by omega) (by rw [List.length_map]; omega), Int.toNat_natCast, List.getElem?_map, List.getElem?_eq_getElem hj]; rfl
      obtain ⟨o, μ4, e4, g4, N4⟩ := odd (near := ns[j] + r) N3.d
      have f1 : ∀ μ, slG (.tup (ns.map D.int)) none (some (j : Int)) μ = .ok (.tup ((ns.map D.int).take j)) μ := fun μ => sl_to
      have f2 : ∀ μ, slG (.tup (ns.map D.int)) (some ((j : Int) + 1)) none μ = .ok (.tup ((ns.map D.int).drop (j + 1))) μ := fun μ => sl_from (j := j + 1)
      have c1 : ((ns.map D.int).take j).length + 1 ≤ sizeLine := by rw [List.length_take, List.length_map, sizeLine_eq]; omega
      have c2 : ((ns.map D.int).take j ++ [o]).length + ((ns.map D.int).drop (j + 1)).length ≤ sizeLine := by rw [List.length_append, List.length_take, List.length_drop, List.length_map, sizeLine_eq, List.length_singleton]; omega
      refine ⟨.tup [.str k, x, .tup ((ns.map D.int).take j ++ [o] ++ (ns.map D.int).drop (j + 1))], μ4, ?_, .three (.str _) (h3.gx _) (.tup fun z hz => ?_), .tup ⟨_, rfl⟩, ((N1.trans N2).trans N3).trans N4⟩
      · simp only [Dv.ap_seq, Dv.ap_next, Dv.ap_ret, Dv.ap_retN, Dv.ap_drop, Dv.ap_break, Dv.ap_cont, Dv.ap_ifS, Dv.ap_asg, Dv.ap_par, Dv.ap_gnm, Dv.ap_gtup, Dv.ap_gcons, Dv.ap_gnil, Dv.ap_gsub, Dv.ap_var, Dv.ap_con, Dv.ap_op, Dv.ap_un, Dv.ap_chain, Dv.ap_and, Dv.ap_or, Dv.ap_not, Dv.ap_if, Dv.ap_test, Dv.ap_bAnd, Dv.ap_bOr, Dv.ap_bNot, Dv.ap_bTru, Dv.ap_bYes, Dv.ap_aNil, Dv.ap_aCons, Dv.ap_tup, Dv.ap_lst, Dv.ap_dct, Dv.ap_B, Dv.ap_call, Dv.ap_call0, Dv.ap_sl, Dv.ap_oNo, Dv.ap_oAt, Dv.ap_me, Dv.ap_me0, Dv.ap_for, Dv.ap_iTup, Dv.ap_iLst, Dv.ap_iStr, Dv.ap_raise0, Dv.ap_raise1, Dv.bind_ok, Dv.toS_ok, Dv.get_ok, Dv.noEx_ok, Dv.onG_some, Dv.then_nx, Dv.then_rt, Option.bind_some, List.set_cons_succ, List.set_cons_zero, List.getElem?_cons_zero, List.getElem?_cons_succ, Dv.dEq_ii, Dv.dEq_ss, Dv.dNe_ii, Dv.dNe_ss, Dv.dLt_ii, Dv.dLe_ii, Dv.dGt_ii, Dv.dGe_ii, Dv.dAddG_ii, Dv.dSub_ii, Dv.int1_i, Dv.abs_i, decide_true, decide_false, Bool.false_eq_true, if_true, if_false, Dv.env0, List.map_cons, List.map_nil, List.length_cons, List.length_nil, List.replicate, List.cons_append, List.nil_append, Nat.zero_add, Nat.reduceAdd, Nat.reduceSub, Dv.len_tup, Dv.len_str, Dv.ix_tup', Dv.tru_bl, Dv.dIsN_n, Dv.dNotN_n, Dv.seqOf_tup, Dv.setOf_tup, beq_self_eq_true, Dv.at0, Dv.at1, Dv.at2, Dv.at3, Dv.at4, Bool.not_true, Bool.not_false, Int.reduceEq, htup, e2, f1, hat, e3, e4, s1, s3, dAddG_tt, c1, c2, f2]
        rfl
      · rcases List.mem_append.mp hz with hz | hz
        · rcases List.mem_append.mp hz with hz | hz
          · obtain ⟨i, _, rfl⟩ := List.mem_map.mp (List.mem_of_mem_take hz); exact .int i
          · rw [List.mem_singleton] at hz; subst hz; exact g4
        · obtain ⟨i, _, rfl⟩ := List.mem_map.mp (List.mem_of_mem_drop hz); exact .int i
    · have := fin (.inr ⟨j, rfl⟩)
      obtain ⟨d, μ', e, rest⟩ := this
      refine ⟨d, μ', ?_, rest⟩
      rw [← e]
      rw [seq_nx (env' := [some (.cell n), some (.tup [.str k, x, .int j]), some (.int 2), none, none, none, none]) (μ' := μ1) (by simp only [Dv.ap_seq, Dv.ap_next, Dv.ap_ret, Dv.ap_retN, Dv.ap_drop, Dv.ap_break, Dv.ap_cont, Dv.ap_ifS, Dv.ap_asg, Dv.ap_par, Dv.ap_gnm, Dv.ap_gtup, Dv.ap_gcons, Dv.ap_gnil, Dv.ap_gsub, Dv.ap_var, Dv.ap_con, Dv.ap_op, Dv.ap_un, Dv.ap_chain, Dv.ap_and, Dv.ap_or, Dv.ap_not, Dv.ap_if, Dv.ap_test, Dv.ap_bAnd, Dv.ap_bOr, Dv.ap_bNot, Dv.ap_bTru, Dv.ap_bYes, Dv.ap_aNil, Dv.ap_aCons, Dv.ap_tup, Dv.ap_lst, Dv.ap_dct, Dv.ap_B, Dv.ap_call, Dv.ap_call0, Dv.ap_sl, Dv.ap_oNo, Dv.ap_oAt, Dv.ap_me, Dv.ap_me0, Dv.ap_for, Dv.ap_iTup, Dv.ap_iLst, Dv.ap_iStr, Dv.ap_raise0, Dv.ap_raise1, Dv.bind_ok, Dv.toS_ok, Dv.get_ok, Dv.noEx_ok, Dv.onG_some, Dv.then_nx, Dv.then_rt, Option.bind_some, List.set_cons_succ, List.set_cons_zero, List.getElem?_cons_zero, List.getElem?_cons_succ, Dv.dEq_ii, Dv.dEq_ss, Dv.dNe_ii, Dv.dNe_ss, Dv.dLt_ii, Dv.dLe_ii, Dv.dGt_ii, Dv.dGe_ii, Dv.dAddG_ii, Dv.dSub_ii, Dv.int1_i, Dv.abs_i, decide_true, decide_false, Bool.false_eq_true, if_true, if_false, Dv.env0, List.map_cons, List.map_nil, List.length_cons, List.length_nil, List.replicate, List.cons_append, List.nil_append, Nat.zero_add, Nat.reduceAdd, Nat.reduceSub, Dv.len_tup, Dv.len_str, Dv.ix_tup', Dv.tru_bl, Dv.dIsN_n, Dv.dNotN_n, Dv.seqOf_tup, Dv.setOf_tup, beq_self_eq_true, Dv.at0, Dv.at1, Dv.at2, Dv.at3, Dv.at4, Bool.not_true, Bool.not_false, Int.reduceEq]), seq_nx (env' := [some (.cell n), some (.tup [.str k, x, .int j]), some (.int 2), none, none, none, none]) (μ' := μ1) (by simp only [Dv.ap_seq, Dv.ap_next, Dv.ap_ret, Dv.ap_retN, Dv.ap_drop, Dv.ap_break, Dv.ap_cont, Dv.ap_ifS, Dv.ap_asg, Dv.ap_par, Dv.ap_gnm, Dv.ap_gtup, Dv.ap_gcons, Dv.ap_gnil, Dv.ap_gsub, Dv.ap_var, Dv.ap_con, Dv.ap_op, Dv.ap_un, Dv.ap_chain, Dv.ap_and, Dv.ap_or, Dv.ap_not, Dv.ap_if, Dv.ap_test, Dv.ap_bAnd, Dv.ap_bOr, Dv.ap_bNot, Dv.ap_bTru, Dv.ap_bYes, Dv.ap_aNil, Dv.ap_aCons, Dv.ap_tup, Dv.ap_lst, Dv.ap_dct, Dv.ap_B, Dv.ap_call, Dv.ap_call0, Dv.ap_sl, Dv.ap_oNo, Dv.ap_oAt, Dv.ap_me, Dv.ap_me0, Dv.ap_for, Dv.ap_iTup, Dv.ap_iLst, Dv.ap_iStr, Dv.ap_raise0, Dv.ap_raise1, Dv.bind_ok, Dv.toS_ok, Dv.get_ok, Dv.noEx_ok, Dv.onG_some, Dv.then_nx, Dv.then_rt, Option.bind_some, List.set_cons_succ, List.set_cons_zero, List.getElem?_cons_zero, List.getElem?_cons_succ, Dv.dEq_ii, Dv.dEq_ss, Dv.dNe_ii, Dv.dNe_ss, Dv.dLt_ii, Dv.dLe_ii, Dv.dGt_ii, Dv.dGe_ii, Dv.dAddG_ii, Dv.dSub_ii, Dv.int1_i, Dv.abs_i, decide_true, decide_false, Bool.false_eq_true, if_true, if_false, Dv.env0, List.map_cons, List.map_nil, List.length_cons, List.length_nil, List.replicate, List.cons_append, List.nil_append, Nat.zero_add, Nat.reduceAdd, Nat.reduceSub, Dv.len_tup, Dv.len_str, Dv.ix_tup', Dv.tru_bl, Dv.dIsN_n, Dv.dNotN_n, Dv.seqOf_tup, Dv.setOf_tup, beq_self_eq_true, Dv.at0, Dv.at1, Dv.at2, Dv.at3, Dv.at4, Bool.not_true, Bool.not_false, Int.reduceEq, htup]), seq_nx (env' := [some (.cell n), some (.tup [.str k, x, .int j]), some (.int 2), none, none, none, none]) (μ' := μ1) (by simp only [Dv.ap_seq, Dv.ap_next, Dv.ap_ret, Dv.ap_retN, Dv.ap_drop, Dv.ap_break, Dv.ap_cont, Dv.ap_ifS, Dv.ap_asg, Dv.ap_par, Dv.ap_gnm, Dv.ap_gtup, Dv.ap_gcons, Dv.ap_gnil, Dv.ap_gsub, Dv.ap_var, Dv.ap_con, Dv.ap_op, Dv.ap_un, Dv.ap_chain, Dv.ap_and, Dv.ap_or, Dv.ap_not, Dv.ap_if, Dv.ap_test, Dv.ap_bAnd, Dv.ap_bOr, Dv.ap_bNot, Dv.ap_bTru, Dv.ap_bYes, Dv.ap_aNil, Dv.ap_aCons, Dv.ap_tup, Dv.ap_lst, Dv.ap_dct, Dv.ap_B, Dv.ap_call, Dv.ap_call0, Dv.ap_sl, Dv.ap_oNo, Dv.ap_oAt, Dv.ap_me, Dv.ap_me0, Dv.ap_for, Dv.ap_iTup, Dv.ap_iLst, Dv.ap_iStr, Dv.ap_raise0, Dv.ap_raise1, Dv.bind_ok, Dv.toS_ok, Dv.get_ok, Dv.noEx_ok, Dv.onG_some, Dv.then_nx, Dv.then_rt, Option.bind_some, List.set_cons_succ, List.set_cons_zero, List.getElem?_cons_zero, List.getElem?_cons_succ, Dv.dEq_ii, Dv.dEq_ss, Dv.dNe_ii, Dv.dNe_ss, Dv.dLt_ii, Dv.dLe_ii, Dv.dGt_ii, Dv.dGe_ii, Dv.dAddG_ii, Dv.dSub_ii, Dv.int1_i, Dv.abs_i, decide_true, decide_false, Bool.false_eq_true, if_true, if_false, Dv.env0, List.map_cons, List.map_nil, List.length_cons, List.length_nil, List.replicate, List.cons_append, List.nil_append, Nat.zero_add, Nat.reduceAdd, Nat.reduceSub, Dv.len_tup, Dv.len_str, Dv.ix_tup', Dv.tru_bl, Dv.dIsN_n, Dv.dNotN_n, Dv.seqOf_tup, Dv.setOf_tup, beq_self_eq_true, Dv.at0, Dv.at1, Dv.at2, Dv.at3, Dv.at4, Bool.not_true, Bool.not_false, Int.reduceEq]), seq_nx (env' := [some (.cell n), some (.tup [.str k, x, .int j]), some (.int 2), none, none, none, none]) (μ' := μ1) (by simp only [Dv.ap_seq, Dv.ap_next, Dv.ap_ret, Dv.ap_retN, Dv.ap_drop, Dv.ap_break, Dv.ap_cont, Dv.ap_ifS, Dv.ap_asg, Dv.ap_par, Dv.ap_gnm, Dv.ap_gtup, Dv.ap_gcons, Dv.ap_gnil, Dv.ap_gsub, Dv.ap_var, Dv.ap_con, Dv.ap_op, Dv.ap_un, Dv.ap_chain, Dv.ap_and, Dv.ap_or, Dv.ap_not, Dv.ap_if, Dv.ap_test, Dv.ap_bAnd, Dv.ap_bOr, Dv.ap_bNot, Dv.ap_bTru, Dv.ap_bYes, Dv.ap_aNil, Dv.ap_aCons, Dv.ap_tup, Dv.ap_lst, Dv.ap_dct, Dv.ap_B, Dv.ap_call, Dv.ap_call0, Dv.ap_sl, Dv.ap_oNo, Dv.ap_oAt, Dv.ap_me, Dv.ap_me0, Dv.ap_for, Dv.ap_iTup, Dv.ap_iLst, Dv.ap_iStr, Dv.ap_raise0, Dv.ap_raise1, Dv.bind_ok, Dv.toS_ok, Dv.get_ok, Dv.noEx_ok, Dv.onG_some, Dv.then_nx, Dv.then_rt, Option.bind_some, List.set_cons_succ, List.set_cons_zero, List.getElem?_cons_zero, List.getElem?_cons_succ, Dv.dEq_ii, Dv.dEq_ss, Dv.dNe_ii, Dv.dNe_ss, Dv.dLt_ii, Dv.dLe_ii, Dv.dGt_ii, Dv.dGe_ii, Dv.dAddG_ii, Dv.dSub_ii, Dv.int1_i, Dv.abs_i, decide_true, decide_false, Bool.false_eq_true, if_true, if_false, Dv.env0, List.map_cons, List.map_nil, List.length_cons, List.length_nil, List.replicate, List.cons_append, List.nil_append, Nat.zero_add, Nat.reduceAdd, Nat.reduceSub, Dv.len_tup, Dv.len_str, Dv.ix_tup', Dv.tru_bl, Dv.dIsN_n, Dv.dNotN_n, Dv.seqOf_tup, Dv.setOf_tup, beq_self_eq_true, Dv.at0, Dv.at1, Dv.at2, Dv.at3, Dv.at4, Bool.not_true, Bool.not_false, Int.reduceEq])]
      rcases h3.hx with ⟨i, rfl⟩ | ⟨w, rfl⟩ <;> simp only [Dv.ap_seq, Dv.ap_next, Dv.ap_ret, Dv.ap_retN, Dv.ap_drop, Dv.ap_break, Dv.ap_cont, Dv.ap_ifS, Dv.ap_asg, Dv.ap_par, Dv.ap_gnm, Dv.ap_gtup, Dv.ap_gcons, Dv.ap_gnil, Dv.ap_gsub, Dv.ap_var, Dv.ap_con, Dv.ap_op, Dv.ap_un, Dv.ap_chain, Dv.ap_and, Dv.ap_or, Dv.ap_not, Dv.ap_if, Dv.ap_test, Dv.ap_bAnd, Dv.ap_bOr, Dv.ap_bNot, Dv.ap_bTru, Dv.ap_bYes, Dv.ap_aNil, Dv.ap_aCons, Dv.ap_tup, Dv.ap_lst, Dv.ap_dct, Dv.ap_B, Dv.ap_call, Dv.ap_call0, Dv.ap_sl, Dv.ap_oNo, Dv.ap_oAt, Dv.ap_me, Dv.ap_me0, Dv.ap_for, Dv.ap_iTup, Dv.ap_iLst, Dv.ap_iStr, Dv.ap_raise0, Dv.ap_raise1, Dv.bind_ok, Dv.toS_ok, Dv.get_ok, Dv.noEx_ok, Dv.onG_some, Dv.then_nx, Dv.then_rt, Option.bind_some, List.set_cons_succ, List.set_cons_zero, List.getElem?_cons_zero, List.getElem?_cons_succ, Dv.dEq_ii, Dv.dEq_ss, Dv.dNe_ii, Dv.dNe_ss, Dv.dLt_ii, Dv.dLe_ii, Dv.dGt_ii, Dv.dGe_ii, Dv.dAddG_ii, Dv.dSub_ii, Dv.int1_i, Dv.abs_i, decide_true, decide_false, Bool.false_eq_true, if_true, if_false, Dv.env0, List.map_cons, List.map_nil, List.length_cons, List.length_nil, List.replicate, List.cons_append, List.nil_append, Nat.zero_add, Nat.reduceAdd, Nat.reduceSub, Dv.len_tup, Dv.len_str, Dv.ix_tup', Dv.tru_bl, Dv.dIsN_n, Dv.dNotN_n, Dv.seqOf_tup, Dv.setOf_tup, beq_self_eq_true, Dv.at0, Dv.at1, Dv.at2, Dv.at3, Dv.at4, Bool.not_true, Bool.not_false, Int.reduceEq, hint, el, s3] <;> rfl
  · have := fin (.inl z2)
    obtain ⟨d, μ', e, rest⟩ := this
    refine ⟨d, μ', ?_, rest⟩
    rw [← e]
    rw [seq_nx (env' := [some (.cell n), some (.tup [.str k, x, y]), some (.int kind), none, none, none, none]) (μ' := μ1) (by simp only [Dv.ap_seq, Dv.ap_next, Dv.ap_ret, Dv.ap_retN, Dv.ap_drop, Dv.ap_break, Dv.ap_cont, Dv.ap_ifS, Dv.ap_asg, Dv.ap_par, Dv.ap_gnm, Dv.ap_gtup, Dv.ap_gcons, Dv.ap_gnil, Dv.ap_gsub, Dv.ap_var, Dv.ap_con, Dv.ap_op, Dv.ap_un, Dv.ap_chain, Dv.ap_and, Dv.ap_or, Dv.ap_not, Dv.ap_if, Dv.ap_test, Dv.ap_bAnd, Dv.ap_bOr, Dv.ap_bNot, Dv.ap_bTru, Dv.ap_bYes, Dv.ap_aNil, Dv.ap_aCons, Dv.ap_tup, Dv.ap_lst, Dv.ap_dct, Dv.ap_B, Dv.ap_call, Dv.ap_call0, Dv.ap_sl, Dv.ap_oNo, Dv.ap_oAt, Dv.ap_me, Dv.ap_me0, Dv.ap_for, Dv.ap_iTup, Dv.ap_iLst, Dv.ap_iStr, Dv.ap_raise0, Dv.ap_raise1, Dv.bind_ok, Dv.toS_ok, Dv.get_ok, Dv.noEx_ok, Dv.onG_some, Dv.then_nx, Dv.then_rt, Option.bind_some, List.set_cons_succ, List.set_cons_zero, List.getElem?_cons_zero, List.getElem?_cons_succ, Dv.dEq_ii, Dv.dEq_ss, Dv.dNe_ii, Dv.dNe_ss, Dv.dLt_ii, Dv.dLe_ii, Dv.dGt_ii, Dv.dGe_ii, Dv.dAddG_ii, Dv.dSub_ii, Dv.int1_i, Dv.abs_i, decide_true, decide_false, Bool.false_eq_true, if_true, if_false, Dv.env0, List.map_cons, List.map_nil, List.length_cons, List.length_nil, List.replicate, List.cons_append, List.nil_append, Nat.zero_add, Nat.reduceAdd, Nat.reduceSub, Dv.len_tup, Dv.len_str, Dv.ix_tup', Dv.tru_bl, Dv.dIsN_n, Dv.dNotN_n, Dv.seqOf_tup, Dv.setOf_tup, beq_self_eq_true, Dv.at0, Dv.at1, Dv.at2, Dv.at3, Dv.at4, Bool.not_true, Bool.not_false, Int.reduceEq, z1]), seq_nx (env' := [some (.cell n), some (.tup [.str k, x, y]), some (.int kind), none, none, none, none]) (μ' := μ1) (by simp only [Dv.ap_seq, Dv.ap_next, Dv.ap_ret, Dv.ap_retN, Dv.ap_drop, Dv.ap_break, Dv.ap_cont, Dv.ap_ifS, Dv.ap_asg, Dv.ap_par, Dv.ap_gnm, Dv.ap_gtup, Dv.ap_gcons, Dv.ap_gnil, Dv.ap_gsub, Dv.ap_var, Dv.ap_con, Dv.ap_op, Dv.ap_un, Dv.ap_chain, Dv.ap_and, Dv.ap_or, Dv.ap_not, Dv.ap_if, Dv.ap_test, Dv.ap_bAnd, Dv.ap_bOr, Dv.ap_bNot, Dv.ap_bTru, Dv.ap_bYes, Dv.ap_aNil, Dv.ap_aCons, Dv.ap_tup, Dv.ap_lst, Dv.ap_dct, Dv.ap_B, Dv.ap_call, Dv.ap_call0, Dv.ap_sl, Dv.ap_oNo, Dv.ap_oAt, Dv.ap_me, Dv.ap_me0, Dv.ap_for, Dv.ap_iTup, Dv.ap_iLst, Dv.ap_iStr, Dv.ap_raise0, Dv.ap_raise1, Dv.bind_ok, Dv.toS_ok, Dv.get_ok, Dv.noEx_ok, Dv.onG_some, Dv.then_nx, Dv.then_rt, Option.bind_some, List.set_cons_succ, List.set_cons_zero, List.getElem?_cons_zero, List.getElem?_cons_succ, Dv.dEq_ii, Dv.dEq_ss, Dv.dNe_ii, Dv.dNe_ss, Dv.dLt_ii, Dv.dLe_ii, Dv.dGt_ii, Dv.dGe_ii, Dv.dAddG_ii, Dv.dSub_ii, Dv.int1_i, Dv.abs_i, decide_true, decide_false, Bool.false_eq_true, if_true, if_false, Dv.env0, List.map_cons, List.map_nil, List.length_cons, List.length_nil, List.replicate, List.cons_append, List.nil_append, Nat.zero_add, Nat.reduceAdd, Nat.reduceSub, Dv.len_tup, Dv.len_str, Dv.ix_tup', Dv.tru_bl, Dv.dIsN_n, Dv.dNotN_n, Dv.seqOf_tup, Dv.setOf_tup, beq_self_eq_true, Dv.at0, Dv.at1, Dv.at2, Dv.at3, Dv.at4, Bool.not_true, Bool.not_false, Int.reduceEq, z2]), seq_nx (env' := [some (.cell n), some (.tup [.str k, x, y]), some (.int kind), none, none, none, none]) (μ' := μ1) (by simp only [Dv.ap_seq, Dv.ap_next, Dv.ap_ret, Dv.ap_retN, Dv.ap_drop, Dv.ap_break, Dv.ap_cont, Dv.ap_ifS, Dv.ap_asg, Dv.ap_par, Dv.ap_gnm, Dv.ap_gtup, Dv.ap_gcons, Dv.ap_gnil, Dv.ap_gsub, Dv.ap_var, Dv.ap_con, Dv.ap_op, Dv.ap_un, Dv.ap_chain, Dv.ap_and, Dv.ap_or, Dv.ap_not, Dv.ap_if, Dv.ap_test, Dv.ap_bAnd, Dv.ap_bOr, Dv.ap_bNot, Dv.ap_bTru, Dv.ap_bYes, Dv.ap_aNil, Dv.ap_aCons, Dv.ap_tup, Dv.ap_lst, Dv.ap_dct, Dv.ap_B, Dv.ap_call, Dv.ap_call0, Dv.ap_sl, Dv.ap_oNo, Dv.ap_oAt, Dv.ap_me, Dv.ap_me0, Dv.ap_for, Dv.ap_iTup, Dv.ap_iLst, Dv.ap_iStr, Dv.ap_raise0, Dv.ap_raise1, Dv.bind_ok, Dv.toS_ok, Dv.get_ok, Dv.noEx_ok, Dv.onG_some, Dv.then_nx, Dv.then_rt, Option.bind_some, List.set_cons_succ, List.set_cons_zero, List.getElem?_cons_zero, List.getElem?_cons_succ, Dv.dEq_ii, Dv.dEq_ss, Dv.dNe_ii, Dv.dNe_ss, Dv.dLt_ii, Dv.dLe_ii, Dv.dGt_ii, Dv.dGe_ii, Dv.dAddG_ii, Dv.dSub_ii, Dv.int1_i, Dv.abs_i, decide_true, decide_false, Bool.false_eq_true, if_true, if_false, Dv.env0, List.map_cons, List.map_nil, List.length_cons, List.length_nil, List.replicate, List.cons_append, List.nil_append, Nat.zero_add, Nat.reduceAdd, Nat.reduceSub, Dv.len_tup, Dv.len_str, Dv.ix_tup', Dv.tru_bl, Dv.dIsN_n, Dv.dNotN_n, Dv.seqOf_tup, Dv.setOf_tup, beq_self_eq_true, Dv.at0, Dv.at1, Dv.at2, Dv.at3, Dv.at4, Bool.not_true, Bool.not_false, Int.reduceEq, z3]), seq_nx (env' := [some (.cell n), some (.tup [.str k, x, y]), some (.int kind), none, none, none, none]) (μ' := μ1) (by simp only [Dv.ap_seq, Dv.ap_next, Dv.ap_ret, Dv.ap_retN, Dv.ap_drop, Dv.ap_break, Dv.ap_cont, Dv.ap_ifS, Dv.ap_asg, Dv.ap_par, Dv.ap_gnm, Dv.ap_gtup, Dv.ap_gcons, Dv.ap_gnil, Dv.ap_gsub, Dv.ap_var, Dv.ap_con, Dv.ap_op, Dv.ap_un, Dv.ap_chain, Dv.ap_and, Dv.ap_or, Dv.ap_not, Dv.ap_if, Dv.ap_test, Dv.ap_bAnd, Dv.ap_bOr, Dv.ap_bNot, Dv.ap_bTru, Dv.ap_bYes, Dv.ap_aNil, Dv.ap_aCons, Dv.ap_tup, Dv.ap_lst, Dv.ap_dct, Dv.ap_B, Dv.ap_call, Dv.ap_call0, Dv.ap_sl, Dv.ap_oNo, Dv.ap_oAt, Dv.ap_me, Dv.ap_me0, Dv.ap_for, Dv.ap_iTup, Dv.ap_iLst, Dv.ap_iStr, Dv.ap_raise0, Dv.ap_raise1, Dv.bind_ok, Dv.toS_ok, Dv.get_ok, Dv.noEx_ok, Dv.onG_some, Dv.then_nx, Dv.then_rt, Option.bind_some, List.set_cons_succ, List.set_cons_zero, List.getElem?_cons_zero, List.getElem?_cons_succ, Dv.dEq_ii, Dv.dEq_ss, Dv.dNe_ii, Dv.dNe_ss, Dv.dLt_ii, Dv.dLe_ii, Dv.dGt_ii, Dv.dGe_ii, Dv.dAddG_ii, Dv.dSub_ii, Dv.int1_i, Dv.abs_i, decide_true, decide_false, Bool.false_eq_true, if_true, if_false, Dv.env0, List.map_cons, List.map_nil, List.length_cons, List.length_nil, List.replicate, List.cons_append, List.nil_append, Nat.zero_add, Nat.reduceAdd, Nat.reduceSub, Dv.len_tup, Dv.len_str, Dv.ix_tup', Dv.tru_bl, Dv.dIsN_n, Dv.dNotN_n, Dv.seqOf_tup, Dv.setOf_tup, beq_self_eq_true, Dv.at0, Dv.at1, Dv.at2, Dv.at3, Dv.at4, Bool.not_true, Bool.not_false, Int.reduceEq, z4])]
    rcases h3.hx with ⟨i, rfl⟩ | ⟨w, rfl⟩ <;> simp only [Dv.ap_seq, Dv.ap_next, Dv.ap_ret, Dv.ap_retN, Dv.ap_drop, Dv.ap_break, Dv.ap_cont, Dv.ap_ifS, Dv.ap_asg, Dv.ap_par, Dv.ap_gnm, Dv.ap_gtup, Dv.ap_gcons, Dv.ap_gnil, Dv.ap_gsub, Dv.ap_var, Dv.ap_con, Dv.ap_op, Dv.ap_un, Dv.ap_chain, Dv.ap_and, Dv.ap_or, Dv.ap_not, Dv.ap_if, Dv.ap_test, Dv.ap_bAnd, Dv.ap_bOr, Dv.ap_bNot, Dv.ap_bTru, Dv.ap_bYes, Dv.ap_aNil, Dv.ap_aCons, Dv.ap_tup, Dv.ap_lst, Dv.ap_dct, Dv.ap_B, Dv.ap_call, Dv.ap_call0, Dv.ap_sl, Dv.ap_oNo, Dv.ap_oAt, Dv.ap_me, Dv.ap_me0, Dv.ap_for, Dv.ap_iTup, Dv.ap_iLst, Dv.ap_iStr, Dv.ap_raise0, Dv.ap_raise1, Dv.bind_ok, Dv.toS_ok, Dv.get_ok, Dv.noEx_ok, Dv.onG_some, Dv.then_nx, Dv.then_rt, Option.bind_some, List.set_cons_succ, List.set_cons_zero, List.getElem?_cons_zero, List.getElem?_cons_succ, Dv.dEq_ii, Dv.dEq_ss, Dv.dNe_ii, Dv.dNe_ss, Dv.dLt_ii, Dv.dLe_ii, Dv.dGt_ii, Dv.dGe_ii, Dv.dAddG_ii, Dv.dSub_ii, Dv.int1_i, Dv.abs_i, decide_true, decide_false, Bool.false_eq_true, if_true, if_false, Dv.env0, List.map_cons, List.map_nil, List.length_cons, List.length_nil, List.replicate, List.cons_append, List.nil_append, Nat.zero_add, Nat.reduceAdd, Nat.reduceSub, Dv.len_tup, Dv.len_str, Dv.ix_tup', Dv.tru_bl, Dv.dIsN_n, Dv.dNotN_n, Dv.seqOf_tup, Dv.setOf_tup, beq_self_eq_true, Dv.at0, Dv.at1, Dv.at2, Dv.at3, Dv.at4, Bool.not_true, Bool.not_false, Int.reduceEq, hint, el, s3] <;> rfl
end Law

set_option maxRecDepth 100000
set_option maxHeartbeats 4000000
namespace Law
open PySem PySem.Spec PyProof.Rows L2 Dv
theorem four {μ : Mem} {n m : Nat} {near : Int} {a b c : D} (P : Dice μ n m) (ha : ∀ μ, Good μ a) (hb : ∀ μ, Good μ b) (hc : ∀ μ, Good μ c) :
    ∃ o μ2 q μ' w, g__law_odd [.cell n, .int near] μ = .ok o μ2 ∧ g__law_draw [.cell n, .int 4] (μ2 ++ [.lst [o, a, b, c]]) = .ok (.int q) μ' ∧ ixD (.cell μ2.length) (.int q) μ' = .ok w μ' ∧ Good μ' w ∧ Nxt n m μ μ' := by
  obtain ⟨o, μ2, e2, g2, N2⟩ := odd (near := near) P
  obtain ⟨ws, hws⟩ : ∃ ws : List D, ws = [o, a, b, c] := ⟨_, rfl⟩
  have hwn : ws.length = 4 := by rw [hws]; rfl
  obtain ⟨q, μ3, e3, q0, q1, N3⟩ := drawN (μ := μ2 ++ [.lst ws]) (k := 4) N2.d.app (by omega) (by omega)
  have lt2 := N2.d.lt
  have hL : μ3[μ2.length]? = some (.lst ws) := N3.s _ _ (by omega) (by simp)
  obtain ⟨w, hw, hm⟩ := at_mem (xs := ws) (i := q) q0 (by omega)
  refine ⟨o, μ2, q, μ3, w, e2, by rw [← hws]; exact e3, ix_of hL hw, ?_, N2.app.trans N3⟩
  rw [hws] at hm
  simp only [List.mem_cons, List.not_mem_nil, or_false] at hm
  rcases hm with rfl | rfl | rfl | rfl
  · exact g2.keep (Ty.app.trans N3.t)
  · exact ha _
  · exact hb _
  · exact hc _
/-- five parts, right or not -/
def Chg (n m : Nat) (μ : Mem) (r : R D) : Prop := ∃ a b c d t μ', r = .ok (.tup [a, b, c, d, t]) μ' ∧ Good μ' a ∧ Good μ' b ∧ Good μ' c ∧ Good μ' d ∧ Good μ' t ∧ (∀ xs, t = .tup xs → ∀ x ∈ xs, Hd μ' x) ∧ Nxt n m μ μ'
theorem It.part_hd {k : Str} {x y z : D} {μ : Mem} (h : It3 k x y) (hz : z = .str k ∨ z = x ∨ z = y) : Hd μ z := by
  rcases hz with rfl | rfl | rfl
  · exact .other (by intro xs e; cases e)
  · rcases h.hx with ⟨i, rfl⟩ | ⟨w, rfl⟩ <;> exact .other (by intro xs e; cases e)
  · rcases h.hy with ⟨ns, hn, _, rfl⟩ | ⟨j, rfl⟩
    · cases ns with
      | nil => exact absurd rfl hn
      | cons i r => exact .tup ⟨_, rfl⟩
    · exact .other (by intro xs e; cases e)
theorem It.parts {d : D} {μ : Mem} (h : It d) : ∀ xs, d = .tup xs → ∀ x ∈ xs, Hd μ x := by
  intro xs e z hz
  rcases h.cases' with ⟨k, rfl⟩ | ⟨k, x, y, rfl, h3⟩
  · cases e
    rw [List.mem_singleton] at hz; subst hz
    exact .other (by intro xs e; cases e)
  · cases e
    simp only [List.mem_cons, List.not_mem_nil, or_false] at hz
    exact It.part_hd h3 hz
theorem changed {μ : Mem} {n m : Nat} {d : D} (P : Dice μ n m) (hs : IsSpec d) : Chg n m μ (g__law_changed [.cell n, d] μ) := by
  obtain ⟨rows, letters, dl, p, items, rfl, r1, r6, hdl, hp, i1, i8, hit, _⟩ := hs.ex
  have gp : ∀ μ, Good μ p := fun μ => by
    rcases hp with rfl | ⟨i, rfl⟩
    · exact .non
    · exact .int _
  have gt : ∀ μ, Good μ (.tup items) := fun μ => .tup fun x hx => (hit x hx).good μ
  have ht : ∀ μ xs, D.tup items = .tup xs → ∀ x ∈ xs, Hd μ x := fun μ xs e x hx => by cases e; exact (hit x hx).hd μ
  obtain ⟨part, μ1, e1, k0, k1, N1⟩ := drawN (k := 9) P (by omega) (by omega)
  obtain ⟨at', μ2, e2, j0, j1, N2⟩ := drawN (k := rows) N1.d (by omega) (by omega)
  have s1 : 1 ≤ sizeLine := by rw [sizeLine_eq]; omega
  have s3 : 3 ≤ sizeLine := by rw [sizeLine_eq]; omega
  have s4 : 4 ≤ sizeLine := by rw [sizeLine_eq]; omega
  have s5 : 5 ≤ sizeLine := by rw [sizeLine_eq]; omega
  have s0 : 0 ≤ sizeLine := Nat.zero_le _
  have N := N1.trans N2
  unfold g__law_changed b__law_changed runB
  rw [seq_nx (env' := [some (.cell n), some (.tup [.int rows, .int letters, .tup (dl.map .int), p, .tup items]), some (.int rows), some (.int letters), some (.tup (dl.map .int)), some p, some (.tup items), none, none, none, none]) (μ' := μ) (by simp only [Dv.ap_seq, Dv.ap_next, Dv.ap_ret, Dv.ap_retN, Dv.ap_drop, Dv.ap_break, Dv.ap_cont, Dv.ap_ifS, Dv.ap_asg, Dv.ap_par, Dv.ap_gnm, Dv.ap_gtup, Dv.ap_gcons, Dv.ap_gnil, Dv.ap_gsub, Dv.ap_var, Dv.ap_con, Dv.ap_op, Dv.ap_un, Dv.ap_chain, Dv.ap_and, Dv.ap_or, Dv.ap_not, Dv.ap_if, Dv.ap_test, Dv.ap_bAnd, Dv.ap_bOr, Dv.ap_bNot, Dv.ap_bTru, Dv.ap_bYes, Dv.ap_aNil, Dv.ap_aCons, Dv.ap_tup, Dv.ap_lst, Dv.ap_dct, Dv.ap_B, Dv.ap_call, Dv.ap_call0, Dv.ap_sl, Dv.ap_oNo, Dv.ap_oAt, Dv.ap_me, Dv.ap_me0, Dv.ap_for, Dv.ap_iTup, Dv.ap_iLst, Dv.ap_iStr, Dv.ap_raise0, Dv.ap_raise1, Dv.bind_ok, Dv.toS_ok, Dv.get_ok, Dv.noEx_ok, Dv.onG_some, Dv.then_nx, Dv.then_rt, Option.bind_some, List.set_cons_succ, List.set_cons_zero, List.getElem?_cons_zero, List.getElem?_cons_succ, Dv.dEq_ii, Dv.dEq_ss, Dv.dNe_ii, Dv.dNe_ss, Dv.dLt_ii, Dv.dLe_ii, Dv.dGt_ii, Dv.dGe_ii, Dv.dAddG_ii, Dv.dSub_ii, Dv.int1_i, Dv.abs_i, decide_true, decide_false, Bool.false_eq_true, if_true, if_false, Dv.env0, List.map_cons, List.map_nil, List.length_cons, List.length_nil, List.replicate, List.cons_append, List.nil_append, Nat.zero_add, Nat.reduceAdd, Nat.reduceSub, Dv.len_tup, Dv.len_str, Dv.ix_tup', Dv.tru_bl, Dv.dIsN_n, Dv.dNotN_n, Dv.seqOf_tup, Dv.setOf_tup, beq_self_eq_true, Dv.at0, Dv.at1, Dv.at2, Dv.at3, Dv.at4, Bool.not_true, Bool.not_false, Int.reduceEq, ap_gtup, ap_gcons, ap_gnil]),
    seq_nx (env' := [some (.cell n), some (.tup [.int rows, .int letters, .tup (dl.map .int), p, .tup items]), some (.int rows), some (.int letters), some (.tup (dl.map .int)), some p, some (.tup items), some (.int part), none, none, none]) (μ' := μ1) (by simp only [Dv.ap_seq, Dv.ap_next, Dv.ap_ret, Dv.ap_retN, Dv.ap_drop, Dv.ap_break, Dv.ap_cont, Dv.ap_ifS, Dv.ap_asg, Dv.ap_par, Dv.ap_gnm, Dv.ap_gtup, Dv.ap_gcons, Dv.ap_gnil, Dv.ap_gsub, Dv.ap_var, Dv.ap_con, Dv.ap_op, Dv.ap_un, Dv.ap_chain, Dv.ap_and, Dv.ap_or, Dv.ap_not, Dv.ap_if, Dv.ap_test, Dv.ap_bAnd, Dv.ap_bOr, Dv.ap_bNot, Dv.ap_bTru, Dv.ap_bYes, Dv.ap_aNil, Dv.ap_aCons, Dv.ap_tup, Dv.ap_lst, Dv.ap_dct, Dv.ap_B, Dv.ap_call, Dv.ap_call0, Dv.ap_sl, Dv.ap_oNo, Dv.ap_oAt, Dv.ap_me, Dv.ap_me0, Dv.ap_for, Dv.ap_iTup, Dv.ap_iLst, Dv.ap_iStr, Dv.ap_raise0, Dv.ap_raise1, Dv.bind_ok, Dv.toS_ok, Dv.get_ok, Dv.noEx_ok, Dv.onG_some, Dv.then_nx, Dv.then_rt, Option.bind_some, List.set_cons_succ, List.set_cons_zero, List.getElem?_cons_zero, List.getElem?_cons_succ, Dv.dEq_ii, Dv.dEq_ss, Dv.dNe_ii, Dv.dNe_ss, Dv.dLt_ii, Dv.dLe_ii, Dv.dGt_ii, Dv.dGe_ii, Dv.dAddG_ii, Dv.dSub_ii, Dv.int1_i, Dv.abs_i, decide_true, decide_false, Bool.false_eq_true, if_true, if_false, Dv.env0, List.map_cons, List.map_nil, List.length_cons, List.length_nil, List.replicate, List.cons_append, List.nil_append, Nat.zero_add, Nat.reduceAdd, Nat.reduceSub, Dv.len_tup, Dv.len_str, Dv.ix_tup', Dv.tru_bl, Dv.dIsN_n, Dv.dNotN_n, Dv.seqOf_tup, Dv.setOf_tup, beq_self_eq_true, Dv.at0, Dv.at1, Dv.at2, Dv.at3, Dv.at4, Bool.not_true, Bool.not_false, Int.reduceEq, e1]),
    seq_nx (env' := [some (.cell n), some (.tup [.int rows, .int letters, .tup (dl.map .int), p, .tup items]), some (.int rows), some (.int letters), some (.tup (dl.map .int)), some p, some (.tup items), some (.int part), some (.int at'), none, none]) (μ' := μ2) (by simp only [Dv.ap_seq, Dv.ap_next, Dv.ap_ret, Dv.ap_retN, Dv.ap_drop, Dv.ap_break, Dv.ap_cont, Dv.ap_ifS, Dv.ap_asg, Dv.ap_par, Dv.ap_gnm, Dv.ap_gtup, Dv.ap_gcons, Dv.ap_gnil, Dv.ap_gsub, Dv.ap_var, Dv.ap_con, Dv.ap_op, Dv.ap_un, Dv.ap_chain, Dv.ap_and, Dv.ap_or, Dv.ap_not, Dv.ap_if, Dv.ap_test, Dv.ap_bAnd, Dv.ap_bOr, Dv.ap_bNot, Dv.ap_bTru, Dv.ap_bYes, Dv.ap_aNil, Dv.ap_aCons, Dv.ap_tup, Dv.ap_lst, Dv.ap_dct, Dv.ap_B, Dv.ap_call, Dv.ap_call0, Dv.ap_sl, Dv.ap_oNo, Dv.ap_oAt, Dv.ap_me, Dv.ap_me0, Dv.ap_for, Dv.ap_iTup, Dv.ap_iLst, Dv.ap_iStr, Dv.ap_raise0, Dv.ap_raise1, Dv.bind_ok, Dv.toS_ok, Dv.get_ok, Dv.noEx_ok, Dv.onG_some, Dv.then_nx, Dv.then_rt, Option.bind_some, List.set_cons_succ, List.set_cons_zero, List.getElem?_cons_zero, List.getElem?_cons_succ, Dv.dEq_ii, Dv.dEq_ss, Dv.dNe_ii, Dv.dNe_ss, Dv.dLt_ii, Dv.dLe_ii, Dv.dGt_ii, Dv.dGe_ii, Dv.dAddG_ii, Dv.dSub_ii, Dv.int1_i, Dv.abs_i, decide_true, decide_false, Bool.false_eq_true, if_true, if_false, Dv.env0, List.map_cons, List.map_nil, List.length_cons, List.length_nil, List.replicate, List.cons_append, List.nil_append, Nat.zero_add, Nat.reduceAdd, Nat.reduceSub, Dv.len_tup, Dv.len_str, Dv.ix_tup', Dv.tru_bl, Dv.dIsN_n, Dv.dNotN_n, Dv.seqOf_tup, Dv.setOf_tup, beq_self_eq_true, Dv.at0, Dv.at1, Dv.at2, Dv.at3, Dv.at4, Bool.not_true, Bool.not_false, Int.reduceEq, e2])]
  by_cases z0 : part = 0
  · subst z0
    obtain ⟨o, μ3, q, μ4, w, f1, f2, f3, gw, N4⟩ := four (near := rows) (a := .int 6) (b := .int 7) (c := .int 0) N2.d (fun _ => .int _) (fun _ => .int _) (fun _ => .int _)
    refine ⟨w, .int letters, .tup (dl.map .int), p, .tup items, μ4, ?_, gw, .int _, .ints, gp _, gt _, ht _, N.trans N4⟩
    simp only [Dv.ap_seq, Dv.ap_next, Dv.ap_ret, Dv.ap_retN, Dv.ap_drop, Dv.ap_break, Dv.ap_cont, Dv.ap_ifS, Dv.ap_asg, Dv.ap_par, Dv.ap_gnm, Dv.ap_gtup, Dv.ap_gcons, Dv.ap_gnil, Dv.ap_gsub, Dv.ap_var, Dv.ap_con, Dv.ap_op, Dv.ap_un, Dv.ap_chain, Dv.ap_and, Dv.ap_or, Dv.ap_not, Dv.ap_if, Dv.ap_test, Dv.ap_bAnd, Dv.ap_bOr, Dv.ap_bNot, Dv.ap_bTru, Dv.ap_bYes, Dv.ap_aNil, Dv.ap_aCons, Dv.ap_tup, Dv.ap_lst, Dv.ap_dct, Dv.ap_B, Dv.ap_call, Dv.ap_call0, Dv.ap_sl, Dv.ap_oNo, Dv.ap_oAt, Dv.ap_me, Dv.ap_me0, Dv.ap_for, Dv.ap_iTup, Dv.ap_iLst, Dv.ap_iStr, Dv.ap_raise0, Dv.ap_raise1, Dv.bind_ok, Dv.toS_ok, Dv.get_ok, Dv.noEx_ok, Dv.onG_some, Dv.then_nx, Dv.then_rt, Option.bind_some, List.set_cons_succ, List.set_cons_zero, List.getElem?_cons_zero, List.getElem?_cons_succ, Dv.dEq_ii, Dv.dEq_ss, Dv.dNe_ii, Dv.dNe_ss, Dv.dLt_ii, Dv.dLe_ii, Dv.dGt_ii, Dv.dGe_ii, Dv.dAddG_ii, Dv.dSub_ii, Dv.int1_i, Dv.abs_i, decide_true, decide_false, Bool.false_eq_true, if_true, if_false, Dv.env0, List.map_cons, List.map_nil, List.length_cons, List.length_nil, List.replicate, List.cons_append, List.nil_append, Nat.zero_add, Nat.reduceAdd, Nat.reduceSub, Dv.len_tup, Dv.len_str, Dv.ix_tup', Dv.tru_bl, Dv.dIsN_n, Dv.dNotN_n, Dv.seqOf_tup, Dv.setOf_tup, beq_self_eq_true, Dv.at0, Dv.at1, Dv.at2, Dv.at3, Dv.at4, Bool.not_true, Bool.not_false, Int.reduceEq, f1, s4, f2, f3, s5]
    rfl
  by_cases z1 : part = 1
  · subst z1
    obtain ⟨o, μ3, q, μ4, w, f1, f2, f3, gw, N4⟩ := four (near := letters) (a := .int 3) (b := .int 4) (c := .int 0) N2.d (fun _ => .int _) (fun _ => .int _) (fun _ => .int _)
    refine ⟨.int rows, w, .tup (dl.map .int), p, .tup items, μ4, ?_, .int _, gw, .ints, gp _, gt _, ht _, N.trans N4⟩
    simp only [Dv.ap_seq, Dv.ap_next, Dv.ap_ret, Dv.ap_retN, Dv.ap_drop, Dv.ap_break, Dv.ap_cont, Dv.ap_ifS, Dv.ap_asg, Dv.ap_par, Dv.ap_gnm, Dv.ap_gtup, Dv.ap_gcons, Dv.ap_gnil, Dv.ap_gsub, Dv.ap_var, Dv.ap_con, Dv.ap_op, Dv.ap_un, Dv.ap_chain, Dv.ap_and, Dv.ap_or, Dv.ap_not, Dv.ap_if, Dv.ap_test, Dv.ap_bAnd, Dv.ap_bOr, Dv.ap_bNot, Dv.ap_bTru, Dv.ap_bYes, Dv.ap_aNil, Dv.ap_aCons, Dv.ap_tup, Dv.ap_lst, Dv.ap_dct, Dv.ap_B, Dv.ap_call, Dv.ap_call0, Dv.ap_sl, Dv.ap_oNo, Dv.ap_oAt, Dv.ap_me, Dv.ap_me0, Dv.ap_for, Dv.ap_iTup, Dv.ap_iLst, Dv.ap_iStr, Dv.ap_raise0, Dv.ap_raise1, Dv.bind_ok, Dv.toS_ok, Dv.get_ok, Dv.noEx_ok, Dv.onG_some, Dv.then_nx, Dv.then_rt, Option.bind_some, List.set_cons_succ, List.set_cons_zero, List.getElem?_cons_zero, List.getElem?_cons_succ, Dv.dEq_ii, Dv.dEq_ss, Dv.dNe_ii, Dv.dNe_ss, Dv.dLt_ii, Dv.dLe_ii, Dv.dGt_ii, Dv.dGe_ii, Dv.dAddG_ii, Dv.dSub_ii, Dv.int1_i, Dv.abs_i, decide_true, decide_false, Bool.false_eq_true, if_true, if_false, Dv.env0, List.map_cons, List.map_nil, List.length_cons, List.length_nil, List.replicate, List.cons_append, List.nil_append, Nat.zero_add, Nat.reduceAdd, Nat.reduceSub, Dv.len_tup, Dv.len_str, Dv.ix_tup', Dv.tru_bl, Dv.dIsN_n, Dv.dNotN_n, Dv.seqOf_tup, Dv.setOf_tup, beq_self_eq_true, Dv.at0, Dv.at1, Dv.at2, Dv.at3, Dv.at4, Bool.not_true, Bool.not_false, Int.reduceEq, f1, s4, f2, f3, s5]
    rfl
  by_cases z3 : part = 3
  · subst z3
    obtain ⟨o, μ3, q, μ4, w, f1, f2, f3, gw, N4⟩ := four (near := 1) (a := .int 60) (b := .int 61) (c := .non) N2.d (fun _ => .int _) (fun _ => .int _) (fun _ => .non)
    refine ⟨.int rows, .int letters, .tup (dl.map .int), w, .tup items, μ4, ?_, .int _, .int _, .ints, gw, gt _, ht _, N.trans N4⟩
    simp only [Dv.ap_seq, Dv.ap_next, Dv.ap_ret, Dv.ap_retN, Dv.ap_drop, Dv.ap_break, Dv.ap_cont, Dv.ap_ifS, Dv.ap_asg, Dv.ap_par, Dv.ap_gnm, Dv.ap_gtup, Dv.ap_gcons, Dv.ap_gnil, Dv.ap_gsub, Dv.ap_var, Dv.ap_con, Dv.ap_op, Dv.ap_un, Dv.ap_chain, Dv.ap_and, Dv.ap_or, Dv.ap_not, Dv.ap_if, Dv.ap_test, Dv.ap_bAnd, Dv.ap_bOr, Dv.ap_bNot, Dv.ap_bTru, Dv.ap_bYes, Dv.ap_aNil, Dv.ap_aCons, Dv.ap_tup, Dv.ap_lst, Dv.ap_dct, Dv.ap_B, Dv.ap_call, Dv.ap_call0, Dv.ap_sl, Dv.ap_oNo, Dv.ap_oAt, Dv.ap_me, Dv.ap_me0, Dv.ap_for, Dv.ap_iTup, Dv.ap_iLst, Dv.ap_iStr, Dv.ap_raise0, Dv.ap_raise1, Dv.bind_ok, Dv.toS_ok, Dv.get_ok, Dv.noEx_ok, Dv.onG_some, Dv.then_nx, Dv.then_rt, Option.bind_some, List.set_cons_succ, List.set_cons_zero, List.getElem?_cons_zero, List.getElem?_cons_succ, Dv.dEq_ii, Dv.dEq_ss, Dv.dNe_ii, Dv.dNe_ss, Dv.dLt_ii, Dv.dLe_ii, Dv.dGt_ii, Dv.dGe_ii, Dv.dAddG_ii, Dv.dSub_ii, Dv.int1_i, Dv.abs_i, decide_true, decide_false, Bool.false_eq_true, if_true, if_false, Dv.env0, List.map_cons, List.map_nil, List.length_cons, List.length_nil, List.replicate, List.cons_append, List.nil_append, Nat.zero_add, Nat.reduceAdd, Nat.reduceSub, Dv.len_tup, Dv.len_str, Dv.ix_tup', Dv.tru_bl, Dv.dIsN_n, Dv.dNotN_n, Dv.seqOf_tup, Dv.setOf_tup, beq_self_eq_true, Dv.at0, Dv.at1, Dv.at2, Dv.at3, Dv.at4, Bool.not_true, Bool.not_false, Int.reduceEq, f1, s4, f2, f3, s5]
    rfl
  by_cases z2 : part = 2
  · subst z2
    obtain ⟨j, rfl⟩ := nat_of j0
    have hj : j < dl.length := by omega
    have hat : atI (dl.map D.int) (j : Int) = some (.int dl[j]) := by
      rw [atI_in (by omega) (by rw [List.length_map]; omega), Int.toNat_natCast, List.getElem?_map, List.getElem?_eq_getElem hj]; rfl
    obtain ⟨o, μ3, e3, g3, N3⟩ := odd (near := dl[j]) N2.d
    have f1 : ∀ μ, slG (.tup (dl.map D.int)) none (some (j : Int)) μ = .ok (.tup ((dl.map D.int).take j)) μ := fun μ => sl_to
    have f2 : ∀ μ, slG (.tup (dl.map D.int)) (some ((j : Int) + 1)) none μ = .ok (.tup ((dl.map D.int).drop (j + 1))) μ := fun μ => sl_from (j := j + 1)
    have f3 : ∀ μ, slG (.tup (dl.map D.int)) (some 1) none μ = .ok (.tup ((dl.map D.int).drop 1)) μ := fun μ => sl_from (j := 1)
    have c1 : ((dl.map D.int).take j).length + 1 ≤ sizeLine := by rw [List.length_take, List.length_map, sizeLine_eq]; omega
    have c2 : ((dl.map D.int).take j ++ [o]).length + ((dl.map D.int).drop (j + 1)).length ≤ sizeLine := by rw [List.length_append, List.length_take, List.length_drop, List.length_map, sizeLine_eq, List.length_singleton]; omega
    have c3 : (dl.map D.int).length + 1 ≤ sizeLine := by rw [List.length_map, sizeLine_eq]; omega
    obtain ⟨h, hh⟩ : ∃ h : D, h = .tup ((dl.map D.int).take j ++ [o] ++ (dl.map D.int).drop (j + 1)) := ⟨_, rfl⟩
    obtain ⟨ws, hws⟩ : ∃ ws : List D, ws = [h, .cell μ3.length, .tup (dl.map D.int ++ [.int 0]), .tup ((dl.map D.int).drop 1)] := ⟨_, rfl⟩
    have hwl : ws.length ≤ sizeLine := by rw [hws]; exact s4
    have hwn : ws.length = 4 := by rw [hws]; rfl
    obtain ⟨q, μ4, e4, q0, q1, N4⟩ := drawN (μ := μ3 ++ [.lst (dl.map .int)] ++ [.lst ws]) (k := 4) N3.d.app.app (by omega) (by omega)
    have lt3 := N3.d.lt
    have hl : (μ3 ++ [C.lst (dl.map .int)]).length = μ3.length + 1 := by simp
    have hL : μ4[μ3.length + 1]? = some (.lst ws) := N4.s _ _ (by omega) (by rw [List.getElem?_append_right (by omega)]; simp)
    have hC : μ4[μ3.length]? = some (.lst (dl.map .int)) := N4.s _ _ (by omega) (by simp)
    obtain ⟨w, hw, hm⟩ := at_mem (xs := ws) (i := q) q0 (by omega)
    have gw : Good μ4 w := by
      rw [hws] at hm
      simp only [List.mem_cons, List.not_mem_nil, or_false] at hm
      rcases hm with rfl | rfl | rfl | rfl
      · rw [hh]
        refine .tup fun z hz => ?_
        rcases List.mem_append.mp hz with hz | hz
        · rcases List.mem_append.mp hz with hz | hz
          · obtain ⟨i, _, rfl⟩ := List.mem_map.mp (List.mem_of_mem_take hz); exact .int i
          · rw [List.mem_singleton] at hz; subst hz; exact g3.keep ((Ty.app.trans Ty.app).trans N4.t)
        · obtain ⟨i, _, rfl⟩ := List.mem_map.mp (List.mem_of_mem_drop hz); exact .int i
      · exact .lst (ty_lst hC)
      · refine .tup fun z hz => ?_
        rcases List.mem_append.mp hz with hz | hz
        · obtain ⟨i, _, rfl⟩ := List.mem_map.mp hz; exact .int i
        · rw [List.mem_singleton] at hz; subst hz; exact .int _
      · exact .tup fun z hz => by obtain ⟨i, _, rfl⟩ := List.mem_map.mp (List.mem_of_mem_drop hz); exact .int i
    refine ⟨.int rows, .int letters, w, p, .tup items, μ4, ?_, .int _, .int _, gw, gp _, gt _, ht _, (N.trans N3.app.app).trans N4⟩
    simp only [Dv.ap_seq, Dv.ap_next, Dv.ap_ret, Dv.ap_retN, Dv.ap_drop, Dv.ap_break, Dv.ap_cont, Dv.ap_ifS, Dv.ap_asg, Dv.ap_par, Dv.ap_gnm, Dv.ap_gtup, Dv.ap_gcons, Dv.ap_gnil, Dv.ap_gsub, Dv.ap_var, Dv.ap_con, Dv.ap_op, Dv.ap_un, Dv.ap_chain, Dv.ap_and, Dv.ap_or, Dv.ap_not, Dv.ap_if, Dv.ap_test, Dv.ap_bAnd, Dv.ap_bOr, Dv.ap_bNot, Dv.ap_bTru, Dv.ap_bYes, Dv.ap_aNil, Dv.ap_aCons, Dv.ap_tup, Dv.ap_lst, Dv.ap_dct, Dv.ap_B, Dv.ap_call, Dv.ap_call0, Dv.ap_sl, Dv.ap_oNo, Dv.ap_oAt, Dv.ap_me, Dv.ap_me0, Dv.ap_for, Dv.ap_iTup, Dv.ap_iLst, Dv.ap_iStr, Dv.ap_raise0, Dv.ap_raise1, Dv.bind_ok, Dv.toS_ok, Dv.get_ok, Dv.noEx_ok, Dv.onG_some, Dv.then_nx, Dv.then_rt, Option.bind_some, List.set_cons_succ, List.set_cons_zero, List.getElem?_cons_zero, List.getElem?_cons_succ, Dv.dEq_ii, Dv.dEq_ss, Dv.dNe_ii, Dv.dNe_ss, Dv.dLt_ii, Dv.dLe_ii, Dv.dGt_ii, Dv.dGe_ii, Dv.dAddG_ii, Dv.dSub_ii, Dv.int1_i, Dv.abs_i, decide_true, decide_false, Bool.false_eq_true, if_true, if_false, Dv.env0, List.map_cons, List.map_nil, List.length_cons, List.length_nil, List.replicate, List.cons_append, List.nil_append, Nat.zero_add, Nat.reduceAdd, Nat.reduceSub, Dv.len_tup, Dv.len_str, Dv.ix_tup', Dv.tru_bl, Dv.dIsN_n, Dv.dNotN_n, Dv.seqOf_tup, Dv.setOf_tup, beq_self_eq_true, Dv.at0, Dv.at1, Dv.at2, Dv.at3, Dv.at4, Bool.not_true, Bool.not_false, Int.reduceEq, s4, f1, hat, e3, s1, dAddG_tt, c1, c2, f2, ← hh, dLstOf, c3, f3, hl, ← hws, hwl, e4, ix_of hL hw, s5]
    rfl
  by_cases z4 : part = 4
  · subst z4
    have mid : ∃ st μ3, (fIf (bTest (fOp dEq (fCall (fun ds μ => if ds.length = 2 then g__law_draw ds μ else .no) (aCons (fVar 0) (aCons (fCon (.int 16)) aNil))) (fCon (.int 0)))) (fOp dRepW (fTup (aCons (fTup (aCons (fCon (.str "stop")) aNil)) aNil)) (fOp ixD (fLst (aCons (fCon (.int 19998)) (aCons (fCon (.int 19999)) (aCons (fCon (.int 20000)) aNil)))) (fCall (fun ds μ => if ds.length = 2 then g__law_draw ds μ else .no) (aCons (fVar 0) (aCons (fCon (.int 3)) aNil))))) (fTup aNil)) [some (.cell n), some (.tup [.int rows, .int letters, .tup (dl.map .int), p, .tup items]), some (.int rows), some (.int letters), some (.tup (dl.map .int)), some p, some (.tup items), some (.int 4), some (.int at'), none, none] μ2 = .ok (.tup st) μ3 ∧ (∀ x ∈ st, x = .tup [.str "stop"]) ∧ Nxt n m μ2 μ3 := by
      obtain ⟨q, μ3, e3, q0, q1, N3⟩ := drawN (k := 16) N2.d (by omega) (by omega)
      by_cases y : q = 0
      · obtain ⟨u, μ4, e4, u0, u1, N4⟩ := drawN (μ := μ3 ++ [.lst [.int 19998, .int 19999, .int 20000]]) (k := 3) N3.d.app (by omega) (by omega)
        have lt3 := N3.d.lt
        have hL : μ4[μ3.length]? = some (.lst [.int 19998, .int 19999, .int 20000]) := N4.s _ _ (by omega) (by simp)
        obtain ⟨v, hv, hvb⟩ : ∃ v : Int, atI [D.int 19998, .int 19999, .int 20000] u = some (.int v) ∧ 2 ≤ v ∧ v ≤ 20000 := by
          have : u = 0 ∨ u = 1 ∨ u = 2 := by omega
          rcases this with rfl | rfl | rfl
          · exact ⟨19998, by simp, by omega, by omega⟩
          · exact ⟨19999, by simp, by omega, by omega⟩
          · exact ⟨20000, by simp, by omega, by omega⟩
        have fit : RepFits [D.tup [.str "stop"]].length v := ⟨Nat.le_refl _, hvb.1, by show 1 * v.toNat ≤ 1000000; omega⟩
        refine ⟨(List.replicate v.toNat [D.tup [.str "stop"]]).flatten, μ4, ?_, ?_, N3.app.trans N4⟩
        · simp only [Dv.ap_seq, Dv.ap_next, Dv.ap_ret, Dv.ap_retN, Dv.ap_drop, Dv.ap_break, Dv.ap_cont, Dv.ap_ifS, Dv.ap_asg, Dv.ap_par, Dv.ap_gnm, Dv.ap_gtup, Dv.ap_gcons, Dv.ap_gnil, Dv.ap_gsub, Dv.ap_var, Dv.ap_con, Dv.ap_op, Dv.ap_un, Dv.ap_chain, Dv.ap_and, Dv.ap_or, Dv.ap_not, Dv.ap_if, Dv.ap_test, Dv.ap_bAnd, Dv.ap_bOr, Dv.ap_bNot, Dv.ap_bTru, Dv.ap_bYes, Dv.ap_aNil, Dv.ap_aCons, Dv.ap_tup, Dv.ap_lst, Dv.ap_dct, Dv.ap_B, Dv.ap_call, Dv.ap_call0, Dv.ap_sl, Dv.ap_oNo, Dv.ap_oAt, Dv.ap_me, Dv.ap_me0, Dv.ap_for, Dv.ap_iTup, Dv.ap_iLst, Dv.ap_iStr, Dv.ap_raise0, Dv.ap_raise1, Dv.bind_ok, Dv.toS_ok, Dv.get_ok, Dv.noEx_ok, Dv.onG_some, Dv.then_nx, Dv.then_rt, Option.bind_some, List.set_cons_succ, List.set_cons_zero, List.getElem?_cons_zero, List.getElem?_cons_succ, Dv.dEq_ii, Dv.dEq_ss, Dv.dNe_ii, Dv.dNe_ss, Dv.dLt_ii, Dv.dLe_ii, Dv.dGt_ii, Dv.dGe_ii, Dv.dAddG_ii, Dv.dSub_ii, Dv.int1_i, Dv.abs_i, decide_true, decide_false, Bool.false_eq_true, if_true, if_false, Dv.env0, List.map_cons, List.map_nil, List.length_cons, List.length_nil, List.replicate, List.cons_append, List.nil_append, Nat.zero_add, Nat.reduceAdd, Nat.reduceSub, Dv.len_tup, Dv.len_str, Dv.ix_tup', Dv.tru_bl, Dv.dIsN_n, Dv.dNotN_n, Dv.seqOf_tup, Dv.setOf_tup, beq_self_eq_true, Dv.at0, Dv.at1, Dv.at2, Dv.at3, Dv.at4, Bool.not_true, Bool.not_false, Int.reduceEq, e3, y, s1, s3, e4, ix_of hL hv, repW_at fit]
        · intro x hx
          obtain ⟨l, hl, hx⟩ := List.mem_flatten.mp hx
          rw [(List.mem_replicate.mp hl).2] at hx
          exact List.mem_singleton.mp hx
      · refine ⟨[], μ3, ?_, fun x hx => (nomatch hx), N3⟩
        simp only [Dv.ap_seq, Dv.ap_next, Dv.ap_ret, Dv.ap_retN, Dv.ap_drop, Dv.ap_break, Dv.ap_cont, Dv.ap_ifS, Dv.ap_asg, Dv.ap_par, Dv.ap_gnm, Dv.ap_gtup, Dv.ap_gcons, Dv.ap_gnil, Dv.ap_gsub, Dv.ap_var, Dv.ap_con, Dv.ap_op, Dv.ap_un, Dv.ap_chain, Dv.ap_and, Dv.ap_or, Dv.ap_not, Dv.ap_if, Dv.ap_test, Dv.ap_bAnd, Dv.ap_bOr, Dv.ap_bNot, Dv.ap_bTru, Dv.ap_bYes, Dv.ap_aNil, Dv.ap_aCons, Dv.ap_tup, Dv.ap_lst, Dv.ap_dct, Dv.ap_B, Dv.ap_call, Dv.ap_call0, Dv.ap_sl, Dv.ap_oNo, Dv.ap_oAt, Dv.ap_me, Dv.ap_me0, Dv.ap_for, Dv.ap_iTup, Dv.ap_iLst, Dv.ap_iStr, Dv.ap_raise0, Dv.ap_raise1, Dv.bind_ok, Dv.toS_ok, Dv.get_ok, Dv.noEx_ok, Dv.onG_some, Dv.then_nx, Dv.then_rt, Option.bind_some, List.set_cons_succ, List.set_cons_zero, List.getElem?_cons_zero, List.getElem?_cons_succ, Dv.dEq_ii, Dv.dEq_ss, Dv.dNe_ii, Dv.dNe_ss, Dv.dLt_ii, Dv.dLe_ii, Dv.dGt_ii, Dv.dGe_ii, Dv.dAddG_ii, Dv.dSub_ii, Dv.int1_i, Dv.abs_i, decide_true, decide_false, Bool.false_eq_true, if_true, if_false, Dv.env0, List.map_cons, List.map_nil, List.length_cons, List.length_nil, List.replicate, List.cons_append, List.nil_append, Nat.zero_add, Nat.reduceAdd, Nat.reduceSub, Dv.len_tup, Dv.len_str, Dv.ix_tup', Dv.tru_bl, Dv.dIsN_n, Dv.dNotN_n, Dv.seqOf_tup, Dv.setOf_tup, beq_self_eq_true, Dv.at0, Dv.at1, Dv.at2, Dv.at3, Dv.at4, Bool.not_true, Bool.not_false, Int.reduceEq, e3, y, s0]
    obtain ⟨st, μ3, hst, hall, N3⟩ := mid
    rw [seq_nx (env' := [some (.cell n), some (.tup [.int rows, .int letters, .tup (dl.map .int), p, .tup items]), some (.int rows), some (.int letters), some (.tup (dl.map .int)), some p, some (.tup items), some (.int 4), some (.int at'), none, none]) (μ' := μ2) (by simp only [Dv.ap_seq, Dv.ap_next, Dv.ap_ret, Dv.ap_retN, Dv.ap_drop, Dv.ap_break, Dv.ap_cont, Dv.ap_ifS, Dv.ap_asg, Dv.ap_par, Dv.ap_gnm, Dv.ap_gtup, Dv.ap_gcons, Dv.ap_gnil, Dv.ap_gsub, Dv.ap_var, Dv.ap_con, Dv.ap_op, Dv.ap_un, Dv.ap_chain, Dv.ap_and, Dv.ap_or, Dv.ap_not, Dv.ap_if, Dv.ap_test, Dv.ap_bAnd, Dv.ap_bOr, Dv.ap_bNot, Dv.ap_bTru, Dv.ap_bYes, Dv.ap_aNil, Dv.ap_aCons, Dv.ap_tup, Dv.ap_lst, Dv.ap_dct, Dv.ap_B, Dv.ap_call, Dv.ap_call0, Dv.ap_sl, Dv.ap_oNo, Dv.ap_oAt, Dv.ap_me, Dv.ap_me0, Dv.ap_for, Dv.ap_iTup, Dv.ap_iLst, Dv.ap_iStr, Dv.ap_raise0, Dv.ap_raise1, Dv.bind_ok, Dv.toS_ok, Dv.get_ok, Dv.noEx_ok, Dv.onG_some, Dv.then_nx, Dv.then_rt, Option.bind_some, List.set_cons_succ, List.set_cons_zero, List.getElem?_cons_zero, List.getElem?_cons_succ, Dv.dEq_ii, Dv.dEq_ss, Dv.dNe_ii, Dv.dNe_ss, Dv.dLt_ii, Dv.dLe_ii, Dv.dGt_ii, Dv.dGe_ii, Dv.dAddG_ii, Dv.dSub_ii, Dv.int1_i, Dv.abs_i, decide_true, decide_false, Bool.false_eq_true, if_true, if_false, Dv.env0, List.map_cons, List.map_nil, List.length_cons, List.length_nil, List.replicate, List.cons_append, List.nil_append, Nat.zero_add, Nat.reduceAdd, Nat.reduceSub, Dv.len_tup, Dv.len_str, Dv.ix_tup', Dv.tru_bl, Dv.dIsN_n, Dv.dNotN_n, Dv.seqOf_tup, Dv.setOf_tup, beq_self_eq_true, Dv.at0, Dv.at1, Dv.at2, Dv.at3, Dv.at4, Bool.not_true, Bool.not_false, Int.reduceEq]),
      seq_nx (env' := [some (.cell n), some (.tup [.int rows, .int letters, .tup (dl.map .int), p, .tup items]), some (.int rows), some (.int letters), some (.tup (dl.map .int)), some p, some (.tup items), some (.int 4), some (.int at'), none, none]) (μ' := μ2) (by simp only [Dv.ap_seq, Dv.ap_next, Dv.ap_ret, Dv.ap_retN, Dv.ap_drop, Dv.ap_break, Dv.ap_cont, Dv.ap_ifS, Dv.ap_asg, Dv.ap_par, Dv.ap_gnm, Dv.ap_gtup, Dv.ap_gcons, Dv.ap_gnil, Dv.ap_gsub, Dv.ap_var, Dv.ap_con, Dv.ap_op, Dv.ap_un, Dv.ap_chain, Dv.ap_and, Dv.ap_or, Dv.ap_not, Dv.ap_if, Dv.ap_test, Dv.ap_bAnd, Dv.ap_bOr, Dv.ap_bNot, Dv.ap_bTru, Dv.ap_bYes, Dv.ap_aNil, Dv.ap_aCons, Dv.ap_tup, Dv.ap_lst, Dv.ap_dct, Dv.ap_B, Dv.ap_call, Dv.ap_call0, Dv.ap_sl, Dv.ap_oNo, Dv.ap_oAt, Dv.ap_me, Dv.ap_me0, Dv.ap_for, Dv.ap_iTup, Dv.ap_iLst, Dv.ap_iStr, Dv.ap_raise0, Dv.ap_raise1, Dv.bind_ok, Dv.toS_ok, Dv.get_ok, Dv.noEx_ok, Dv.onG_some, Dv.then_nx, Dv.then_rt, Option.bind_some, List.set_cons_succ, List.set_cons_zero, List.getElem?_cons_zero, List.getElem?_cons_succ, Dv.dEq_ii, Dv.dEq_ss, Dv.dNe_ii, Dv.dNe_ss, Dv.dLt_ii, Dv.dLe_ii, Dv.dGt_ii, Dv.dGe_ii, Dv.dAddG_ii, Dv.dSub_ii, Dv.int1_i, Dv.abs_i, decide_true, decide_false, Bool.false_eq_true, if_true, if_false, Dv.env0, List.map_cons, List.map_nil, List.length_cons, List.length_nil, List.replicate, List.cons_append, List.nil_append, Nat.zero_add, Nat.reduceAdd, Nat.reduceSub, Dv.len_tup, Dv.len_str, Dv.ix_tup', Dv.tru_bl, Dv.dIsN_n, Dv.dNotN_n, Dv.seqOf_tup, Dv.setOf_tup, beq_self_eq_true, Dv.at0, Dv.at1, Dv.at2, Dv.at3, Dv.at4, Bool.not_true, Bool.not_false, Int.reduceEq]),
      seq_nx (env' := [some (.cell n), some (.tup [.int rows, .int letters, .tup (dl.map .int), p, .tup items]), some (.int rows), some (.int letters), some (.tup (dl.map .int)), some p, some (.tup items), some (.int 4), some (.int at'), none, none]) (μ' := μ2) (by simp only [Dv.ap_seq, Dv.ap_next, Dv.ap_ret, Dv.ap_retN, Dv.ap_drop, Dv.ap_break, Dv.ap_cont, Dv.ap_ifS, Dv.ap_asg, Dv.ap_par, Dv.ap_gnm, Dv.ap_gtup, Dv.ap_gcons, Dv.ap_gnil, Dv.ap_gsub, Dv.ap_var, Dv.ap_con, Dv.ap_op, Dv.ap_un, Dv.ap_chain, Dv.ap_and, Dv.ap_or, Dv.ap_not, Dv.ap_if, Dv.ap_test, Dv.ap_bAnd, Dv.ap_bOr, Dv.ap_bNot, Dv.ap_bTru, Dv.ap_bYes, Dv.ap_aNil, Dv.ap_aCons, Dv.ap_tup, Dv.ap_lst, Dv.ap_dct, Dv.ap_B, Dv.ap_call, Dv.ap_call0, Dv.ap_sl, Dv.ap_oNo, Dv.ap_oAt, Dv.ap_me, Dv.ap_me0, Dv.ap_for, Dv.ap_iTup, Dv.ap_iLst, Dv.ap_iStr, Dv.ap_raise0, Dv.ap_raise1, Dv.bind_ok, Dv.toS_ok, Dv.get_ok, Dv.noEx_ok, Dv.onG_some, Dv.then_nx, Dv.then_rt, Option.bind_some, List.set_cons_succ, List.set_cons_zero, List.getElem?_cons_zero, List.getElem?_cons_succ, Dv.dEq_ii, Dv.dEq_ss, Dv.dNe_ii, Dv.dNe_ss, Dv.dLt_ii, Dv.dLe_ii, Dv.dGt_ii, Dv.dGe_ii, Dv.dAddG_ii, Dv.dSub_ii, Dv.int1_i, Dv.abs_i, decide_true, decide_false, Bool.false_eq_true, if_true, if_false, Dv.env0, List.map_cons, List.map_nil, List.length_cons, List.length_nil, List.replicate, List.cons_append, List.nil_append, Nat.zero_add, Nat.reduceAdd, Nat.reduceSub, Dv.len_tup, Dv.len_str, Dv.ix_tup', Dv.tru_bl, Dv.dIsN_n, Dv.dNotN_n, Dv.seqOf_tup, Dv.setOf_tup, beq_self_eq_true, Dv.at0, Dv.at1, Dv.at2, Dv.at3, Dv.at4, Bool.not_true, Bool.not_false, Int.reduceEq]),
      seq_nx (env' := [some (.cell n), some (.tup [.int rows, .int letters, .tup (dl.map .int), p, .tup items]), some (.int rows), some (.int letters), some (.tup (dl.map .int)), some p, some (.tup items), some (.int 4), some (.int at'), none, none]) (μ' := μ2) (by simp only [Dv.ap_seq, Dv.ap_next, Dv.ap_ret, Dv.ap_retN, Dv.ap_drop, Dv.ap_break, Dv.ap_cont, Dv.ap_ifS, Dv.ap_asg, Dv.ap_par, Dv.ap_gnm, Dv.ap_gtup, Dv.ap_gcons, Dv.ap_gnil, Dv.ap_gsub, Dv.ap_var, Dv.ap_con, Dv.ap_op, Dv.ap_un, Dv.ap_chain, Dv.ap_and, Dv.ap_or, Dv.ap_not, Dv.ap_if, Dv.ap_test, Dv.ap_bAnd, Dv.ap_bOr, Dv.ap_bNot, Dv.ap_bTru, Dv.ap_bYes, Dv.ap_aNil, Dv.ap_aCons, Dv.ap_tup, Dv.ap_lst, Dv.ap_dct, Dv.ap_B, Dv.ap_call, Dv.ap_call0, Dv.ap_sl, Dv.ap_oNo, Dv.ap_oAt, Dv.ap_me, Dv.ap_me0, Dv.ap_for, Dv.ap_iTup, Dv.ap_iLst, Dv.ap_iStr, Dv.ap_raise0, Dv.ap_raise1, Dv.bind_ok, Dv.toS_ok, Dv.get_ok, Dv.noEx_ok, Dv.onG_some, Dv.then_nx, Dv.then_rt, Option.bind_some, List.set_cons_succ, List.set_cons_zero, List.getElem?_cons_zero, List.getElem?_cons_succ, Dv.dEq_ii, Dv.dEq_ss, Dv.dNe_ii, Dv.dNe_ss, Dv.dLt_ii, Dv.dLe_ii, Dv.dGt_ii, Dv.dGe_ii, Dv.dAddG_ii, Dv.dSub_ii, Dv.int1_i, Dv.abs_i, decide_true, decide_false, Bool.false_eq_true, if_true, if_false, Dv.env0, List.map_cons, List.map_nil, List.length_cons, List.length_nil, List.replicate, List.cons_append, List.nil_append, Nat.zero_add, Nat.reduceAdd, Nat.reduceSub, Dv.len_tup, Dv.len_str, Dv.ix_tup', Dv.tru_bl, Dv.dIsN_n, Dv.dNotN_n, Dv.seqOf_tup, Dv.setOf_tup, beq_self_eq_true, Dv.at0, Dv.at1, Dv.at2, Dv.at3, Dv.at4, Bool.not_true, Bool.not_false, Int.reduceEq])]
    have hc : (bTest (fOp dEq (fVar 7) (fCon (.int 4)))) [some (.cell n), some (.tup [.int rows, .int letters, .tup (dl.map .int), p, .tup items]), some (.int rows), some (.int letters), some (.tup (dl.map .int)), some p, some (.tup items), some (.int 4), some (.int at'), none, none] μ2 = .ok true μ2 := by simp only [Dv.ap_seq, Dv.ap_next, Dv.ap_ret, Dv.ap_retN, Dv.ap_drop, Dv.ap_break, Dv.ap_cont, Dv.ap_ifS, Dv.ap_asg, Dv.ap_par, Dv.ap_gnm, Dv.ap_gtup, Dv.ap_gcons, Dv.ap_gnil, Dv.ap_gsub, Dv.ap_var, Dv.ap_con, Dv.ap_op, Dv.ap_un, Dv.ap_chain, Dv.ap_and, Dv.ap_or, Dv.ap_not, Dv.ap_if, Dv.ap_test, Dv.ap_bAnd, Dv.ap_bOr, Dv.ap_bNot, Dv.ap_bTru, Dv.ap_bYes, Dv.ap_aNil, Dv.ap_aCons, Dv.ap_tup, Dv.ap_lst, Dv.ap_dct, Dv.ap_B, Dv.ap_call, Dv.ap_call0, Dv.ap_sl, Dv.ap_oNo, Dv.ap_oAt, Dv.ap_me, Dv.ap_me0, Dv.ap_for, Dv.ap_iTup, Dv.ap_iLst, Dv.ap_iStr, Dv.ap_raise0, Dv.ap_raise1, Dv.bind_ok, Dv.toS_ok, Dv.get_ok, Dv.noEx_ok, Dv.onG_some, Dv.then_nx, Dv.then_rt, Option.bind_some, List.set_cons_succ, List.set_cons_zero, List.getElem?_cons_zero, List.getElem?_cons_succ, Dv.dEq_ii, Dv.dEq_ss, Dv.dNe_ii, Dv.dNe_ss, Dv.dLt_ii, Dv.dLe_ii, Dv.dGt_ii, Dv.dGe_ii, Dv.dAddG_ii, Dv.dSub_ii, Dv.int1_i, Dv.abs_i, decide_true, decide_false, Bool.false_eq_true, if_true, if_false, Dv.env0, List.map_cons, List.map_nil, List.length_cons, List.length_nil, List.replicate, List.cons_append, List.nil_append, Nat.zero_add, Nat.reduceAdd, Nat.reduceSub, Dv.len_tup, Dv.len_str, Dv.ix_tup', Dv.tru_bl, Dv.dIsN_n, Dv.dNotN_n, Dv.seqOf_tup, Dv.setOf_tup, beq_self_eq_true, Dv.at0, Dv.at1, Dv.at2, Dv.at3, Dv.at4, Bool.not_true, Bool.not_false, Int.reduceEq]
    obtain ⟨it0, i00⟩ : ∃ x, items[0]? = some x := ⟨items[0], List.getElem?_eq_getElem (by omega)⟩
    have hi0 : It it0 := hit _ (List.mem_of_getElem? i00)
    have ai : atI items 0 = some it0 := by rw [atI_in (by omega) (by omega)]; exact i00
    obtain ⟨ws, hws⟩ : ∃ ws : List D, ws = [.cell μ3.length, .tup st, .non, .str "stop", it0] := ⟨_, rfl⟩
    have hwl : ws.length ≤ sizeLine := by rw [hws]; exact s5
    have hwn : ws.length = 5 := by rw [hws]; rfl
    obtain ⟨q, μ4, e4, q0, q1, N4⟩ := drawN (μ := μ3 ++ [.lst items] ++ [.lst ws]) (k := 5) N3.d.app.app (by omega) (by omega)
    have lt3 := N3.d.lt
    have hl : (μ3 ++ [C.lst items]).length = μ3.length + 1 := by simp
    have hL : μ4[μ3.length + 1]? = some (.lst ws) := N4.s _ _ (by omega) (by rw [List.getElem?_append_right (by omega)]; simp)
    have hC : μ4[μ3.length]? = some (.lst items) := N4.s _ _ (by omega) (by simp)
    obtain ⟨w, hw, hm⟩ := at_mem (xs := ws) (i := q) q0 (by omega)
    have gs : Good μ4 (.tup [.str "stop"]) := .tup fun z hz => by rw [List.mem_singleton] at hz; subst hz; exact .str _
    have gw : Good μ4 w ∧ ∀ xs, w = .tup xs → ∀ x ∈ xs, Hd μ4 x := by
      rw [hws] at hm
      simp only [List.mem_cons, List.not_mem_nil, or_false] at hm
      rcases hm with rfl | rfl | rfl | rfl | rfl
      · exact ⟨.lst (ty_lst hC), fun xs e => by cases e⟩
      · refine ⟨.tup fun z hz => by rw [hall z hz]; exact gs, fun xs e z hz => ?_⟩
        cases e
        rw [hall z hz]
        exact .tup ⟨_, rfl⟩
      · exact ⟨.non, fun xs e => by cases e⟩
      · exact ⟨.str _, fun xs e => by cases e⟩
      · exact ⟨hi0.good _, hi0.parts⟩
    refine ⟨.int rows, .int letters, .tup (dl.map .int), p, w, μ4, ?_, .int _, .int _, .ints, gp _, gw.1, gw.2, (N.trans N3.app.app).trans N4⟩
    rw [ap_seq, ap_ifS, hc, toS_ok, if_pos rfl, ap_seq, ap_asg, hst, toS_ok, ap_gnm, onG_some, then_nx]
    simp only [Dv.ap_seq, Dv.ap_next, Dv.ap_ret, Dv.ap_retN, Dv.ap_drop, Dv.ap_break, Dv.ap_cont, Dv.ap_ifS, Dv.ap_asg, Dv.ap_par, Dv.ap_gnm, Dv.ap_gtup, Dv.ap_gcons, Dv.ap_gnil, Dv.ap_gsub, Dv.ap_var, Dv.ap_con, Dv.ap_op, Dv.ap_un, Dv.ap_chain, Dv.ap_and, Dv.ap_or, Dv.ap_not, Dv.ap_if, Dv.ap_test, Dv.ap_bAnd, Dv.ap_bOr, Dv.ap_bNot, Dv.ap_bTru, Dv.ap_bYes, Dv.ap_aNil, Dv.ap_aCons, Dv.ap_tup, Dv.ap_lst, Dv.ap_dct, Dv.ap_B, Dv.ap_call, Dv.ap_call0, Dv.ap_sl, Dv.ap_oNo, Dv.ap_oAt, Dv.ap_me, Dv.ap_me0, Dv.ap_for, Dv.ap_iTup, Dv.ap_iLst, Dv.ap_iStr, Dv.ap_raise0, Dv.ap_raise1, Dv.bind_ok, Dv.toS_ok, Dv.get_ok, Dv.noEx_ok, Dv.onG_some, Dv.then_nx, Dv.then_rt, Option.bind_some, List.set_cons_succ, List.set_cons_zero, List.getElem?_cons_zero, List.getElem?_cons_succ, Dv.dEq_ii, Dv.dEq_ss, Dv.dNe_ii, Dv.dNe_ss, Dv.dLt_ii, Dv.dLe_ii, Dv.dGt_ii, Dv.dGe_ii, Dv.dAddG_ii, Dv.dSub_ii, Dv.int1_i, Dv.abs_i, decide_true, decide_false, Bool.false_eq_true, if_true, if_false, Dv.env0, List.map_cons, List.map_nil, List.length_cons, List.length_nil, List.replicate, List.cons_append, List.nil_append, Nat.zero_add, Nat.reduceAdd, Nat.reduceSub, Dv.len_tup, Dv.len_str, Dv.ix_tup', Dv.tru_bl, Dv.dIsN_n, Dv.dNotN_n, Dv.seqOf_tup, Dv.setOf_tup, beq_self_eq_true, Dv.at0, Dv.at1, Dv.at2, Dv.at3, Dv.at4, Bool.not_true, Bool.not_false, Int.reduceEq, s5, dLstOf, hl, ai, ← hws, hwl, e4, ix_of hL hw]
    rfl
  rw [seq_nx (env' := [some (.cell n), some (.tup [.int rows, .int letters, .tup (dl.map .int), p, .tup items]), some (.int rows), some (.int letters), some (.tup (dl.map .int)), some p, some (.tup items), some (.int part), some (.int at'), none, none]) (μ' := μ2) (by simp only [Dv.ap_seq, Dv.ap_next, Dv.ap_ret, Dv.ap_retN, Dv.ap_drop, Dv.ap_break, Dv.ap_cont, Dv.ap_ifS, Dv.ap_asg, Dv.ap_par, Dv.ap_gnm, Dv.ap_gtup, Dv.ap_gcons, Dv.ap_gnil, Dv.ap_gsub, Dv.ap_var, Dv.ap_con, Dv.ap_op, Dv.ap_un, Dv.ap_chain, Dv.ap_and, Dv.ap_or, Dv.ap_not, Dv.ap_if, Dv.ap_test, Dv.ap_bAnd, Dv.ap_bOr, Dv.ap_bNot, Dv.ap_bTru, Dv.ap_bYes, Dv.ap_aNil, Dv.ap_aCons, Dv.ap_tup, Dv.ap_lst, Dv.ap_dct, Dv.ap_B, Dv.ap_call, Dv.ap_call0, Dv.ap_sl, Dv.ap_oNo, Dv.ap_oAt, Dv.ap_me, Dv.ap_me0, Dv.ap_for, Dv.ap_iTup, Dv.ap_iLst, Dv.ap_iStr, Dv.ap_raise0, Dv.ap_raise1, Dv.bind_ok, Dv.toS_ok, Dv.get_ok, Dv.noEx_ok, Dv.onG_some, Dv.then_nx, Dv.then_rt, Option.bind_some, List.set_cons_succ, List.set_cons_zero, List.getElem?_cons_zero, List.getElem?_cons_succ, Dv.dEq_ii, Dv.dEq_ss, Dv.dNe_ii, Dv.dNe_ss, Dv.dLt_ii, Dv.dLe_ii, Dv.dGt_ii, Dv.dGe_ii, Dv.dAddG_ii, Dv.dSub_ii, Dv.int1_i, Dv.abs_i, decide_true, decide_false, Bool.false_eq_true, if_true, if_false, Dv.env0, List.map_cons, List.map_nil, List.length_cons, List.length_nil, List.replicate, List.cons_append, List.nil_append, Nat.zero_add, Nat.reduceAdd, Nat.reduceSub, Dv.len_tup, Dv.len_str, Dv.ix_tup', Dv.tru_bl, Dv.dIsN_n, Dv.dNotN_n, Dv.seqOf_tup, Dv.setOf_tup, beq_self_eq_true, Dv.at0, Dv.at1, Dv.at2, Dv.at3, Dv.at4, Bool.not_true, Bool.not_false, Int.reduceEq, z0]),
    seq_nx (env' := [some (.cell n), some (.tup [.int rows, .int letters, .tup (dl.map .int), p, .tup items]), some (.int rows), some (.int letters), some (.tup (dl.map .int)), some p, some (.tup items), some (.int part), some (.int at'), none, none]) (μ' := μ2) (by simp only [Dv.ap_seq, Dv.ap_next, Dv.ap_ret, Dv.ap_retN, Dv.ap_drop, Dv.ap_break, Dv.ap_cont, Dv.ap_ifS, Dv.ap_asg, Dv.ap_par, Dv.ap_gnm, Dv.ap_gtup, Dv.ap_gcons, Dv.ap_gnil, Dv.ap_gsub, Dv.ap_var, Dv.ap_con, Dv.ap_op, Dv.ap_un, Dv.ap_chain, Dv.ap_and, Dv.ap_or, Dv.ap_not, Dv.ap_if, Dv.ap_test, Dv.ap_bAnd, Dv.ap_bOr, Dv.ap_bNot, Dv.ap_bTru, Dv.ap_bYes, Dv.ap_aNil, Dv.ap_aCons, Dv.ap_tup, Dv.ap_lst, Dv.ap_dct, Dv.ap_B, Dv.ap_call, Dv.ap_call0, Dv.ap_sl, Dv.ap_oNo, Dv.ap_oAt, Dv.ap_me, Dv.ap_me0, Dv.ap_for, Dv.ap_iTup, Dv.ap_iLst, Dv.ap_iStr, Dv.ap_raise0, Dv.ap_raise1, Dv.bind_ok, Dv.toS_ok, Dv.get_ok, Dv.noEx_ok, Dv.onG_some, Dv.then_nx, Dv.then_rt, Option.bind_some, List.set_cons_succ, List.set_cons_zero, List.getElem?_cons_zero, List.getElem?_cons_succ, Dv.dEq_ii, Dv.dEq_ss, Dv.dNe_ii, Dv.dNe_ss, Dv.dLt_ii, Dv.dLe_ii, Dv.dGt_ii, Dv.dGe_ii, Dv.dAddG_ii, Dv.dSub_ii, Dv.int1_i, Dv.abs_i, decide_true, decide_false, Bool.false_eq_true, if_true, if_false, Dv.env0, List.map_cons, List.map_nil, List.length_cons, List.length_nil, List.replicate, List.cons_append, List.nil_append, Nat.zero_add, Nat.reduceAdd, Nat.reduceSub, Dv.len_tup, Dv.len_str, Dv.ix_tup', Dv.tru_bl, Dv.dIsN_n, Dv.dNotN_n, Dv.seqOf_tup, Dv.setOf_tup, beq_self_eq_true, Dv.at0, Dv.at1, Dv.at2, Dv.at3, Dv.at4, Bool.not_true, Bool.not_false, Int.reduceEq, z1]),
    seq_nx (env' := [some (.cell n), some (.tup [.int rows, .int letters, .tup (dl.map .int), p, .tup items]), some (.int rows), some (.int letters), some (.tup (dl.map .int)), some p, some (.tup items), some (.int part), some (.int at'), none, none]) (μ' := μ2) (by simp only [Dv.ap_seq, Dv.ap_next, Dv.ap_ret, Dv.ap_retN, Dv.ap_drop, Dv.ap_break, Dv.ap_cont, Dv.ap_ifS, Dv.ap_asg, Dv.ap_par, Dv.ap_gnm, Dv.ap_gtup, Dv.ap_gcons, Dv.ap_gnil, Dv.ap_gsub, Dv.ap_var, Dv.ap_con, Dv.ap_op, Dv.ap_un, Dv.ap_chain, Dv.ap_and, Dv.ap_or, Dv.ap_not, Dv.ap_if, Dv.ap_test, Dv.ap_bAnd, Dv.ap_bOr, Dv.ap_bNot, Dv.ap_bTru, Dv.ap_bYes, Dv.ap_aNil, Dv.ap_aCons, Dv.ap_tup, Dv.ap_lst, Dv.ap_dct, Dv.ap_B, Dv.ap_call, Dv.ap_call0, Dv.ap_sl, Dv.ap_oNo, Dv.ap_oAt, Dv.ap_me, Dv.ap_me0, Dv.ap_for, Dv.ap_iTup, Dv.ap_iLst, Dv.ap_iStr, Dv.ap_raise0, Dv.ap_raise1, Dv.bind_ok, Dv.toS_ok, Dv.get_ok, Dv.noEx_ok, Dv.onG_some, Dv.then_nx, Dv.then_rt, Option.bind_some, List.set_cons_succ, List.set_cons_zero, List.getElem?_cons_zero, List.getElem?_cons_succ, Dv.dEq_ii, Dv.dEq_ss, Dv.dNe_ii, Dv.dNe_ss, Dv.dLt_ii, Dv.dLe_ii, Dv.dGt_ii, Dv.dGe_ii, Dv.dAddG_ii, Dv.dSub_ii, Dv.int1_i, Dv.abs_i, decide_true, decide_false, Bool.false_eq_true, if_true, if_false, Dv.env0, List.map_cons, List.map_nil, List.length_cons, List.length_nil, List.replicate, List.cons_append, List.nil_append, Nat.zero_add, Nat.reduceAdd, Nat.reduceSub, Dv.len_tup, Dv.len_str, Dv.ix_tup', Dv.tru_bl, Dv.dIsN_n, Dv.dNotN_n, Dv.seqOf_tup, Dv.setOf_tup, beq_self_eq_true, Dv.at0, Dv.at1, Dv.at2, Dv.at3, Dv.at4, Bool.not_true, Bool.not_false, Int.reduceEq, z2]),
    seq_nx (env' := [some (.cell n), some (.tup [.int rows, .int letters, .tup (dl.map .int), p, .tup items]), some (.int rows), some (.int letters), some (.tup (dl.map .int)), some p, some (.tup items), some (.int part), some (.int at'), none, none]) (μ' := μ2) (by simp only [Dv.ap_seq, Dv.ap_next, Dv.ap_ret, Dv.ap_retN, Dv.ap_drop, Dv.ap_break, Dv.ap_cont, Dv.ap_ifS, Dv.ap_asg, Dv.ap_par, Dv.ap_gnm, Dv.ap_gtup, Dv.ap_gcons, Dv.ap_gnil, Dv.ap_gsub, Dv.ap_var, Dv.ap_con, Dv.ap_op, Dv.ap_un, Dv.ap_chain, Dv.ap_and, Dv.ap_or, Dv.ap_not, Dv.ap_if, Dv.ap_test, Dv.ap_bAnd, Dv.ap_bOr, Dv.ap_bNot, Dv.ap_bTru, Dv.ap_bYes, Dv.ap_aNil, Dv.ap_aCons, Dv.ap_tup, Dv.ap_lst, Dv.ap_dct, Dv.ap_B, Dv.ap_call, Dv.ap_call0, Dv.ap_sl, Dv.ap_oNo, Dv.ap_oAt, Dv.ap_me, Dv.ap_me0, Dv.ap_for, Dv.ap_iTup, Dv.ap_iLst, Dv.ap_iStr, Dv.ap_raise0, Dv.ap_raise1, Dv.bind_ok, Dv.toS_ok, Dv.get_ok, Dv.noEx_ok, Dv.onG_some, Dv.then_nx, Dv.then_rt, Option.bind_some, List.set_cons_succ, List.set_cons_zero, List.getElem?_cons_zero, List.getElem?_cons_succ, Dv.dEq_ii, Dv.dEq_ss, Dv.dNe_ii, Dv.dNe_ss, Dv.dLt_ii, Dv.dLe_ii, Dv.dGt_ii, Dv.dGe_ii, Dv.dAddG_ii, Dv.dSub_ii, Dv.int1_i, Dv.abs_i, decide_true, decide_false, Bool.false_eq_true, if_true, if_false, Dv.env0, List.map_cons, List.map_nil, List.length_cons, List.length_nil, List.replicate, List.cons_append, List.nil_append, Nat.zero_add, Nat.reduceAdd, Nat.reduceSub, Dv.len_tup, Dv.len_str, Dv.ix_tup', Dv.tru_bl, Dv.dIsN_n, Dv.dNotN_n, Dv.seqOf_tup, Dv.setOf_tup, beq_self_eq_true, Dv.at0, Dv.at1, Dv.at2, Dv.at3, Dv.at4, Bool.not_true, Bool.not_false, Int.reduceEq, z3]),
    seq_nx (env' := [some (.cell n), some (.tup [.int rows, .int letters, .tup (dl.map .int), p, .tup items]), some (.int rows), some (.int letters), some (.tup (dl.map .int)), some p, some (.tup items), some (.int part), some (.int at'), none, none]) (μ' := μ2) (by simp only [Dv.ap_seq, Dv.ap_next, Dv.ap_ret, Dv.ap_retN, Dv.ap_drop, Dv.ap_break, Dv.ap_cont, Dv.ap_ifS, Dv.ap_asg, Dv.ap_par, Dv.ap_gnm, Dv.ap_gtup, Dv.ap_gcons, Dv.ap_gnil, Dv.ap_gsub, Dv.ap_var, Dv.ap_con, Dv.ap_op, Dv.ap_un, Dv.ap_chain, Dv.ap_and, Dv.ap_or, Dv.ap_not, Dv.ap_if, Dv.ap_test, Dv.ap_bAnd, Dv.ap_bOr, Dv.ap_bNot, Dv.ap_bTru, Dv.ap_bYes, Dv.ap_aNil, Dv.ap_aCons, Dv.ap_tup, Dv.ap_lst, Dv.ap_dct, Dv.ap_B, Dv.ap_call, Dv.ap_call0, Dv.ap_sl, Dv.ap_oNo, Dv.ap_oAt, Dv.ap_me, Dv.ap_me0, Dv.ap_for, Dv.ap_iTup, Dv.ap_iLst, Dv.ap_iStr, Dv.ap_raise0, Dv.ap_raise1, Dv.bind_ok, Dv.toS_ok, Dv.get_ok, Dv.noEx_ok, Dv.onG_some, Dv.then_nx, Dv.then_rt, Option.bind_some, List.set_cons_succ, List.set_cons_zero, List.getElem?_cons_zero, List.getElem?_cons_succ, Dv.dEq_ii, Dv.dEq_ss, Dv.dNe_ii, Dv.dNe_ss, Dv.dLt_ii, Dv.dLe_ii, Dv.dGt_ii, Dv.dGe_ii, Dv.dAddG_ii, Dv.dSub_ii, Dv.int1_i, Dv.abs_i, decide_true, decide_false, Bool.false_eq_true, if_true, if_false, Dv.env0, List.map_cons, List.map_nil, List.length_cons, List.length_nil, List.replicate, List.cons_append, List.nil_append, Nat.zero_add, Nat.reduceAdd, Nat.reduceSub, Dv.len_tup, Dv.len_str, Dv.ix_tup', Dv.tru_bl, Dv.dIsN_n, Dv.dNotN_n, Dv.seqOf_tup, Dv.setOf_tup, beq_self_eq_true, Dv.at0, Dv.at1, Dv.at2, Dv.at3, Dv.at4, Bool.not_true, Bool.not_false, Int.reduceEq, z4])]
  obtain ⟨q, μ3, e3, q0, q1, N3⟩ := drawN (k := (items.length : Int)) N2.d (by omega) (by omega)
  obtain ⟨j, rfl⟩ := nat_of q0
  have hj : j < items.length := by omega
  have hat : atI items (j : Int) = some items[j] := by
    rw [atI_in (by omega) (by omega), Int.toNat_natCast, List.getElem?_eq_getElem hj]
  obtain ⟨w, μ4, e4, gw, hw, N4⟩ := item_changed N3.d (hit items[j] (List.getElem_mem hj))
  have f1 : ∀ μ, slG (.tup items) none (some (j : Int)) μ = .ok (.tup (items.take j)) μ := fun μ => sl_to
  have f2 : ∀ μ, slG (.tup items) (some ((j : Int) + 1)) none μ = .ok (.tup (items.drop (j + 1))) μ := fun μ => sl_from (j := j + 1)
  have c1 : (items.take j).length + 1 ≤ sizeLine := by rw [List.length_take, sizeLine_eq]; omega
  have c2 : (items.take j ++ [w]).length + (items.drop (j + 1)).length ≤ sizeLine := by rw [List.length_append, List.length_take, List.length_drop, sizeLine_eq, List.length_singleton]; omega
  have all : ∀ z ∈ items.take j ++ [w] ++ items.drop (j + 1), Good μ4 z ∧ Hd μ4 z := by
    intro z hz
    rcases List.mem_append.mp hz with hz | hz
    · rcases List.mem_append.mp hz with hz | hz
      · have := hit z (List.mem_of_mem_take hz); exact ⟨this.good _, this.hd _⟩
      · rw [List.mem_singleton] at hz; subst hz; exact ⟨gw, hw⟩
    · have := hit z (List.mem_of_mem_drop hz); exact ⟨this.good _, this.hd _⟩
  refine ⟨.int rows, .int letters, .tup (dl.map .int), p, .tup (items.take j ++ [w] ++ items.drop (j + 1)), μ4, ?_, .int _, .int _, .ints, gp _, .tup fun z hz => (all z hz).1, fun xs e z hz => by cases e; exact (all z hz).2, (N.trans N3).trans N4⟩
  simp only [Dv.ap_seq, Dv.ap_next, Dv.ap_ret, Dv.ap_retN, Dv.ap_drop, Dv.ap_break, Dv.ap_cont, Dv.ap_ifS, Dv.ap_asg, Dv.ap_par, Dv.ap_gnm, Dv.ap_gtup, Dv.ap_gcons, Dv.ap_gnil, Dv.ap_gsub, Dv.ap_var, Dv.ap_con, Dv.ap_op, Dv.ap_un, Dv.ap_chain, Dv.ap_and, Dv.ap_or, Dv.ap_not, Dv.ap_if, Dv.ap_test, Dv.ap_bAnd, Dv.ap_bOr, Dv.ap_bNot, Dv.ap_bTru, Dv.ap_bYes, Dv.ap_aNil, Dv.ap_aCons, Dv.ap_tup, Dv.ap_lst, Dv.ap_dct, Dv.ap_B, Dv.ap_call, Dv.ap_call0, Dv.ap_sl, Dv.ap_oNo, Dv.ap_oAt, Dv.ap_me, Dv.ap_me0, Dv.ap_for, Dv.ap_iTup, Dv.ap_iLst, Dv.ap_iStr, Dv.ap_raise0, Dv.ap_raise1, Dv.bind_ok, Dv.toS_ok, Dv.get_ok, Dv.noEx_ok, Dv.onG_some, Dv.then_nx, Dv.then_rt, Option.bind_some, List.set_cons_succ, List.set_cons_zero, List.getElem?_cons_zero, List.getElem?_cons_succ, Dv.dEq_ii, Dv.dEq_ss, Dv.dNe_ii, Dv.dNe_ss, Dv.dLt_ii, Dv.dLe_ii, Dv.dGt_ii, Dv.dGe_ii, Dv.dAddG_ii, Dv.dSub_ii, Dv.int1_i, Dv.abs_i, decide_true, decide_false, Bool.false_eq_true, if_true, if_false, Dv.env0, List.map_cons, List.map_nil, List.length_cons, List.length_nil, List.replicate, List.cons_append, List.nil_append, Nat.zero_add, Nat.reduceAdd, Nat.reduceSub, Dv.len_tup, Dv.len_str, Dv.ix_tup', Dv.tru_bl, Dv.dIsN_n, Dv.dNotN_n, Dv.seqOf_tup, Dv.setOf_tup, beq_self_eq_true, Dv.at0, Dv.at1, Dv.at2, Dv.at3, Dv.at4, Bool.not_true, Bool.not_false, Int.reduceEq, e3, f1, hat, e4, s1, dAddG_tt, c1, c2, f2, s5]
  rfl
end Law

set_option maxRecDepth 100000
set_option maxHeartbeats 4000000
namespace Law
open PySem PySem.Spec PyProof.Rows L2 Dv
theorem eq_told {o : Option Str} {μ : Mem} : dEq (toldD o) (toldD o) μ = .ok (.bl true) μ := by
  cases o with
  | none => simp [dEq, toldD]
  | some w => simp [dEq, toldD]
theorem rest {K : PySem.W.Frag} {a : Adr} (T : PureT K a) {μ : Mem} {n : Nat} {s turn spec r l d p t : D} (hs : IsSpec spec) (gr : Good μ r) (gl : Good μ l) (gd : Good μ d) (gp : Good μ p) (gt : Good μ t) (hh : ∀ xs, t = .tup xs → ∀ x ∈ xs, Hd μ x) :
    ∃ μ', outS ((sSeq (sAsg (fCall (fun ds μ => if ds.length = 1 then g__law_wrong ds μ else .no) (aCons (fVar 4) aNil)) (gNm 5))
    (sSeq (sAsg (fTup (aCons (fCon (.str "refused")) (aCons (fVar 5) aNil))) (gNm 6))
    (sSeq (sIf (bTest (fOp dIsN (fVar 5) (fCon .non))) (sAsg (fTup (aCons (fCon (.str "let")) (aCons (fCon .non) aNil))) (gNm 6)) sNext)
    (sRet (fAnd (fOp dEq (fCall (fun ds μ => if ds.length = 1 then (g__law_refused K a) ds μ else .no) (aCons (fVar 4) aNil)) (fVar 6)) (fOp dEq (fCall (fun ds μ => if ds.length = 1 then (g__law_refused K a) ds μ else .no) (aCons (fVar 3) aNil)) (fTup (aCons (fCon (.str "let")) (aCons (fCon .non) aNil))))))))) [some s, some (.cell n), some turn, some spec, some (.tup [r, l, d, p, t]), none, none] μ) = .ok (.bl true) μ' := by
  have s2 : 2 ≤ sizeLine := by rw [sizeLine_eq]; omega
  obtain ⟨rows, letters, dl, p', items, rfl, r1, r6, hdl, hp, i1, i8, hit, hw⟩ := hs.ex
  obtain ⟨l1, h1⟩ := law_wrong gr gl gd gp gt hh
  have k1 := gr.keep (Ty.app (l := l1))
  have k2 := gl.keep (Ty.app (l := l1))
  have k3 := gd.keep (Ty.app (l := l1))
  have k4 := gp.keep (Ty.app (l := l1))
  have k5 := gt.keep (Ty.app (l := l1))
  obtain ⟨l2, h2⟩ := refused T k1 k2 k3 k4 k5
  have gp' : Good (μ ++ l1 ++ l2) p' := by
    rcases hp with rfl | ⟨i, rfl⟩
    · exact .non
    · exact .int _
  obtain ⟨l3, h3⟩ := refused T (μ := μ ++ l1 ++ l2) (.int rows) (.int letters) (.ints (ns := dl)) gp' (.tup fun x hx => (hit x hx).good _)
  rw [hw] at h3
  have e0 : dEq (toldD none) (.tup [.str "let", .non]) (μ ++ l1 ++ l2 ++ l3) = .ok (.bl true) (μ ++ l1 ++ l2 ++ l3) := eq_told (o := none)
  refine ⟨μ ++ l1 ++ l2 ++ l3, ?_⟩
  cases ho : wrongD r l d p t with
  | none =>
    rw [ho] at h1 h2
    have e1 : dEq (toldD none) (.tup [.str "let", .non]) (μ ++ l1 ++ l2) = .ok (.bl true) (μ ++ l1 ++ l2) := eq_told (o := none)
    simp only [Dv.ap_seq, Dv.ap_next, Dv.ap_ret, Dv.ap_retN, Dv.ap_drop, Dv.ap_break, Dv.ap_cont, Dv.ap_ifS, Dv.ap_asg, Dv.ap_par, Dv.ap_gnm, Dv.ap_gtup, Dv.ap_gcons, Dv.ap_gnil, Dv.ap_gsub, Dv.ap_var, Dv.ap_con, Dv.ap_op, Dv.ap_un, Dv.ap_chain, Dv.ap_and, Dv.ap_or, Dv.ap_not, Dv.ap_if, Dv.ap_test, Dv.ap_bAnd, Dv.ap_bOr, Dv.ap_bNot, Dv.ap_bTru, Dv.ap_bYes, Dv.ap_aNil, Dv.ap_aCons, Dv.ap_tup, Dv.ap_lst, Dv.ap_dct, Dv.ap_B, Dv.ap_call, Dv.ap_call0, Dv.ap_sl, Dv.ap_oNo, Dv.ap_oAt, Dv.ap_me, Dv.ap_me0, Dv.ap_for, Dv.ap_iTup, Dv.ap_iLst, Dv.ap_iStr, Dv.ap_raise0, Dv.ap_raise1, Dv.bind_ok, Dv.toS_ok, Dv.get_ok, Dv.noEx_ok, Dv.onG_some, Dv.then_nx, Dv.then_rt, Option.bind_some, List.set_cons_succ, List.set_cons_zero, List.getElem?_cons_zero, List.getElem?_cons_succ, Dv.dEq_ii, Dv.dEq_ss, Dv.dNe_ii, Dv.dNe_ss, Dv.dLt_ii, Dv.dLe_ii, Dv.dGt_ii, Dv.dGe_ii, Dv.dAddG_ii, Dv.dSub_ii, Dv.int1_i, Dv.abs_i, decide_true, decide_false, Bool.false_eq_true, if_true, if_false, Dv.env0, List.map_cons, List.map_nil, List.length_cons, List.length_nil, List.replicate, List.cons_append, List.nil_append, Nat.zero_add, Nat.reduceAdd, Nat.reduceSub, Dv.len_tup, Dv.len_str, Dv.ix_tup', Dv.tru_bl, Dv.dIsN_n, Dv.dNotN_n, Dv.seqOf_tup, Dv.setOf_tup, beq_self_eq_true, Dv.at0, Dv.at1, Dv.at2, Dv.at3, Dv.at4, Bool.not_true, Bool.not_false, Int.reduceEq, h1, optD, s2, Dv.isNon, h2, e1, h3, e0]
    rfl
  | some w =>
    rw [ho] at h1 h2
    have e1 : dEq (toldD (some w)) (.tup [.str "refused", .str w]) (μ ++ l1 ++ l2) = .ok (.bl true) (μ ++ l1 ++ l2) := eq_told (o := some w)
    simp only [Dv.ap_seq, Dv.ap_next, Dv.ap_ret, Dv.ap_retN, Dv.ap_drop, Dv.ap_break, Dv.ap_cont, Dv.ap_ifS, Dv.ap_asg, Dv.ap_par, Dv.ap_gnm, Dv.ap_gtup, Dv.ap_gcons, Dv.ap_gnil, Dv.ap_gsub, Dv.ap_var, Dv.ap_con, Dv.ap_op, Dv.ap_un, Dv.ap_chain, Dv.ap_and, Dv.ap_or, Dv.ap_not, Dv.ap_if, Dv.ap_test, Dv.ap_bAnd, Dv.ap_bOr, Dv.ap_bNot, Dv.ap_bTru, Dv.ap_bYes, Dv.ap_aNil, Dv.ap_aCons, Dv.ap_tup, Dv.ap_lst, Dv.ap_dct, Dv.ap_B, Dv.ap_call, Dv.ap_call0, Dv.ap_sl, Dv.ap_oNo, Dv.ap_oAt, Dv.ap_me, Dv.ap_me0, Dv.ap_for, Dv.ap_iTup, Dv.ap_iLst, Dv.ap_iStr, Dv.ap_raise0, Dv.ap_raise1, Dv.bind_ok, Dv.toS_ok, Dv.get_ok, Dv.noEx_ok, Dv.onG_some, Dv.then_nx, Dv.then_rt, Option.bind_some, List.set_cons_succ, List.set_cons_zero, List.getElem?_cons_zero, List.getElem?_cons_succ, Dv.dEq_ii, Dv.dEq_ss, Dv.dNe_ii, Dv.dNe_ss, Dv.dLt_ii, Dv.dLe_ii, Dv.dGt_ii, Dv.dGe_ii, Dv.dAddG_ii, Dv.dSub_ii, Dv.int1_i, Dv.abs_i, decide_true, decide_false, Bool.false_eq_true, if_true, if_false, Dv.env0, List.map_cons, List.map_nil, List.length_cons, List.length_nil, List.replicate, List.cons_append, List.nil_append, Nat.zero_add, Nat.reduceAdd, Nat.reduceSub, Dv.len_tup, Dv.len_str, Dv.ix_tup', Dv.tru_bl, Dv.dIsN_n, Dv.dNotN_n, Dv.seqOf_tup, Dv.setOf_tup, beq_self_eq_true, Dv.at0, Dv.at1, Dv.at2, Dv.at3, Dv.at4, Bool.not_true, Bool.not_false, Int.reduceEq, h1, optD, s2, Dv.isNon, h2, e1, h3, e0]
    rfl
end Law

set_option maxRecDepth 100000
set_option maxHeartbeats 4000000
namespace Law
open PySem PySem.Spec PyProof.Rows L2 Dv
theorem main {K : PySem.W.Frag} {a : Adr} (T : PureT K a) (ns : List Int) (h : ns.length ≤ 63) : ∃ μ, g_law K a [.scr ns] [] = .ok (.bl true) μ := by
  obtain ⟨_, μ1, e1, n, m, rfl, P1⟩ := dice h
  obtain ⟨turn, μ2, e2, t0, t1, N2⟩ := drawN (k := 6) P1 (by omega) (by omega)
  obtain ⟨spec, μ3, e3, hs, P3, S3⟩ := program N2.d
  unfold g_law b_law runB
  rw [seq_nx (env' := [some (.scr ns), some (.cell n), none, none, none, none, none]) (μ' := μ1) (by simp only [Dv.ap_seq, Dv.ap_next, Dv.ap_ret, Dv.ap_retN, Dv.ap_drop, Dv.ap_break, Dv.ap_cont, Dv.ap_ifS, Dv.ap_asg, Dv.ap_par, Dv.ap_gnm, Dv.ap_gtup, Dv.ap_gcons, Dv.ap_gnil, Dv.ap_gsub, Dv.ap_var, Dv.ap_con, Dv.ap_op, Dv.ap_un, Dv.ap_chain, Dv.ap_and, Dv.ap_or, Dv.ap_not, Dv.ap_if, Dv.ap_test, Dv.ap_bAnd, Dv.ap_bOr, Dv.ap_bNot, Dv.ap_bTru, Dv.ap_bYes, Dv.ap_aNil, Dv.ap_aCons, Dv.ap_tup, Dv.ap_lst, Dv.ap_dct, Dv.ap_B, Dv.ap_call, Dv.ap_call0, Dv.ap_sl, Dv.ap_oNo, Dv.ap_oAt, Dv.ap_me, Dv.ap_me0, Dv.ap_for, Dv.ap_iTup, Dv.ap_iLst, Dv.ap_iStr, Dv.ap_raise0, Dv.ap_raise1, Dv.bind_ok, Dv.toS_ok, Dv.get_ok, Dv.noEx_ok, Dv.onG_some, Dv.then_nx, Dv.then_rt, Option.bind_some, List.set_cons_succ, List.set_cons_zero, List.getElem?_cons_zero, List.getElem?_cons_succ, Dv.dEq_ii, Dv.dEq_ss, Dv.dNe_ii, Dv.dNe_ss, Dv.dLt_ii, Dv.dLe_ii, Dv.dGt_ii, Dv.dGe_ii, Dv.dAddG_ii, Dv.dSub_ii, Dv.int1_i, Dv.abs_i, decide_true, decide_false, Bool.false_eq_true, if_true, if_false, Dv.env0, List.map_cons, List.map_nil, List.length_cons, List.length_nil, List.replicate, List.cons_append, List.nil_append, Nat.zero_add, Nat.reduceAdd, Nat.reduceSub, Dv.len_tup, Dv.len_str, Dv.ix_tup', Dv.tru_bl, Dv.dIsN_n, Dv.dNotN_n, Dv.seqOf_tup, Dv.setOf_tup, beq_self_eq_true, Dv.at0, Dv.at1, Dv.at2, Dv.at3, Dv.at4, Bool.not_true, Bool.not_false, Int.reduceEq, e1]),
    seq_nx (env' := [some (.scr ns), some (.cell n), some (.int turn), none, none, none, none]) (μ' := μ2) (by simp only [Dv.ap_seq, Dv.ap_next, Dv.ap_ret, Dv.ap_retN, Dv.ap_drop, Dv.ap_break, Dv.ap_cont, Dv.ap_ifS, Dv.ap_asg, Dv.ap_par, Dv.ap_gnm, Dv.ap_gtup, Dv.ap_gcons, Dv.ap_gnil, Dv.ap_gsub, Dv.ap_var, Dv.ap_con, Dv.ap_op, Dv.ap_un, Dv.ap_chain, Dv.ap_and, Dv.ap_or, Dv.ap_not, Dv.ap_if, Dv.ap_test, Dv.ap_bAnd, Dv.ap_bOr, Dv.ap_bNot, Dv.ap_bTru, Dv.ap_bYes, Dv.ap_aNil, Dv.ap_aCons, Dv.ap_tup, Dv.ap_lst, Dv.ap_dct, Dv.ap_B, Dv.ap_call, Dv.ap_call0, Dv.ap_sl, Dv.ap_oNo, Dv.ap_oAt, Dv.ap_me, Dv.ap_me0, Dv.ap_for, Dv.ap_iTup, Dv.ap_iLst, Dv.ap_iStr, Dv.ap_raise0, Dv.ap_raise1, Dv.bind_ok, Dv.toS_ok, Dv.get_ok, Dv.noEx_ok, Dv.onG_some, Dv.then_nx, Dv.then_rt, Option.bind_some, List.set_cons_succ, List.set_cons_zero, List.getElem?_cons_zero, List.getElem?_cons_succ, Dv.dEq_ii, Dv.dEq_ss, Dv.dNe_ii, Dv.dNe_ss, Dv.dLt_ii, Dv.dLe_ii, Dv.dGt_ii, Dv.dGe_ii, Dv.dAddG_ii, Dv.dSub_ii, Dv.int1_i, Dv.abs_i, decide_true, decide_false, Bool.false_eq_true, if_true, if_false, Dv.env0, List.map_cons, List.map_nil, List.length_cons, List.length_nil, List.replicate, List.cons_append, List.nil_append, Nat.zero_add, Nat.reduceAdd, Nat.reduceSub, Dv.len_tup, Dv.len_str, Dv.ix_tup', Dv.tru_bl, Dv.dIsN_n, Dv.dNotN_n, Dv.seqOf_tup, Dv.setOf_tup, beq_self_eq_true, Dv.at0, Dv.at1, Dv.at2, Dv.at3, Dv.at4, Bool.not_true, Bool.not_false, Int.reduceEq, e2]),
    seq_nx (env' := [some (.scr ns), some (.cell n), some (.int turn), some spec, none, none, none]) (μ' := μ3) (by simp only [Dv.ap_seq, Dv.ap_next, Dv.ap_ret, Dv.ap_retN, Dv.ap_drop, Dv.ap_break, Dv.ap_cont, Dv.ap_ifS, Dv.ap_asg, Dv.ap_par, Dv.ap_gnm, Dv.ap_gtup, Dv.ap_gcons, Dv.ap_gnil, Dv.ap_gsub, Dv.ap_var, Dv.ap_con, Dv.ap_op, Dv.ap_un, Dv.ap_chain, Dv.ap_and, Dv.ap_or, Dv.ap_not, Dv.ap_if, Dv.ap_test, Dv.ap_bAnd, Dv.ap_bOr, Dv.ap_bNot, Dv.ap_bTru, Dv.ap_bYes, Dv.ap_aNil, Dv.ap_aCons, Dv.ap_tup, Dv.ap_lst, Dv.ap_dct, Dv.ap_B, Dv.ap_call, Dv.ap_call0, Dv.ap_sl, Dv.ap_oNo, Dv.ap_oAt, Dv.ap_me, Dv.ap_me0, Dv.ap_for, Dv.ap_iTup, Dv.ap_iLst, Dv.ap_iStr, Dv.ap_raise0, Dv.ap_raise1, Dv.bind_ok, Dv.toS_ok, Dv.get_ok, Dv.noEx_ok, Dv.onG_some, Dv.then_nx, Dv.then_rt, Option.bind_some, List.set_cons_succ, List.set_cons_zero, List.getElem?_cons_zero, List.getElem?_cons_succ, Dv.dEq_ii, Dv.dEq_ss, Dv.dNe_ii, Dv.dNe_ss, Dv.dLt_ii, Dv.dLe_ii, Dv.dGt_ii, Dv.dGe_ii, Dv.dAddG_ii, Dv.dSub_ii, Dv.int1_i, Dv.abs_i, decide_true, decide_false, Bool.false_eq_true, if_true, if_false, Dv.env0, List.map_cons, List.map_nil, List.length_cons, List.length_nil, List.replicate, List.cons_append, List.nil_append, Nat.zero_add, Nat.reduceAdd, Nat.reduceSub, Dv.len_tup, Dv.len_str, Dv.ix_tup', Dv.tru_bl, Dv.dIsN_n, Dv.dNotN_n, Dv.seqOf_tup, Dv.setOf_tup, beq_self_eq_true, Dv.at0, Dv.at1, Dv.at2, Dv.at3, Dv.at4, Bool.not_true, Bool.not_false, Int.reduceEq, e3]),
    seq_nx (env' := [some (.scr ns), some (.cell n), some (.int turn), some spec, some spec, none, none]) (μ' := μ3) (by simp only [Dv.ap_seq, Dv.ap_next, Dv.ap_ret, Dv.ap_retN, Dv.ap_drop, Dv.ap_break, Dv.ap_cont, Dv.ap_ifS, Dv.ap_asg, Dv.ap_par, Dv.ap_gnm, Dv.ap_gtup, Dv.ap_gcons, Dv.ap_gnil, Dv.ap_gsub, Dv.ap_var, Dv.ap_con, Dv.ap_op, Dv.ap_un, Dv.ap_chain, Dv.ap_and, Dv.ap_or, Dv.ap_not, Dv.ap_if, Dv.ap_test, Dv.ap_bAnd, Dv.ap_bOr, Dv.ap_bNot, Dv.ap_bTru, Dv.ap_bYes, Dv.ap_aNil, Dv.ap_aCons, Dv.ap_tup, Dv.ap_lst, Dv.ap_dct, Dv.ap_B, Dv.ap_call, Dv.ap_call0, Dv.ap_sl, Dv.ap_oNo, Dv.ap_oAt, Dv.ap_me, Dv.ap_me0, Dv.ap_for, Dv.ap_iTup, Dv.ap_iLst, Dv.ap_iStr, Dv.ap_raise0, Dv.ap_raise1, Dv.bind_ok, Dv.toS_ok, Dv.get_ok, Dv.noEx_ok, Dv.onG_some, Dv.then_nx, Dv.then_rt, Option.bind_some, List.set_cons_succ, List.set_cons_zero, List.getElem?_cons_zero, List.getElem?_cons_succ, Dv.dEq_ii, Dv.dEq_ss, Dv.dNe_ii, Dv.dNe_ss, Dv.dLt_ii, Dv.dLe_ii, Dv.dGt_ii, Dv.dGe_ii, Dv.dAddG_ii, Dv.dSub_ii, Dv.int1_i, Dv.abs_i, decide_true, decide_false, Bool.false_eq_true, if_true, if_false, Dv.env0, List.map_cons, List.map_nil, List.length_cons, List.length_nil, List.replicate, List.cons_append, List.nil_append, Nat.zero_add, Nat.reduceAdd, Nat.reduceSub, Dv.len_tup, Dv.len_str, Dv.ix_tup', Dv.tru_bl, Dv.dIsN_n, Dv.dNotN_n, Dv.seqOf_tup, Dv.setOf_tup, beq_self_eq_true, Dv.at0, Dv.at1, Dv.at2, Dv.at3, Dv.at4, Bool.not_true, Bool.not_false, Int.reduceEq])]
  by_cases z : 0 < turn
  · obtain ⟨r, l, d, p, t, μ4, e4, gr, gl, gd, gp, gt, hh, N4⟩ := changed P3 hs
    rw [seq_nx (env' := [some (.scr ns), some (.cell n), some (.int turn), some spec, some (.tup [r, l, d, p, t]), none, none]) (μ' := μ4) (by simp only [Dv.ap_seq, Dv.ap_next, Dv.ap_ret, Dv.ap_retN, Dv.ap_drop, Dv.ap_break, Dv.ap_cont, Dv.ap_ifS, Dv.ap_asg, Dv.ap_par, Dv.ap_gnm, Dv.ap_gtup, Dv.ap_gcons, Dv.ap_gnil, Dv.ap_gsub, Dv.ap_var, Dv.ap_con, Dv.ap_op, Dv.ap_un, Dv.ap_chain, Dv.ap_and, Dv.ap_or, Dv.ap_not, Dv.ap_if, Dv.ap_test, Dv.ap_bAnd, Dv.ap_bOr, Dv.ap_bNot, Dv.ap_bTru, Dv.ap_bYes, Dv.ap_aNil, Dv.ap_aCons, Dv.ap_tup, Dv.ap_lst, Dv.ap_dct, Dv.ap_B, Dv.ap_call, Dv.ap_call0, Dv.ap_sl, Dv.ap_oNo, Dv.ap_oAt, Dv.ap_me, Dv.ap_me0, Dv.ap_for, Dv.ap_iTup, Dv.ap_iLst, Dv.ap_iStr, Dv.ap_raise0, Dv.ap_raise1, Dv.bind_ok, Dv.toS_ok, Dv.get_ok, Dv.noEx_ok, Dv.onG_some, Dv.then_nx, Dv.then_rt, Option.bind_some, List.set_cons_succ, List.set_cons_zero, List.getElem?_cons_zero, List.getElem?_cons_succ, Dv.dEq_ii, Dv.dEq_ss, Dv.dNe_ii, Dv.dNe_ss, Dv.dLt_ii, Dv.dLe_ii, Dv.dGt_ii, Dv.dGe_ii, Dv.dAddG_ii, Dv.dSub_ii, Dv.int1_i, Dv.abs_i, decide_true, decide_false, Bool.false_eq_true, if_true, if_false, Dv.env0, List.map_cons, List.map_nil, List.length_cons, List.length_nil, List.replicate, List.cons_append, List.nil_append, Nat.zero_add, Nat.reduceAdd, Nat.reduceSub, Dv.len_tup, Dv.len_str, Dv.ix_tup', Dv.tru_bl, Dv.dIsN_n, Dv.dNotN_n, Dv.seqOf_tup, Dv.setOf_tup, beq_self_eq_true, Dv.at0, Dv.at1, Dv.at2, Dv.at3, Dv.at4, Bool.not_true, Bool.not_false, Int.reduceEq, z, e4])]
    exact rest T hs gr gl gd gp gt hh
  · rw [seq_nx (env' := [some (.scr ns), some (.cell n), some (.int turn), some spec, some spec, none, none]) (μ' := μ3) (by simp only [Dv.ap_seq, Dv.ap_next, Dv.ap_ret, Dv.ap_retN, Dv.ap_drop, Dv.ap_break, Dv.ap_cont, Dv.ap_ifS, Dv.ap_asg, Dv.ap_par, Dv.ap_gnm, Dv.ap_gtup, Dv.ap_gcons, Dv.ap_gnil, Dv.ap_gsub, Dv.ap_var, Dv.ap_con, Dv.ap_op, Dv.ap_un, Dv.ap_chain, Dv.ap_and, Dv.ap_or, Dv.ap_not, Dv.ap_if, Dv.ap_test, Dv.ap_bAnd, Dv.ap_bOr, Dv.ap_bNot, Dv.ap_bTru, Dv.ap_bYes, Dv.ap_aNil, Dv.ap_aCons, Dv.ap_tup, Dv.ap_lst, Dv.ap_dct, Dv.ap_B, Dv.ap_call, Dv.ap_call0, Dv.ap_sl, Dv.ap_oNo, Dv.ap_oAt, Dv.ap_me, Dv.ap_me0, Dv.ap_for, Dv.ap_iTup, Dv.ap_iLst, Dv.ap_iStr, Dv.ap_raise0, Dv.ap_raise1, Dv.bind_ok, Dv.toS_ok, Dv.get_ok, Dv.noEx_ok, Dv.onG_some, Dv.then_nx, Dv.then_rt, Option.bind_some, List.set_cons_succ, List.set_cons_zero, List.getElem?_cons_zero, List.getElem?_cons_succ, Dv.dEq_ii, Dv.dEq_ss, Dv.dNe_ii, Dv.dNe_ss, Dv.dLt_ii, Dv.dLe_ii, Dv.dGt_ii, Dv.dGe_ii, Dv.dAddG_ii, Dv.dSub_ii, Dv.int1_i, Dv.abs_i, decide_true, decide_false, Bool.false_eq_true, if_true, if_false, Dv.env0, List.map_cons, List.map_nil, List.length_cons, List.length_nil, List.replicate, List.cons_append, List.nil_append, Nat.zero_add, Nat.reduceAdd, Nat.reduceSub, Dv.len_tup, Dv.len_str, Dv.ix_tup', Dv.tru_bl, Dv.dIsN_n, Dv.dNotN_n, Dv.seqOf_tup, Dv.setOf_tup, beq_self_eq_true, Dv.at0, Dv.at1, Dv.at2, Dv.at3, Dv.at4, Bool.not_true, Bool.not_false, Int.reduceEq, z])]
    obtain ⟨rows, letters, dl, p', items, e, r1, r6, hdl, hp, i1, i8, hit, hw⟩ := hs.ex
    have gp' : Good μ3 p' := by
      rcases hp with rfl | ⟨i, rfl⟩
      · exact .non
      · exact .int _
    have := rest (μ := μ3) (n := n) (s := .scr ns) (turn := .int turn) (spec := spec) (r := .int rows) (l := .int letters) (d := .tup (dl.map .int)) (p := p') (t := .tup items) T hs (.int _) (.int _) .ints gp' (.tup fun x hx => (hit x hx).good _) (fun xs e x hx => by cases e; exact (hit x hx).hd _)
    rw [← e] at this
    exact this
end Law

set_option maxRecDepth 100000
set_option maxHeartbeats 4000000
namespace Law
open PySem PySem.Spec PyProof.Rows L2 Dv
def top (i : Nat) : Stmt := PySem.Challenge.pw_wholewalks_k16_programs_judged.main.body.getD i (.Pass ⟨0, 0, 0, 0⟩)
structure Txt (P : Program) (K : PySem.W.Frag) (mg : Str → Option Value) (a : Adr) : Prop where
  «ValueError» : mg "ValueError" = none
  «abs» : mg "abs" = none
  «all» : mg "all" = none
  «bool» : mg "bool" = none
  «int» : mg "int" = none
  «isinstance» : mg "isinstance" = none
  «len» : mg "len" = none
  «list» : mg "list" = none
  «max» : mg "max" = none
  «range» : mg "range" = none
  «set» : mg "set" = none
  «sorted» : mg "sorted" = none
  «str» : mg "str" = none
  «tuple» : mg "tuple" = none
  g_WalkError : mg "WalkError" = some (.ref a.WalkError)
  g_Program : mg "Program" = some (.ref a.Program)
  c_Program : Cls K a.Program
  n_Program_rows : NoAttr K a.Program "rows"
  n_Program_letters : NoAttr K a.Program "letters"
  n_Program_dealing : NoAttr K a.Program "dealing"
  n_Program_depth : NoAttr K a.Program "depth"
  n_Program_table : NoAttr K a.Program "table"
  g_ALPHABET : ∃ t, mg "ALPHABET" = some (.str "abcdefghijklmnopqrstuvwxyz" t)
  g_MOST_ROWS : ∃ t, mg "MOST_ROWS" = some (.int 6 t)
  g_MOST_LETTERS : ∃ t, mg "MOST_LETTERS" = some (.int 3 t)
  g_MOST_DEPTH : ∃ t, mg "MOST_DEPTH" = some (.int 60 t)
  g_MOST_STANDINGS : ∃ t, mg "MOST_STANDINGS" = some (.int 20000 t)
abbrev s__law_dice : Stmt := top 27
abbrev s__law_draw : Stmt := top 28
abbrev s__law_shuffled : Stmt := top 29
abbrev s__law_dealing : Stmt := top 30
abbrev s__law_item : Stmt := top 31
abbrev s__law_program : Stmt := top 32
abbrev s__law_is_number : Stmt := top 33
abbrev s__law_is_dealing : Stmt := top 37
abbrev s__law_is_word : Stmt := top 35
abbrev s__law_are_nexts : Stmt := top 34
abbrev s__law_is_item : Stmt := top 36
abbrev s__law_wrong : Stmt := top 38
abbrev s__law_odd : Stmt := top 39
abbrev s__law_item_changed : Stmt := top 40
abbrev s__law_changed : Stmt := top 41
abbrev s_is_integer : Stmt := top 5
abbrev s_is_between : Stmt := top 6
abbrev s_is_tuple_of : Stmt := top 7
abbrev s_is_dealing : Stmt := top 9
abbrev s_is_depth : Stmt := top 23
abbrev s_is_table : Stmt := top 11
abbrev s_is_item : Stmt := top 12
abbrev s_is_nexts : Stmt := top 13
abbrev s_is_numbered : Stmt := top 14
abbrev s_is_leave : Stmt := top 25
abbrev s_is_word : Stmt := top 8
abbrev s_is_say : Stmt := top 15
abbrev s_is_stop : Stmt := top 16
abbrev s_is_program_table : Stmt := top 24
abbrev s_Program_M___init__ : Stmt := inClass (top 22) 0
abbrev s__law_refused : Stmt := top 42
abbrev s_law : Stmt := top 43
abbrev N__law_dice : List Str := ["script", "cell"]
abbrev N__law_draw : List Str := ["dice", "sides", "cell", "digit", "mixed"]
abbrev N__law_shuffled : List Str := ["dice", "items", "left", "k"]
abbrev N__law_dealing : List Str := ["dice", "rows", "found", "row", "names", "hand"]
abbrev N__law_item : List Str := ["dice", "rows", "letters", "hands", "size", "kind", "nexts", "k"]
abbrev N__law_program : List Str := ["dice", "most", "rows", "letters", "dealing", "depth", "size", "kinds", "table", "k", "kind"]
abbrev N__law_is_number : List Str := ["thing", "least", "most"]
abbrev N__law_is_dealing : List Str := ["thing", "rows", "hand"]
abbrev N__law_is_word : List Str := ["thing", "letter"]
abbrev N__law_are_nexts : List Str := ["thing", "letters", "many", "standing"]
abbrev N__law_is_item : List Str := ["thing", "dealing", "letters", "many"]
abbrev N__law_wrong : List Str := ["spec", "rows", "letters", "dealing", "depth", "table", "item"]
abbrev N__law_odd : List Str := ["dice", "near", "kind"]
abbrev N__law_item_changed : List Str := ["dice", "item", "kind", "wrongs", "words", "at", "nexts"]
abbrev N__law_changed : List Str := ["dice", "spec", "rows", "letters", "dealing", "depth", "table", "part", "at", "hands", "stops"]
abbrev N_is_integer : List Str := ["thing"]
abbrev N_is_between : List Str := ["low", "high", "thing"]
abbrev N_is_tuple_of : List Str := ["many", "thing"]
abbrev N_is_dealing : List Str := ["rows", "thing", "hand"]
abbrev N_is_depth : List Str := ["hands", "thing"]
abbrev N_is_table : List Str := ["most", "thing"]
abbrev N_is_item : List Str := ["kind", "size", "thing"]
abbrev N_is_nexts : List Str := ["letters", "many", "thing", "standing"]
abbrev N_is_numbered : List Str := ["kind", "below", "letters", "many", "thing"]
abbrev N_is_leave : List Str := ["hands", "many", "thing"]
abbrev N_is_word : List Str := ["thing"]
abbrev N_is_say : List Str := ["many", "thing"]
abbrev N_is_stop : List Str := ["thing"]
abbrev N_is_program_table : List Str := ["rows", "letters", "hands", "thing", "many", "item", "walks"]
abbrev N_Program_M___init__ : List Str := ["self", "rows", "letters", "dealing", "depth", "table", "hands"]
abbrev N__law_refused : List Str := ["spec", "told", "e"]
abbrev N_law : List Str := ["script", "dice", "turn", "spec", "told", "wrong", "due"]
section
variable {P : Program} {w : World} {K : PySem.W.Frag} {mg : Str → Option Value} {base : Heap} {a : Adr}
abbrev s_BadProgram_init : Stmt := inClass (top 2) 0
theorem sc_BadProgram_init : FnScope ["self", "part"] ["self", "part"] (defScope s_BadProgram_init) := ⟨rfl, rfl, rfl, by decide +kernel, rfl, by decide +kernel, by decide +kernel⟩
theorem ok_BadProgram_init {f : Addr} {fd : FuncData} (F : Fun K "__init__" "BadProgram.__init__" s_BadProgram_init f fd) : FnOk P w K mg base (L2.CX P w) 1 f fd ["self", "part"] (spX K "part") := by
  have S := sc_BadProgram_init
  refine F.okX S (fun vs H Q E h => by obtain ⟨_, _, _, rfl, _⟩ := h; rfl) (fun cdv A outer s H vs Q E hr h => ?_)
  obtain ⟨x, C, v, rfl, hx, hf, h1, q⟩ := h
  exact ⟨_, pss_one (ps_ost (pv 0) (pv 1)), v, rfl, .ref x, rfl, x, C, rfl, hx, hf, .inl ⟨h1, fun dx h2 h3 => q dx h2 h3⟩⟩
theorem sc__law_dice : FnScope N__law_dice ["script"] (defScope s__law_dice) := ⟨rfl, rfl, rfl, by decide +kernel, rfl, by decide +kernel, by decide +kernel⟩
theorem ok__law_dice {f : Addr} {fd : FuncData} (F : Fun K "_law_dice" "_law_dice" s__law_dice f fd) (T : Txt P K mg a) : FnOk P w K mg base (L2.CX P w) 1 f fd ["script"] (spD ⟨K, w, none⟩ 1 g__law_dice) := by
  have S := sc__law_dice
  refine F.okX S (fun vs H Q E h => spD_len h) (fun cdv A outer s H vs Q E hr h => ?_)
  exact ⟨_, (pss_one (ps_ret (pe_lst (pa_cons (pe_lc (own := [("cell", 1)]) (g := gName 1) rfl S.nd (oLstI (K := ⟨K, w, none⟩) rfl (pe_slice (oSl (K := ⟨K, w, none⟩) rfl) (pv 0) po_none (po_some pe_int))) (blkOk_by (own := [("cell", 1)]) (N := N__law_dice) (sc := defScope s__law_dice) (by decide +kernel)) (fun _ _ _ _ _ => (pg_name (i := 1) S.nd rfl (by first | exact Or.inl rfl | exact Or.inr rfl))) (fun _ _ _ _ _ => pts_nil) (fun _ _ _ _ _ => (by exact (pe_callB call_abs (by rfl) T.abs (by decide +kernel) (pa_cons (pe_callTy call_int1 (by rfl) T.int (by decide +kernel) (pa_cons (pv 1) pa_nil)) pa_nil))))) (pa_cons pe_int (pa_cons pe_int (pa_cons pe_int (pa_cons pe_int pa_nil)))))))),
    run_start (k := K) (w := w) (N := N__law_dice) (s := b__law_dice) (tsf_ret (tef_lst (taf_cons (tef_lc (vs := [1]) (tif_lst (tef_sl rs_G tef_var tof_no (tof_at tef_int))) tgf_name (own_name (by decide)) tbf_yes (tef_B rl_abs (taf_cons (tef_B rl_int1 (taf_cons tef_var taf_nil)) taf_nil))) (taf_cons tef_int (taf_cons tef_int (taf_cons tef_int (taf_cons tef_int taf_nil))))))) h (fun ds μ ρ vs H Q E _ _ _ q => q)⟩
theorem sc__law_draw : FnScope N__law_draw ["dice", "sides"] (defScope s__law_draw) := ⟨rfl, rfl, rfl, by decide +kernel, rfl, by decide +kernel, by decide +kernel⟩
theorem ok__law_draw {f : Addr} {fd : FuncData} (F : Fun K "_law_draw" "_law_draw" s__law_draw f fd) (T : Txt P K mg a) : FnOk P w K mg base (L2.CX P w) 1 f fd ["dice", "sides"] (spD ⟨K, w, none⟩ 2 g__law_draw) := by
  have S := sc__law_draw
  refine F.okX S (fun vs H Q E h => spD_len h) (fun cdv A outer s H vs Q E hr h => ?_)
  exact ⟨_, (pss_cons (ps_if (PW.pt (pw_and (pt_cmpR (oEq (K := ⟨K, w, none⟩) hr.units rfl) (pe_ix (oIx (K := ⟨K, w, none⟩) rfl) (pv 0) pe_int (fun _ _ => rfl)) pe_int (nomark _)) (pw_and1 (pt_cmpR op_lt (pe_ix (oIx (K := ⟨K, w, none⟩) rfl) (pv 0) pe_int (fun _ _ => rfl)) (pe_callB (oLen (K := ⟨K, w, none⟩) rfl rfl) (by rfl) T.len (by decide +kernel) (pa_cons (pe_ix (oIx (K := ⟨K, w, none⟩) rfl) (pv 0) pe_int (fun _ _ => rfl)) pa_nil)) (nomark _))))) (pss_cons (ps_set (i := 2) S.nd rfl (by first | exact Or.inl rfl | exact Or.inr rfl) (pe_ix (oIx (K := ⟨K, w, none⟩) rfl) (pe_ix (oIx (K := ⟨K, w, none⟩) rfl) (pv 0) pe_int (fun _ _ => rfl)) (pe_ix (oIx (K := ⟨K, w, none⟩) rfl) (pv 0) pe_int (fun _ _ => rfl)) (fun _ _ => rfl)))
        (pss_cons (ps_asg (pe_op (oAdd (K := ⟨K, w, none⟩) rfl) (pe_ix (oIx (K := ⟨K, w, none⟩) rfl) (pv 0) pe_int (fun _ _ => rfl)) pe_int) (pg_sub (pv 0) pe_int set_list))
        (pss_one (ps_if (pt_cmpR op_ge (pv 2) (pe_op op_pow pe_int pe_int) (nomark _)) (pss_one (ps_asg (pv 2) (pg_sub (pv 0) pe_int set_list))) (pss_one (ps_asg (pe_op op_modN (pe_callTy call_int1 (by rfl) T.int (by decide +kernel) (pa_cons (pe_op (oAdd (K := ⟨K, w, none⟩) rfl) (pe_op (oAdd (K := ⟨K, w, none⟩) rfl) (pe_op oMul (pe_ix (oIx (K := ⟨K, w, none⟩) rfl) (pv 0) pe_int (fun _ _ => rfl)) pe_int) (pe_op oMul (pv 2) pe_int)) (pe_ix (oIx (K := ⟨K, w, none⟩) rfl) (pv 0) pe_int (fun _ _ => rfl))) pa_nil)) pe_int) (pg_sub (pv 0) pe_int set_list))))))) pss_nil)
    (pss_cons (ps_if (pt_cmpR op_gt (pe_ix (oIx (K := ⟨K, w, none⟩) rfl) (pv 0) pe_int (fun _ _ => rfl)) pe_int (nomark _)) (pss_cons (ps_set (i := 3) S.nd rfl (by first | exact Or.inl rfl | exact Or.inr rfl) (pe_op op_modN (pe_callTy call_int1 (by rfl) T.int (by decide +kernel) (pa_cons (pe_ix (oIx (K := ⟨K, w, none⟩) rfl) (pv 0) pe_int (fun _ _ => rfl)) pa_nil)) (pv 1)))
        (pss_cons (ps_asg (pe_op op_fdivN (pe_callTy call_int1 (by rfl) T.int (by decide +kernel) (pa_cons (pe_ix (oIx (K := ⟨K, w, none⟩) rfl) (pv 0) pe_int (fun _ _ => rfl)) pa_nil)) (pv 1)) (pg_sub (pv 0) pe_int set_list))
        (pss_one (ps_ret (pv 3))))) pss_nil)
    (pss_cons (ps_asg (pe_op (oAdd (K := ⟨K, w, none⟩) rfl) (pe_ix (oIx (K := ⟨K, w, none⟩) rfl) (pv 0) pe_int (fun _ _ => rfl)) pe_int) (pg_sub (pv 0) pe_int set_list))
    (pss_cons (ps_asg (pe_op op_modN (pe_callTy call_int1 (by rfl) T.int (by decide +kernel) (pa_cons (pe_op (oAdd (K := ⟨K, w, none⟩) rfl) (pe_op (oAdd (K := ⟨K, w, none⟩) rfl) (pe_op oMul (pe_ix (oIx (K := ⟨K, w, none⟩) rfl) (pv 0) pe_int (fun _ _ => rfl)) pe_int) (pe_op oMul (pe_ix (oIx (K := ⟨K, w, none⟩) rfl) (pv 0) pe_int (fun _ _ => rfl)) pe_int)) pe_int) pa_nil)) pe_int) (pg_sub (pv 0) pe_int set_list))
    (pss_cons (ps_set (i := 4) S.nd rfl (by first | exact Or.inl rfl | exact Or.inr rfl) (pe_op op_modN (pe_callTy call_int1 (by rfl) T.int (by decide +kernel) (pa_cons (pe_op oMul (pe_ix (oIx (K := ⟨K, w, none⟩) rfl) (pv 0) pe_int (fun _ _ => rfl)) (pe_op (oAdd (K := ⟨K, w, none⟩) rfl) (pe_op op_fdivN (pe_ix (oIx (K := ⟨K, w, none⟩) rfl) (pv 0) pe_int (fun _ _ => rfl)) pe_int) pe_int)) pa_nil)) pe_int))
    (pss_cons (ps_set (i := 4) S.nd rfl (by first | exact Or.inl rfl | exact Or.inr rfl) (pe_op op_modN (pe_callTy call_int1 (by rfl) T.int (by decide +kernel) (pa_cons (pe_op oMul (pv 4) (pe_op (oAdd (K := ⟨K, w, none⟩) rfl) (pe_op op_fdivN (pv 4) pe_int) pe_int)) pa_nil)) pe_int))
    (pss_one (ps_ret (pe_op op_modN (pe_callTy call_int1 (by rfl) T.int (by decide +kernel) (pa_cons (pe_op op_fdivN (pv 4) pe_int) pa_nil)) (pv 1)))))))))),
    run_start (k := K) (w := w) (N := N__law_draw) (s := b__law_draw) (tsf_seq (tsf_if (tbf_and (tbf_test (tef_op r_eq (tef_op r_ix tef_var tef_int) tef_int)) (tbf_test (tef_op r_lt (tef_op r_ix tef_var tef_int) (tef_B rl_lenG (taf_cons (tef_op r_ix tef_var tef_int) taf_nil))))) (tsf_seq (tsf_asg (tef_op r_ix (tef_op r_ix tef_var tef_int) (tef_op r_ix tef_var tef_int)) tgf_name)
        (tsf_seq (tsf_asg (tef_op r_addG (tef_op r_ix tef_var tef_int) tef_int) (tgf_sub tef_var tef_int tst_list))
        (tsf_if (tbf_test (tef_op r_ge tef_var (tef_op r_pow tef_int tef_int))) (tsf_asg tef_var (tgf_sub tef_var tef_int tst_list)) (tsf_asg (tef_op r_mod (tef_B rl_int1 (taf_cons (tef_op r_addG (tef_op r_addG (tef_op r_mulG (tef_op r_ix tef_var tef_int) tef_int) (tef_op r_mulG tef_var tef_int)) (tef_op r_ix tef_var tef_int)) taf_nil)) tef_int) (tgf_sub tef_var tef_int tst_list))))) tsf_next)
    (tsf_seq (tsf_if (tbf_test (tef_op r_gt (tef_op r_ix tef_var tef_int) tef_int)) (tsf_seq (tsf_asg (tef_op r_mod (tef_B rl_int1 (taf_cons (tef_op r_ix tef_var tef_int) taf_nil)) tef_var) tgf_name)
        (tsf_seq (tsf_asg (tef_op r_fdiv (tef_B rl_int1 (taf_cons (tef_op r_ix tef_var tef_int) taf_nil)) tef_var) (tgf_sub tef_var tef_int tst_list))
        (tsf_ret tef_var))) tsf_next)
    (tsf_seq (tsf_asg (tef_op r_addG (tef_op r_ix tef_var tef_int) tef_int) (tgf_sub tef_var tef_int tst_list))
    (tsf_seq (tsf_asg (tef_op r_mod (tef_B rl_int1 (taf_cons (tef_op r_addG (tef_op r_addG (tef_op r_mulG (tef_op r_ix tef_var tef_int) tef_int) (tef_op r_mulG (tef_op r_ix tef_var tef_int) tef_int)) tef_int) taf_nil)) tef_int) (tgf_sub tef_var tef_int tst_list))
    (tsf_seq (tsf_asg (tef_op r_mod (tef_B rl_int1 (taf_cons (tef_op r_mulG (tef_op r_ix tef_var tef_int) (tef_op r_addG (tef_op r_fdiv (tef_op r_ix tef_var tef_int) tef_int) tef_int)) taf_nil)) tef_int) tgf_name)
    (tsf_seq (tsf_asg (tef_op r_mod (tef_B rl_int1 (taf_cons (tef_op r_mulG tef_var (tef_op r_addG (tef_op r_fdiv tef_var tef_int) tef_int)) taf_nil)) tef_int) tgf_name)
    (tsf_ret (tef_op r_mod (tef_B rl_int1 (taf_cons (tef_op r_fdiv tef_var tef_int) taf_nil)) tef_var)))))))) h (fun ds μ ρ vs H Q E _ _ _ q => q)⟩
theorem sc__law_shuffled : FnScope N__law_shuffled ["dice", "items"] (defScope s__law_shuffled) := ⟨rfl, rfl, rfl, by decide +kernel, rfl, by decide +kernel, by decide +kernel⟩
theorem ok__law_shuffled {f : Addr} {fd : FuncData} (F : Fun K "_law_shuffled" "_law_shuffled" s__law_shuffled f fd) (T : Txt P K mg a) (G__law_draw : DefOk P w K mg base "_law_draw" 1 ["dice", "sides"] (spD ⟨K, w, none⟩ 2 g__law_draw)) : FnOk P w K mg base (L2.CX P w) 2 f fd ["dice", "items"] (spD ⟨K, w, none⟩ 2 g__law_shuffled) := by
  have S := sc__law_shuffled
  refine F.okX S (fun vs H Q E h => spD_len h) (fun cdv A outer s H vs Q E hr h => ?_)
  exact ⟨_, (pss_cons (ps_set (i := 2) S.nd rfl (by first | exact Or.inl rfl | exact Or.inr rfl) (pe_callTy (oList (K := ⟨K, w, none⟩) rfl) (by rfl) T.list (by decide +kernel) (pa_cons (pv 1) pa_nil)))
    (pss_one (ps_ret (pe_callTy (oTuple (K := ⟨K, w, none⟩) rfl) (by rfl) T.tuple (by decide +kernel) (pa_cons (pe_lc (own := [("k", 3)]) (g := gName 3) rfl S.nd (pi_range1 rfl T.range (pa_cons (pe_callB (oLen (K := ⟨K, w, none⟩) rfl rfl) (by rfl) T.len (by decide +kernel) (pa_cons (pv 2) pa_nil)) pa_nil)) (blkOk_by (own := [("k", 3)]) (N := N__law_shuffled) (sc := defScope s__law_shuffled) (by decide +kernel)) (fun _ _ _ _ _ => (pg_name (i := 3) S.nd rfl (by first | exact Or.inl rfl | exact Or.inr rfl))) (fun _ _ _ _ _ => pts_nil) (fun _ _ _ _ _ => (by exact (oBm (K := ⟨K, w, none⟩) rfl (pe_bm PySem.F.plainAttrs_list PySem.F.slot_list_pop PySem.F.type_list_pop mt_popAt (pv 2) (pa_cons (pe_d G__law_draw hr (by rfl) (pa_cons (pv 0) (pa_cons (pe_callB (oLen (K := ⟨K, w, none⟩) rfl rfl) (by rfl) T.len (by decide +kernel) (pa_cons (pv 2) pa_nil)) pa_nil))) pa_nil)))))) pa_nil))))),
    run_start (k := K) (w := w) (N := N__law_shuffled) (s := b__law_shuffled) (tsf_seq (tsf_asg (tef_B rl_lstOf (taf_cons tef_var taf_nil)) tgf_name)
    (tsf_ret (tef_B rl_tupOf (taf_cons (tef_lc (vs := [3]) (tif_rng1 (taf_cons (tef_B rl_lenG (taf_cons tef_var taf_nil)) taf_nil)) tgf_name (own_name (by decide)) tbf_yes (tef_bm rm_popAt tef_var (taf_cons (tef_call0 (taf_cons tef_var (taf_cons (tef_B rl_lenG (taf_cons tef_var taf_nil)) taf_nil))) taf_nil))) taf_nil)))) h (fun ds μ ρ vs H Q E _ _ _ q => q)⟩
theorem sc__law_dealing : FnScope N__law_dealing ["dice", "rows"] (defScope s__law_dealing) := ⟨rfl, rfl, rfl, by decide +kernel, rfl, by decide +kernel, by decide +kernel⟩
theorem ok__law_dealing {f : Addr} {fd : FuncData} (F : Fun K "_law_dealing" "_law_dealing" s__law_dealing f fd) (T : Txt P K mg a) (G__law_shuffled : DefOk P w K mg base "_law_shuffled" 2 ["dice", "items"] (spD ⟨K, w, none⟩ 2 g__law_shuffled)) (G__law_draw : DefOk P w K mg base "_law_draw" 1 ["dice", "sides"] (spD ⟨K, w, none⟩ 2 g__law_draw)) : FnOk P w K mg base (L2.CX P w) 3 f fd ["dice", "rows"] (spD ⟨K, w, none⟩ 2 g__law_dealing) := by
  have S := sc__law_dealing
  refine F.okX S (fun vs H Q E h => spD_len h) (fun cdv A outer s H vs Q E hr h => ?_)
  exact ⟨_, (pss_cons (ps_set (i := 2) S.nd rfl (by first | exact Or.inl rfl | exact Or.inr rfl) (pe_lst pa_nil))
    (pss_cons (ps_for (passes_of rfl) rfl (pi_range1 rfl T.range (pa_cons (pv 1) pa_nil)) (pg_name (i := 3) S.nd rfl (by first | exact Or.inl rfl | exact Or.inr rfl)) (pss_one (ps_expr (oBm (K := ⟨K, w, none⟩) rfl (pe_bm PySem.F.plainAttrs_list PySem.F.slot_list_append PySem.F.type_list_append mt_append (pv 2) (pa_cons (pe_dX (takes_of rfl rfl rfl rfl) G__law_draw hr (by rfl) (pa_cons (pv 0) (pa_cons (pe_op (oAdd (K := ⟨K, w, none⟩) rfl) pe_int (pe_callB (oLen (K := ⟨K, w, none⟩) rfl rfl) (by rfl) T.len (by decide +kernel) (pa_cons (pe_lc (own := [("hand", 5)]) (g := gName 5) rfl S.nd (pi_range1 rfl T.range (pa_cons (pv 1) pa_nil)) (blkOk_by (own := [("hand", 5)]) (N := N__law_dealing) (sc := defScope s__law_dealing) (by decide +kernel)) (fun _ _ _ _ _ => (pg_name (i := 5) S.nd rfl (by first | exact Or.inl rfl | exact Or.inr rfl))) (fun _ _ _ _ _ => (pts_one (pt_cmpR (oIn (K := ⟨K, w, none⟩) rfl) (pv 5) (pv 2) (by rfl)))) (fun _ _ _ _ _ => (by exact (pv 5)))) pa_nil))) pa_nil))) pa_nil))))))
    (pss_cons (ps_set (i := 4) S.nd rfl (by first | exact Or.inl rfl | exact Or.inr rfl) (pe_dX (takes_of rfl rfl rfl rfl) G__law_shuffled hr (by rfl) (pa_cons (pv 0) (pa_cons (pe_listRg rfl rfl T.list (prg_1 rfl T.range (pe_op (oAdd (K := ⟨K, w, none⟩) rfl) pe_int (pe_callB (oMax (K := ⟨K, w, none⟩) rfl hr.units rfl) (by rfl) T.max (by decide +kernel) (pa_cons (pv 2) pa_nil))))) pa_nil))))
    (pss_one (ps_ret (pe_callTy (oTuple (K := ⟨K, w, none⟩) rfl) (by rfl) T.tuple (by decide +kernel) (pa_cons (pe_lc (own := [("hand", 5)]) (g := gName 5) rfl S.nd (oLstI (K := ⟨K, w, none⟩) rfl (pv 2)) (blkOk_by (own := [("hand", 5)]) (N := N__law_dealing) (sc := defScope s__law_dealing) (by decide +kernel)) (fun _ _ _ _ _ => (pg_name (i := 5) S.nd rfl (by first | exact Or.inl rfl | exact Or.inr rfl))) (fun _ _ _ _ _ => pts_nil) (fun _ _ _ _ _ => (by exact (pe_ix (oIx (K := ⟨K, w, none⟩) rfl) (pv 4) (pv 5) (fun _ _ => rfl))))) pa_nil))))))),
    run_start (k := K) (w := w) (N := N__law_dealing) (s := b__law_dealing) (tsf_seq (tsf_asg (tef_lst taf_nil) tgf_name)
    (tsf_seq (tsf_for (tif_rng1 (taf_cons tef_var taf_nil)) tgf_name (tsf_drop (tef_bm rm_append tef_var (taf_cons (tef_call (taf_cons tef_var (taf_cons (tef_op r_addG tef_int (tef_B rl_lenG (taf_cons (tef_lc (vs := [5]) (tif_rng1 (taf_cons tef_var taf_nil)) tgf_name (own_name (by decide)) (tbf_test (tef_op r_inG tef_var tef_var)) tef_var) taf_nil))) taf_nil))) taf_nil))))
    (tsf_seq (tsf_asg (tef_call (taf_cons tef_var (taf_cons (tef_lstRg1 (tef_op r_addG tef_int (tef_B rl_maxG (taf_cons tef_var taf_nil)))) taf_nil))) tgf_name)
    (tsf_ret (tef_B rl_tupOf (taf_cons (tef_lc (vs := [5]) (tif_lst tef_var) tgf_name (own_name (by decide)) tbf_yes (tef_op r_ix tef_var tef_var)) taf_nil)))))) h (fun ds μ ρ vs H Q E _ _ _ q => q)⟩
theorem sc__law_item : FnScope N__law_item ["dice", "rows", "letters", "hands", "size", "kind"] (defScope s__law_item) := ⟨rfl, rfl, rfl, by decide +kernel, rfl, by decide +kernel, by decide +kernel⟩
theorem ok__law_item {f : Addr} {fd : FuncData} (F : Fun K "_law_item" "_law_item" s__law_item f fd) (T : Txt P K mg a) (G__law_draw : DefOk P w K mg base "_law_draw" 1 ["dice", "sides"] (spD ⟨K, w, none⟩ 2 g__law_draw)) : FnOk P w K mg base (L2.CX P w) 2 f fd ["dice", "rows", "letters", "hands", "size", "kind"] (spD ⟨K, w, none⟩ 6 g__law_item) := by
  have S := sc__law_item
  refine F.okX S (fun vs H Q E h => spD_len h) (fun cdv A outer s H vs Q E hr h => ?_)
  exact ⟨_, (pss_cons (ps_set (i := 6) S.nd rfl (by first | exact Or.inl rfl | exact Or.inr rfl) (pe_callTy (oTuple (K := ⟨K, w, none⟩) rfl) (by rfl) T.tuple (by decide +kernel) (pa_cons (pe_lc (own := [("k", 7)]) (g := gName 7) rfl S.nd (pi_range1 rfl T.range (pa_cons (pe_op (oAdd (K := ⟨K, w, none⟩) rfl) (pv 2) pe_int) pa_nil)) (blkOk_by (own := [("k", 7)]) (N := N__law_item) (sc := defScope s__law_item) (by decide +kernel)) (fun _ _ _ _ _ => (pg_name (i := 7) S.nd rfl (by first | exact Or.inl rfl | exact Or.inr rfl))) (fun _ _ _ _ _ => pts_nil) (fun _ _ _ _ _ => (by exact (pe_d G__law_draw hr (by rfl) (pa_cons (pv 0) (pa_cons (pv 4) pa_nil)))))) pa_nil)))
    (pss_cons (ps_if (pt_cmpR op_lt (pv 5) pe_int (nomark _)) (pss_one (ps_ret (pe_tup (pa_cons pe_str (pa_cons (pe_dX (takes_of rfl rfl rfl rfl) G__law_draw hr (by rfl) (pa_cons (pv 0) (pa_cons (pv 1) pa_nil))) (pa_cons (pv 6) pa_nil)))))) pss_nil)
    (pss_cons (ps_if (pt_cmpR op_lt (pv 5) pe_int (nomark _)) (pss_one (ps_ret (pe_tup (pa_cons pe_str (pa_cons (pe_dX (takes_of rfl rfl rfl rfl) G__law_draw hr (by rfl) (pa_cons (pv 0) (pa_cons (pv 3) pa_nil))) (pa_cons (pv 6) pa_nil)))))) pss_nil)
    (pss_cons (ps_if (pt_cmpR op_lt (pv 5) pe_int (nomark _)) (pss_one (ps_ret (pe_tup (pa_cons pe_str (pa_cons (pe_dX (takes_of rfl rfl rfl rfl) G__law_draw hr (by rfl) (pa_cons (pv 0) (pa_cons (pv 3) pa_nil))) (pa_cons (pe_ix (oIx (K := ⟨K, w, none⟩) rfl) (pv 6) pe_int (fun _ _ => rfl)) pa_nil)))))) pss_nil)
    (pss_cons (ps_if (pt_cmpR (oEq (K := ⟨K, w, none⟩) hr.units rfl) (pv 5) pe_int (nomark _)) (pss_one (ps_ret (pe_tup (pa_cons pe_str (pa_cons (pe_ix (oIx (K := ⟨K, w, none⟩) rfl) (pe_lst (pa_cons pe_str (pa_cons pe_str (pa_cons pe_str pa_nil)))) (pe_dX (takes_of rfl rfl rfl rfl) G__law_draw hr (by rfl) (pa_cons (pv 0) (pa_cons pe_int pa_nil))) (fun _ _ => rfl)) (pa_cons (pe_ix (oIx (K := ⟨K, w, none⟩) rfl) (pv 6) pe_int (fun _ _ => rfl)) pa_nil)))))) pss_nil)
    (pss_one (ps_ret (pe_tup (pa_cons pe_str pa_nil))))))))),
    run_start (k := K) (w := w) (N := N__law_item) (s := b__law_item) (tsf_seq (tsf_asg (tef_B rl_tupOf (taf_cons (tef_lc (vs := [7]) (tif_rng1 (taf_cons (tef_op r_addG tef_var tef_int) taf_nil)) tgf_name (own_name (by decide)) tbf_yes (tef_call0 (taf_cons tef_var (taf_cons tef_var taf_nil)))) taf_nil)) tgf_name)
    (tsf_seq (tsf_if (tbf_test (tef_op r_lt tef_var tef_int)) (tsf_ret (tef_tup (taf_cons tef_str (taf_cons (tef_call (taf_cons tef_var (taf_cons tef_var taf_nil))) (taf_cons tef_var taf_nil))))) tsf_next)
    (tsf_seq (tsf_if (tbf_test (tef_op r_lt tef_var tef_int)) (tsf_ret (tef_tup (taf_cons tef_str (taf_cons (tef_call (taf_cons tef_var (taf_cons tef_var taf_nil))) (taf_cons tef_var taf_nil))))) tsf_next)
    (tsf_seq (tsf_if (tbf_test (tef_op r_lt tef_var tef_int)) (tsf_ret (tef_tup (taf_cons tef_str (taf_cons (tef_call (taf_cons tef_var (taf_cons tef_var taf_nil))) (taf_cons (tef_op r_ix tef_var tef_int) taf_nil))))) tsf_next)
    (tsf_seq (tsf_if (tbf_test (tef_op r_eq tef_var tef_int)) (tsf_ret (tef_tup (taf_cons tef_str (taf_cons (tef_op r_ix (tef_lst (taf_cons tef_str (taf_cons tef_str (taf_cons tef_str taf_nil)))) (tef_call (taf_cons tef_var (taf_cons tef_int taf_nil)))) (taf_cons (tef_op r_ix tef_var tef_int) taf_nil))))) tsf_next)
    (tsf_ret (tef_tup (taf_cons tef_str taf_nil)))))))) h (fun ds μ ρ vs H Q E _ _ _ q => q)⟩
theorem sc__law_program : FnScope N__law_program ["dice", "most"] (defScope s__law_program) := ⟨rfl, rfl, rfl, by decide +kernel, rfl, by decide +kernel, by decide +kernel⟩
theorem ok__law_program {f : Addr} {fd : FuncData} (F : Fun K "_law_program" "_law_program" s__law_program f fd) (T : Txt P K mg a) (G__law_dealing : DefOk P w K mg base "_law_dealing" 3 ["dice", "rows"] (spD ⟨K, w, none⟩ 2 g__law_dealing)) (G__law_draw : DefOk P w K mg base "_law_draw" 1 ["dice", "sides"] (spD ⟨K, w, none⟩ 2 g__law_draw)) (G__law_item : DefOk P w K mg base "_law_item" 2 ["dice", "rows", "letters", "hands", "size", "kind"] (spD ⟨K, w, none⟩ 6 g__law_item)) : FnOk P w K mg base (L2.CX P w) 4 f fd ["dice", "most"] (spD ⟨K, w, none⟩ 2 g__law_program) := by
  have S := sc__law_program
  refine F.okX S (fun vs H Q E h => spD_len h) (fun cdv A outer s H vs Q E hr h => ?_)
  exact ⟨_, (pss_cons (ps_set (i := 2) S.nd rfl (by first | exact Or.inl rfl | exact Or.inr rfl) (pe_op (oAdd (K := ⟨K, w, none⟩) rfl) pe_int (pe_dX (takes_of rfl rfl rfl rfl) G__law_draw hr (by rfl) (pa_cons (pv 0) (pa_cons pe_int pa_nil)))))
    (pss_cons (ps_set (i := 3) S.nd rfl (by first | exact Or.inl rfl | exact Or.inr rfl) (pe_op (oAdd (K := ⟨K, w, none⟩) rfl) pe_int (pe_dX (takes_of rfl rfl rfl rfl) G__law_draw hr (by rfl) (pa_cons (pv 0) (pa_cons pe_int pa_nil)))))
    (pss_cons (ps_set (i := 4) S.nd rfl (by first | exact Or.inl rfl | exact Or.inr rfl) (pe_dX (takes_of rfl rfl rfl rfl) G__law_dealing hr (by rfl) (pa_cons (pv 0) (pa_cons (pv 2) pa_nil))))
    (pss_cons (ps_set (i := 5) S.nd rfl (by first | exact Or.inl rfl | exact Or.inr rfl) (pe_op (oAdd (K := ⟨K, w, none⟩) rfl) pe_int (pe_dX (takes_of rfl rfl rfl rfl) G__law_draw hr (by rfl) (pa_cons (pv 0) (pa_cons pe_int pa_nil)))))
    (pss_cons (ps_if (PW.pt (pw_and (pt_cmpR (oEq (K := ⟨K, w, none⟩) hr.units rfl) (pe_callB (oMax (K := ⟨K, w, none⟩) rfl hr.units rfl) (by rfl) T.max (by decide +kernel) (pa_cons (pv 4) pa_nil)) pe_int (nomark _)) (pw_and1 (pt_cmpR (oEq (K := ⟨K, w, none⟩) hr.units rfl) (pe_dX (takes_of rfl rfl rfl rfl) G__law_draw hr (by rfl) (pa_cons (pv 0) (pa_cons pe_int pa_nil))) pe_int (nomark _))))) (pss_one (ps_set (i := 5) S.nd rfl (by first | exact Or.inl rfl | exact Or.inr rfl) pe_non)) pss_nil)
    (pss_cons (ps_set (i := 6) S.nd rfl (by first | exact Or.inl rfl | exact Or.inr rfl) (pe_op (oAdd (K := ⟨K, w, none⟩) rfl) pe_int (pe_dX (takes_of rfl rfl rfl rfl) G__law_draw hr (by rfl) (pa_cons (pv 0) (pa_cons (pv 1) pa_nil)))))
    (pss_cons (ps_setLc (i := 7) (own := [("k", 9)]) (g := gName 9) rfl S.nd rfl rfl (sw_true rfl rfl rfl (by decide +kernel)) (pi_range1 rfl T.range (pa_cons (pv 6) pa_nil)) (blkOk_by (own := [("k", 9)]) (N := N__law_program) (sc := defScope s__law_program) (by decide +kernel)) (fun _ _ _ _ _ => (pg_name (i := 9) S.nd rfl (by first | exact Or.inl rfl | exact Or.inr rfl))) (fun _ _ _ _ _ => pts_nil) (fun _ _ _ _ _ => (by exact (pe_d G__law_draw hr (by rfl) (pa_cons (pv 0) (pa_cons pe_int pa_nil))))))
    (pss_cons (ps_if (pt_cmpR op_gt (pe_dX (takes_of rfl rfl rfl rfl) G__law_draw hr (by rfl) (pa_cons (pv 0) (pa_cons pe_int pa_nil))) pe_int (nomark _)) (pss_one (ps_asg pe_int (pg_sub (pv 7) pe_int set_list))) pss_nil)
    (pss_cons (ps_setLc (i := 8) (own := [("kind", 10)]) (g := gName 10) rfl S.nd rfl rfl (sw_true rfl rfl rfl (by decide +kernel)) (oLstI (K := ⟨K, w, none⟩) rfl (pv 7)) (blkOk_by (own := [("kind", 10)]) (N := N__law_program) (sc := defScope s__law_program) (by decide +kernel)) (fun _ _ _ _ _ => (pg_name (i := 10) S.nd rfl (by first | exact Or.inl rfl | exact Or.inr rfl))) (fun _ _ _ _ _ => pts_nil) (fun _ _ _ _ _ => (by exact (pe_d G__law_item hr (by rfl) (pa_cons (pv 0) (pa_cons (pv 2) (pa_cons (pv 3) (pa_cons (pe_op (oAdd (K := ⟨K, w, none⟩) rfl) (pe_callB (oMax (K := ⟨K, w, none⟩) rfl hr.units rfl) (by rfl) T.max (by decide +kernel) (pa_cons (pv 4) pa_nil)) pe_int) (pa_cons (pv 6) (pa_cons (pv 10) pa_nil))))))))))
    (pss_one (ps_ret (pe_tup (pa_cons (pv 2) (pa_cons (pv 3) (pa_cons (pv 4) (pa_cons (pv 5) (pa_cons (pe_callTy (oTuple (K := ⟨K, w, none⟩) rfl) (by rfl) T.tuple (by decide +kernel) (pa_cons (pv 8) pa_nil)) pa_nil))))))))))))))))),
    run_start (k := K) (w := w) (N := N__law_program) (s := b__law_program) (tsf_seq (tsf_asg (tef_op r_addG tef_int (tef_call (taf_cons tef_var (taf_cons tef_int taf_nil)))) tgf_name)
    (tsf_seq (tsf_asg (tef_op r_addG tef_int (tef_call (taf_cons tef_var (taf_cons tef_int taf_nil)))) tgf_name)
    (tsf_seq (tsf_asg (tef_call (taf_cons tef_var (taf_cons tef_var taf_nil))) tgf_name)
    (tsf_seq (tsf_asg (tef_op r_addG tef_int (tef_call (taf_cons tef_var (taf_cons tef_int taf_nil)))) tgf_name)
    (tsf_seq (tsf_if (tbf_and (tbf_test (tef_op r_eq (tef_B rl_maxG (taf_cons tef_var taf_nil)) tef_int)) (tbf_test (tef_op r_eq (tef_call (taf_cons tef_var (taf_cons tef_int taf_nil))) tef_int))) (tsf_asg tef_non tgf_name) tsf_next)
    (tsf_seq (tsf_asg (tef_op r_addG tef_int (tef_call (taf_cons tef_var (taf_cons tef_var taf_nil)))) tgf_name)
    (tsf_seq (tsf_asg (tef_lc (vs := [9]) (tif_rng1 (taf_cons tef_var taf_nil)) tgf_name (own_name (by decide)) tbf_yes (tef_call0 (taf_cons tef_var (taf_cons tef_int taf_nil)))) tgf_name)
    (tsf_seq (tsf_if (tbf_test (tef_op r_gt (tef_call (taf_cons tef_var (taf_cons tef_int taf_nil))) tef_int)) (tsf_asg tef_int (tgf_sub tef_var tef_int tst_list)) tsf_next)
    (tsf_seq (tsf_asg (tef_lc (vs := [10]) (tif_lst tef_var) tgf_name (own_name (by decide)) tbf_yes (tef_call0 (taf_cons tef_var (taf_cons tef_var (taf_cons tef_var (taf_cons (tef_op r_addG (tef_B rl_maxG (taf_cons tef_var taf_nil)) tef_int) (taf_cons tef_var (taf_cons tef_var taf_nil)))))))) tgf_name)
    (tsf_ret (tef_tup (taf_cons tef_var (taf_cons tef_var (taf_cons tef_var (taf_cons tef_var (taf_cons (tef_B rl_tupOf (taf_cons tef_var taf_nil)) taf_nil)))))))))))))))) h (fun ds μ ρ vs H Q E _ _ _ q => q)⟩
theorem sc__law_is_number : FnScope N__law_is_number ["thing", "least", "most"] (defScope s__law_is_number) := ⟨rfl, rfl, rfl, by decide +kernel, rfl, by decide +kernel, by decide +kernel⟩
theorem ok__law_is_number {f : Addr} {fd : FuncData} (F : Fun K "_law_is_number" "_law_is_number" s__law_is_number f fd) (T : Txt P K mg a) : FnOk P w K mg base (L2.CX P w) 1 f fd ["thing", "least", "most"] (spD ⟨K, w, none⟩ 3 g__law_is_number) := by
  have S := sc__law_is_number
  refine F.okX S (fun vs H Q E h => spD_len h) (fun cdv A outer s H vs Q E hr h => ?_)
  exact ⟨_, (pss_one (ps_ret (pe_and (pe_callB (oIsi (K := ⟨K, w, none⟩) rfl) (by rfl) T.isinstance (by decide +kernel) (pa_cons (pv 0) (pa_cons (pe_bltn (v := .ty "int") (by rfl) T.int (by decide +kernel) rfl) pa_nil))) (pe_and (pe_not (pe_callB (oIsi (K := ⟨K, w, none⟩) rfl) (by rfl) T.isinstance (by decide +kernel) (pa_cons (pv 0) (pa_cons (pe_bltn (v := .ty "bool") (by rfl) T.bool (by decide +kernel) rfl) pa_nil)))) (pe_one (pe_chain op_le op_le (pv 1) (pv 0) (pv 2))))))),
    run_start (k := K) (w := w) (N := N__law_is_number) (s := b__law_is_number) (tsf_ret (tef_and (tef_B rl_isi (taf_cons tef_var (taf_cons (tef_con fun _ _ => .ty "int") taf_nil))) (tef_and (tef_not (tef_B rl_isi (taf_cons tef_var (taf_cons (tef_con fun _ _ => .ty "bool") taf_nil)))) (tef_chain r_le r_le tef_var tef_var tef_var)))) h (fun ds μ ρ vs H Q E _ _ _ q => q)⟩
theorem sc__law_is_dealing : FnScope N__law_is_dealing ["thing", "rows"] (defScope s__law_is_dealing) := ⟨rfl, rfl, rfl, by decide +kernel, rfl, by decide +kernel, by decide +kernel⟩
theorem ok__law_is_dealing {f : Addr} {fd : FuncData} (F : Fun K "_law_is_dealing" "_law_is_dealing" s__law_is_dealing f fd) (T : Txt P K mg a) (G__law_is_number : DefOk P w K mg base "_law_is_number" 1 ["thing", "least", "most"] (spD ⟨K, w, none⟩ 3 g__law_is_number)) : FnOk P w K mg base (L2.CX P w) 2 f fd ["thing", "rows"] (spD ⟨K, w, none⟩ 2 g__law_is_dealing) := by
  have S := sc__law_is_dealing
  refine F.okX S (fun vs H Q E h => spD_len h) (fun cdv A outer s H vs Q E hr h => ?_)
  exact ⟨_, (pss_cons (ps_if (PW.pt (pw_or (pt_not (oTru (K := ⟨K, w, none⟩) rfl (pe_callB (oIsi (K := ⟨K, w, none⟩) rfl) (by rfl) T.isinstance (by decide +kernel) (pa_cons (pv 0) (pa_cons (pe_bltn (v := .ty "tuple") (by rfl) T.tuple (by decide +kernel) rfl) pa_nil))) (by intro _; rfl))) (pw_or1 (pt_cmpR (oNe (K := ⟨K, w, none⟩) hr.units rfl) (pe_callB (oLen (K := ⟨K, w, none⟩) rfl rfl) (by rfl) T.len (by decide +kernel) (pa_cons (pv 0) pa_nil)) (pv 1) (nomark _))))) (pss_one (ps_ret pe_bl)) pss_nil)
    (pss_cons (ps_if (pt_not (oTru (K := ⟨K, w, none⟩) rfl (pe_callB (oAll (K := ⟨K, w, none⟩) rfl rfl) (by rfl) T.all (by decide +kernel) (pa_cons (pe_lc (own := [("hand", 2)]) (g := gName 2) rfl S.nd (oTupI (K := ⟨K, w, none⟩) rfl (pv 0)) (blkOk_by (own := [("hand", 2)]) (N := N__law_is_dealing) (sc := defScope s__law_is_dealing) (by decide +kernel)) (fun _ _ _ _ _ => (pg_name (i := 2) S.nd rfl (by first | exact Or.inl rfl | exact Or.inr rfl))) (fun _ _ _ _ _ => pts_nil) (fun _ _ _ _ _ => (by exact (pe_d G__law_is_number hr (by rfl) (pa_cons (pv 2) (pa_cons pe_int (pa_cons (pe_op op_sub (pv 1) pe_int) pa_nil))))))) pa_nil)) (by intro _; rfl))) (pss_one (ps_ret pe_bl)) pss_nil)
    (pss_one (ps_ret (pe_cmpR (oEq (K := ⟨K, w, none⟩) hr.units rfl) (pe_callB (oSorted (K := ⟨K, w, none⟩) rfl rfl rfl) (by rfl) T.sorted (by decide +kernel) (pa_cons (pe_callTy (oSet (K := ⟨K, w, none⟩) rfl rfl rfl) (by rfl) T.set (by decide +kernel) (pa_cons (pv 0) pa_nil)) pa_nil)) (pe_listRg rfl rfl T.list (prg_1 rfl T.range (pe_op (oAdd (K := ⟨K, w, none⟩) rfl) pe_int (pe_callB (oMax (K := ⟨K, w, none⟩) rfl hr.units rfl) (by rfl) T.max (by decide +kernel) (pa_cons (pv 0) pa_nil))))) (nomark _)))))),
    run_start (k := K) (w := w) (N := N__law_is_dealing) (s := b__law_is_dealing) (tsf_seq (tsf_if (tbf_or (tbf_not (tbf_tru (tef_B rl_isi (taf_cons tef_var (taf_cons (tef_con fun _ _ => .ty "tuple") taf_nil))))) (tbf_test (tef_op r_ne (tef_B rl_lenG (taf_cons tef_var taf_nil)) tef_var))) (tsf_ret tef_bl) tsf_next)
    (tsf_seq (tsf_if (tbf_not (tbf_tru (tef_B rl_all (taf_cons (tef_lc (vs := [2]) (tif_tup tef_var) tgf_name (own_name (by decide)) tbf_yes (tef_call0 (taf_cons tef_var (taf_cons tef_int (taf_cons (tef_op r_sub tef_var tef_int) taf_nil))))) taf_nil)))) (tsf_ret tef_bl) tsf_next)
    (tsf_ret (tef_op r_eq (tef_B rl_sortG (taf_cons (tef_B rl_setT (taf_cons tef_var taf_nil)) taf_nil)) (tef_lstRg1 (tef_op r_addG tef_int (tef_B rl_maxG (taf_cons tef_var taf_nil)))))))) h (fun ds μ ρ vs H Q E _ _ _ q => q)⟩
theorem sc__law_is_word : FnScope N__law_is_word ["thing"] (defScope s__law_is_word) := ⟨rfl, rfl, rfl, by decide +kernel, rfl, by decide +kernel, by decide +kernel⟩
theorem ok__law_is_word {f : Addr} {fd : FuncData} (F : Fun K "_law_is_word" "_law_is_word" s__law_is_word f fd) (T : Txt P K mg a) : FnOk P w K mg base (L2.CX P w) 1 f fd ["thing"] (spD ⟨K, w, none⟩ 1 g__law_is_word) := by
  have S := sc__law_is_word
  refine F.okX S (fun vs H Q E h => spD_len h) (fun cdv A outer s H vs Q E hr h => ?_)
  exact ⟨_, (pss_cons (ps_if (PW.pt (pw_or (pt_not (oTru (K := ⟨K, w, none⟩) rfl (pe_callB (oIsi (K := ⟨K, w, none⟩) rfl) (by rfl) T.isinstance (by decide +kernel) (pa_cons (pv 0) (pa_cons (pe_bltn (v := .ty "str") (by rfl) T.str (by decide +kernel) rfl) pa_nil))) (by intro _; rfl))) (pw_or1 (pt_not (pt_chain op_le op_le pe_int (pe_callB (oLen (K := ⟨K, w, none⟩) rfl rfl) (by rfl) T.len (by decide +kernel) (pa_cons (pv 0) pa_nil)) pe_int))))) (pss_one (ps_ret pe_bl)) pss_nil)
    (pss_one (ps_ret (pe_callB (oAll (K := ⟨K, w, none⟩) rfl rfl) (by rfl) T.all (by decide +kernel) (pa_cons (pe_lc (own := [("letter", 1)]) (g := gName 1) rfl S.nd (pi_str (pv 0)) (blkOk_by (own := [("letter", 1)]) (N := N__law_is_word) (sc := defScope s__law_is_word) (by decide +kernel)) (fun _ _ _ _ _ => (pg_name (i := 1) S.nd rfl (by first | exact Or.inl rfl | exact Or.inr rfl))) (fun _ _ _ _ _ => pts_nil) (fun _ _ _ _ _ => (by exact (pe_cmpR (oIn (K := ⟨K, w, none⟩) rfl) (pv 1) pe_str (by rfl))))) pa_nil))))),
    run_start (k := K) (w := w) (N := N__law_is_word) (s := b__law_is_word) (tsf_seq (tsf_if (tbf_or (tbf_not (tbf_tru (tef_B rl_isi (taf_cons tef_var (taf_cons (tef_con fun _ _ => .ty "str") taf_nil))))) (tbf_not (tbf_test (tef_chain r_le r_le tef_int (tef_B rl_lenG (taf_cons tef_var taf_nil)) tef_int)))) (tsf_ret tef_bl) tsf_next)
    (tsf_ret (tef_B rl_all (taf_cons (tef_lc (vs := [1]) (tif_str tef_var) tgf_name (own_name (by decide)) tbf_yes (tef_op r_inG tef_var tef_str)) taf_nil)))) h (fun ds μ ρ vs H Q E _ _ _ q => q)⟩
theorem sc__law_are_nexts : FnScope N__law_are_nexts ["thing", "letters", "many"] (defScope s__law_are_nexts) := ⟨rfl, rfl, rfl, by decide +kernel, rfl, by decide +kernel, by decide +kernel⟩
theorem ok__law_are_nexts {f : Addr} {fd : FuncData} (F : Fun K "_law_are_nexts" "_law_are_nexts" s__law_are_nexts f fd) (T : Txt P K mg a) (G__law_is_number : DefOk P w K mg base "_law_is_number" 1 ["thing", "least", "most"] (spD ⟨K, w, none⟩ 3 g__law_is_number)) : FnOk P w K mg base (L2.CX P w) 2 f fd ["thing", "letters", "many"] (spD ⟨K, w, none⟩ 3 g__law_are_nexts) := by
  have S := sc__law_are_nexts
  refine F.okX S (fun vs H Q E h => spD_len h) (fun cdv A outer s H vs Q E hr h => ?_)
  exact ⟨_, (pss_cons (ps_if (PW.pt (pw_or (pt_not (oTru (K := ⟨K, w, none⟩) rfl (pe_callB (oIsi (K := ⟨K, w, none⟩) rfl) (by rfl) T.isinstance (by decide +kernel) (pa_cons (pv 0) (pa_cons (pe_bltn (v := .ty "tuple") (by rfl) T.tuple (by decide +kernel) rfl) pa_nil))) (by intro _; rfl))) (pw_or1 (pt_cmpR (oNe (K := ⟨K, w, none⟩) hr.units rfl) (pe_callB (oLen (K := ⟨K, w, none⟩) rfl rfl) (by rfl) T.len (by decide +kernel) (pa_cons (pv 0) pa_nil)) (pe_op (oAdd (K := ⟨K, w, none⟩) rfl) (pv 1) pe_int) (nomark _))))) (pss_one (ps_ret pe_bl)) pss_nil)
    (pss_one (ps_ret (pe_callB (oAll (K := ⟨K, w, none⟩) rfl rfl) (by rfl) T.all (by decide +kernel) (pa_cons (pe_lc (own := [("standing", 3)]) (g := gName 3) rfl S.nd (oTupI (K := ⟨K, w, none⟩) rfl (pv 0)) (blkOk_by (own := [("standing", 3)]) (N := N__law_are_nexts) (sc := defScope s__law_are_nexts) (by decide +kernel)) (fun _ _ _ _ _ => (pg_name (i := 3) S.nd rfl (by first | exact Or.inl rfl | exact Or.inr rfl))) (fun _ _ _ _ _ => pts_nil) (fun _ _ _ _ _ => (by exact (pe_d G__law_is_number hr (by rfl) (pa_cons (pv 3) (pa_cons pe_int (pa_cons (pe_op op_sub (pv 2) pe_int) pa_nil))))))) pa_nil))))),
    run_start (k := K) (w := w) (N := N__law_are_nexts) (s := b__law_are_nexts) (tsf_seq (tsf_if (tbf_or (tbf_not (tbf_tru (tef_B rl_isi (taf_cons tef_var (taf_cons (tef_con fun _ _ => .ty "tuple") taf_nil))))) (tbf_test (tef_op r_ne (tef_B rl_lenG (taf_cons tef_var taf_nil)) (tef_op r_addG tef_var tef_int)))) (tsf_ret tef_bl) tsf_next)
    (tsf_ret (tef_B rl_all (taf_cons (tef_lc (vs := [3]) (tif_tup tef_var) tgf_name (own_name (by decide)) tbf_yes (tef_call0 (taf_cons tef_var (taf_cons tef_int (taf_cons (tef_op r_sub tef_var tef_int) taf_nil))))) taf_nil)))) h (fun ds μ ρ vs H Q E _ _ _ q => q)⟩
theorem sc__law_is_item : FnScope N__law_is_item ["thing", "dealing", "letters", "many"] (defScope s__law_is_item) := ⟨rfl, rfl, rfl, by decide +kernel, rfl, by decide +kernel, by decide +kernel⟩
theorem ok__law_is_item {f : Addr} {fd : FuncData} (F : Fun K "_law_is_item" "_law_is_item" s__law_is_item f fd) (T : Txt P K mg a) (G__law_is_word : DefOk P w K mg base "_law_is_word" 1 ["thing"] (spD ⟨K, w, none⟩ 1 g__law_is_word)) (G__law_is_number : DefOk P w K mg base "_law_is_number" 1 ["thing", "least", "most"] (spD ⟨K, w, none⟩ 3 g__law_is_number)) (G__law_are_nexts : DefOk P w K mg base "_law_are_nexts" 2 ["thing", "letters", "many"] (spD ⟨K, w, none⟩ 3 g__law_are_nexts)) : FnOk P w K mg base (L2.CX P w) 3 f fd ["thing", "dealing", "letters", "many"] (spD ⟨K, w, none⟩ 4 g__law_is_item) := by
  have S := sc__law_is_item
  refine F.okX S (fun vs H Q E h => spD_len h) (fun cdv A outer s H vs Q E hr h => ?_)
  exact ⟨_, (pss_cons (ps_if (PW.pt (pw_or (pt_not (oTru (K := ⟨K, w, none⟩) rfl (pe_callB (oIsi (K := ⟨K, w, none⟩) rfl) (by rfl) T.isinstance (by decide +kernel) (pa_cons (pv 0) (pa_cons (pe_bltn (v := .ty "tuple") (by rfl) T.tuple (by decide +kernel) rfl) pa_nil))) (by intro _; rfl))) (pw_or1 (pt_cmpR (oEq (K := ⟨K, w, none⟩) hr.units rfl) (pe_callB (oLen (K := ⟨K, w, none⟩) rfl rfl) (by rfl) T.len (by decide +kernel) (pa_cons (pv 0) pa_nil)) pe_int (nomark _))))) (pss_one (ps_ret pe_bl)) pss_nil)
    (pss_cons (ps_if (pt_cmpR (oEqHd (K := ⟨K, w, none⟩) hr.units rfl) (pv 0) (pe_tup (pa_cons pe_str pa_nil)) (nomark _)) (pss_one (ps_ret pe_bl)) pss_nil)
    (pss_cons (ps_if (PW.pt (pw_or (pt_cmpR (oNe (K := ⟨K, w, none⟩) hr.units rfl) (pe_callB (oLen (K := ⟨K, w, none⟩) rfl rfl) (by rfl) T.len (by decide +kernel) (pa_cons (pv 0) pa_nil)) pe_int (nomark _)) (pw_or1 (pt_not (oTru (K := ⟨K, w, none⟩) rfl (pe_callB (oIsi (K := ⟨K, w, none⟩) rfl) (by rfl) T.isinstance (by decide +kernel) (pa_cons (pe_ix (oIx (K := ⟨K, w, none⟩) rfl) (pv 0) pe_int (fun _ _ => rfl)) (pa_cons (pe_bltn (v := .ty "str") (by rfl) T.str (by decide +kernel) rfl) pa_nil))) (by intro _; rfl)))))) (pss_one (ps_ret pe_bl)) pss_nil)
    (pss_cons (ps_if (pt_cmpR (oEq (K := ⟨K, w, none⟩) hr.units rfl) (pe_ix (oIx (K := ⟨K, w, none⟩) rfl) (pv 0) pe_int (fun _ _ => rfl)) pe_str (nomark _)) (pss_one (ps_ret (pe_and (pe_dX (takes_of rfl rfl rfl rfl) G__law_is_number hr (by rfl) (pa_cons (pe_ix (oIx (K := ⟨K, w, none⟩) rfl) (pv 0) pe_int (fun _ _ => rfl)) (pa_cons pe_int (pa_cons (pe_op op_sub (pe_callB (oLen (K := ⟨K, w, none⟩) rfl rfl) (by rfl) T.len (by decide +kernel) (pa_cons (pv 1) pa_nil)) pe_int) pa_nil)))) (pe_one (pe_dX (takes_of rfl rfl rfl rfl) G__law_are_nexts hr (by rfl) (pa_cons (pe_ix (oIx (K := ⟨K, w, none⟩) rfl) (pv 0) pe_int (fun _ _ => rfl)) (pa_cons (pv 2) (pa_cons (pv 3) pa_nil)))))))) pss_nil)
    (pss_cons (ps_if (pt_cmpR (oEq (K := ⟨K, w, none⟩) hr.units rfl) (pe_ix (oIx (K := ⟨K, w, none⟩) rfl) (pv 0) pe_int (fun _ _ => rfl)) pe_str (nomark _)) (pss_one (ps_ret (pe_and (pe_dX (takes_of rfl rfl rfl rfl) G__law_is_number hr (by rfl) (pa_cons (pe_ix (oIx (K := ⟨K, w, none⟩) rfl) (pv 0) pe_int (fun _ _ => rfl)) (pa_cons pe_int (pa_cons (pe_callB (oMax (K := ⟨K, w, none⟩) rfl hr.units rfl) (by rfl) T.max (by decide +kernel) (pa_cons (pv 1) pa_nil)) pa_nil)))) (pe_one (pe_dX (takes_of rfl rfl rfl rfl) G__law_are_nexts hr (by rfl) (pa_cons (pe_ix (oIx (K := ⟨K, w, none⟩) rfl) (pv 0) pe_int (fun _ _ => rfl)) (pa_cons (pv 2) (pa_cons (pv 3) pa_nil)))))))) pss_nil)
    (pss_cons (ps_if (pt_cmpR (oEq (K := ⟨K, w, none⟩) hr.units rfl) (pe_ix (oIx (K := ⟨K, w, none⟩) rfl) (pv 0) pe_int (fun _ _ => rfl)) pe_str (nomark _)) (pss_one (ps_ret (pe_and (pe_dX (takes_of rfl rfl rfl rfl) G__law_is_number hr (by rfl) (pa_cons (pe_ix (oIx (K := ⟨K, w, none⟩) rfl) (pv 0) pe_int (fun _ _ => rfl)) (pa_cons pe_int (pa_cons (pe_callB (oMax (K := ⟨K, w, none⟩) rfl hr.units rfl) (by rfl) T.max (by decide +kernel) (pa_cons (pv 1) pa_nil)) pa_nil)))) (pe_one (pe_dX (takes_of rfl rfl rfl rfl) G__law_is_number hr (by rfl) (pa_cons (pe_ix (oIx (K := ⟨K, w, none⟩) rfl) (pv 0) pe_int (fun _ _ => rfl)) (pa_cons pe_int (pa_cons (pe_op op_sub (pv 3) pe_int) pa_nil)))))))) pss_nil)
    (pss_one (ps_ret (pe_and (pe_cmpR (oEq (K := ⟨K, w, none⟩) hr.units rfl) (pe_ix (oIx (K := ⟨K, w, none⟩) rfl) (pv 0) pe_int (fun _ _ => rfl)) pe_str (nomark _)) (pe_and (pe_dX (takes_of rfl rfl rfl rfl) G__law_is_word hr (by rfl) (pa_cons (pe_ix (oIx (K := ⟨K, w, none⟩) rfl) (pv 0) pe_int (fun _ _ => rfl)) pa_nil)) (pe_one (pe_dX (takes_of rfl rfl rfl rfl) G__law_is_number hr (by rfl) (pa_cons (pe_ix (oIx (K := ⟨K, w, none⟩) rfl) (pv 0) pe_int (fun _ _ => rfl)) (pa_cons pe_int (pa_cons (pe_op op_sub (pv 3) pe_int) pa_nil))))))))))))))),
    run_start (k := K) (w := w) (N := N__law_is_item) (s := b__law_is_item) (tsf_seq (tsf_if (tbf_or (tbf_not (tbf_tru (tef_B rl_isi (taf_cons tef_var (taf_cons (tef_con fun _ _ => .ty "tuple") taf_nil))))) (tbf_test (tef_op r_eq (tef_B rl_lenG (taf_cons tef_var taf_nil)) tef_int))) (tsf_ret tef_bl) tsf_next)
    (tsf_seq (tsf_if (tbf_test (tef_op r_eqHd tef_var (tef_tup (taf_cons tef_str taf_nil)))) (tsf_ret tef_bl) tsf_next)
    (tsf_seq (tsf_if (tbf_or (tbf_test (tef_op r_ne (tef_B rl_lenG (taf_cons tef_var taf_nil)) tef_int)) (tbf_not (tbf_tru (tef_B rl_isi (taf_cons (tef_op r_ix tef_var tef_int) (taf_cons (tef_con fun _ _ => .ty "str") taf_nil)))))) (tsf_ret tef_bl) tsf_next)
    (tsf_seq (tsf_if (tbf_test (tef_op r_eq (tef_op r_ix tef_var tef_int) tef_str)) (tsf_ret (tef_and (tef_call (taf_cons (tef_op r_ix tef_var tef_int) (taf_cons tef_int (taf_cons (tef_op r_sub (tef_B rl_lenG (taf_cons tef_var taf_nil)) tef_int) taf_nil)))) (tef_call (taf_cons (tef_op r_ix tef_var tef_int) (taf_cons tef_var (taf_cons tef_var taf_nil)))))) tsf_next)
    (tsf_seq (tsf_if (tbf_test (tef_op r_eq (tef_op r_ix tef_var tef_int) tef_str)) (tsf_ret (tef_and (tef_call (taf_cons (tef_op r_ix tef_var tef_int) (taf_cons tef_int (taf_cons (tef_B rl_maxG (taf_cons tef_var taf_nil)) taf_nil)))) (tef_call (taf_cons (tef_op r_ix tef_var tef_int) (taf_cons tef_var (taf_cons tef_var taf_nil)))))) tsf_next)
    (tsf_seq (tsf_if (tbf_test (tef_op r_eq (tef_op r_ix tef_var tef_int) tef_str)) (tsf_ret (tef_and (tef_call (taf_cons (tef_op r_ix tef_var tef_int) (taf_cons tef_int (taf_cons (tef_B rl_maxG (taf_cons tef_var taf_nil)) taf_nil)))) (tef_call (taf_cons (tef_op r_ix tef_var tef_int) (taf_cons tef_int (taf_cons (tef_op r_sub tef_var tef_int) taf_nil)))))) tsf_next)
    (tsf_ret (tef_and (tef_op r_eq (tef_op r_ix tef_var tef_int) tef_str) (tef_and (tef_call (taf_cons (tef_op r_ix tef_var tef_int) taf_nil)) (tef_call (taf_cons (tef_op r_ix tef_var tef_int) (taf_cons tef_int (taf_cons (tef_op r_sub tef_var tef_int) taf_nil))))))))))))) h (fun ds μ ρ vs H Q E _ _ _ q => q)⟩
theorem sc__law_wrong : FnScope N__law_wrong ["spec"] (defScope s__law_wrong) := ⟨rfl, rfl, rfl, by decide +kernel, rfl, by decide +kernel, by decide +kernel⟩
theorem ok__law_wrong {f : Addr} {fd : FuncData} (F : Fun K "_law_wrong" "_law_wrong" s__law_wrong f fd) (T : Txt P K mg a) (G__law_is_number : DefOk P w K mg base "_law_is_number" 1 ["thing", "least", "most"] (spD ⟨K, w, none⟩ 3 g__law_is_number)) (G__law_is_dealing : DefOk P w K mg base "_law_is_dealing" 2 ["thing", "rows"] (spD ⟨K, w, none⟩ 2 g__law_is_dealing)) (G__law_is_item : DefOk P w K mg base "_law_is_item" 3 ["thing", "dealing", "letters", "many"] (spD ⟨K, w, none⟩ 4 g__law_is_item)) : FnOk P w K mg base (L2.CX P w) 4 f fd ["spec"] (spD ⟨K, w, none⟩ 1 g__law_wrong) := by
  have S := sc__law_wrong
  refine F.okX S (fun vs H Q E h => spD_len h) (fun cdv A outer s H vs Q E hr h => ?_)
  exact ⟨_, (pss_cons (ps_asg (pv 0) (oTupG (K := ⟨K, w, none⟩) (n := 5) rfl rfl (pgs_cons (pg_name (i := 1) S.nd rfl (by first | exact Or.inl rfl | exact Or.inr rfl)) (pgs_cons (pg_name (i := 2) S.nd rfl (by first | exact Or.inl rfl | exact Or.inr rfl)) (pgs_cons (pg_name (i := 3) S.nd rfl (by first | exact Or.inl rfl | exact Or.inr rfl)) (pgs_cons (pg_name (i := 4) S.nd rfl (by first | exact Or.inl rfl | exact Or.inr rfl)) (pgs_cons (pg_name (i := 5) S.nd rfl (by first | exact Or.inl rfl | exact Or.inr rfl)) pgs_nil))))) rfl rfl))
    (pss_cons (ps_if (pt_not (oTru (K := ⟨K, w, none⟩) rfl (pe_dX (takes_of rfl rfl rfl rfl) G__law_is_number hr (by rfl) (pa_cons (pv 1) (pa_cons pe_int (pa_cons pe_int pa_nil)))) (by intro _; rfl))) (pss_one (ps_ret pe_str)) pss_nil)
    (pss_cons (ps_if (pt_not (oTru (K := ⟨K, w, none⟩) rfl (pe_dX (takes_of rfl rfl rfl rfl) G__law_is_number hr (by rfl) (pa_cons (pv 2) (pa_cons pe_int (pa_cons pe_int pa_nil)))) (by intro _; rfl))) (pss_one (ps_ret pe_str)) pss_nil)
    (pss_cons (ps_if (pt_not (oTru (K := ⟨K, w, none⟩) rfl (pe_dX (takes_of rfl rfl rfl rfl) G__law_is_dealing hr (by rfl) (pa_cons (pv 3) (pa_cons (pv 1) pa_nil))) (by intro _; rfl))) (pss_one (ps_ret pe_str)) pss_nil)
    (pss_cons (ps_if (PW.pt (pw_and (pt_not (oTru (K := ⟨K, w, none⟩) rfl (pe_dX (takes_of rfl rfl rfl rfl) G__law_is_number hr (by rfl) (pa_cons (pv 4) (pa_cons pe_int (pa_cons pe_int pa_nil)))) (by intro _; rfl))) (pw_and1 (PW.pt (pw_or (pt_cmpR op_notN (pv 4) pe_non (nomark _)) (pw_or1 (pt_cmpR op_gt (pe_callB (oMax (K := ⟨K, w, none⟩) rfl hr.units rfl) (by rfl) T.max (by decide +kernel) (pa_cons (pv 3) pa_nil)) pe_int (nomark _)))))))) (pss_one (ps_ret pe_str)) pss_nil)
    (pss_cons (ps_if (PW.pt (pw_or (pt_not (oTru (K := ⟨K, w, none⟩) rfl (pe_callB (oIsi (K := ⟨K, w, none⟩) rfl) (by rfl) T.isinstance (by decide +kernel) (pa_cons (pv 5) (pa_cons (pe_bltn (v := .ty "tuple") (by rfl) T.tuple (by decide +kernel) rfl) pa_nil))) (by intro _; rfl))) (pw_or1 (pt_not (pt_chain op_le op_le pe_int (pe_callB (oLen (K := ⟨K, w, none⟩) rfl rfl) (by rfl) T.len (by decide +kernel) (pa_cons (pv 5) pa_nil)) pe_int))))) (pss_one (ps_ret pe_str)) pss_nil)
    (pss_cons (ps_if (pt_not (oTru (K := ⟨K, w, none⟩) rfl (pe_callB (oAll (K := ⟨K, w, none⟩) rfl rfl) (by rfl) T.all (by decide +kernel) (pa_cons (pe_lc (own := [("item", 6)]) (g := gName 6) rfl S.nd (oTupI (K := ⟨K, w, none⟩) rfl (pv 5)) (blkOk_by (own := [("item", 6)]) (N := N__law_wrong) (sc := defScope s__law_wrong) (by decide +kernel)) (fun _ _ _ _ _ => (pg_name (i := 6) S.nd rfl (by first | exact Or.inl rfl | exact Or.inr rfl))) (fun _ _ _ _ _ => pts_nil) (fun _ _ _ _ _ => (by exact (pe_d G__law_is_item hr (by rfl) (pa_cons (pv 6) (pa_cons (pv 3) (pa_cons (pv 2) (pa_cons (pe_callB (oLen (K := ⟨K, w, none⟩) rfl rfl) (by rfl) T.len (by decide +kernel) (pa_cons (pv 5) pa_nil)) pa_nil)))))))) pa_nil)) (by intro _; rfl))) (pss_one (ps_ret pe_str)) pss_nil)
    (pss_one (ps_ret pe_non))))))))),
    run_start (k := K) (w := w) (N := N__law_wrong) (s := b__law_wrong) (tsf_seq (tsf_asg tef_var (tgf_tup (tgsf_cons tgf_name (tgsf_cons tgf_name (tgsf_cons tgf_name (tgsf_cons tgf_name (tgsf_cons tgf_name tgsf_nil)))))))
    (tsf_seq (tsf_if (tbf_not (tbf_tru (tef_call (taf_cons tef_var (taf_cons tef_int (taf_cons tef_int taf_nil)))))) (tsf_ret tef_str) tsf_next)
    (tsf_seq (tsf_if (tbf_not (tbf_tru (tef_call (taf_cons tef_var (taf_cons tef_int (taf_cons tef_int taf_nil)))))) (tsf_ret tef_str) tsf_next)
    (tsf_seq (tsf_if (tbf_not (tbf_tru (tef_call (taf_cons tef_var (taf_cons tef_var taf_nil))))) (tsf_ret tef_str) tsf_next)
    (tsf_seq (tsf_if (tbf_and (tbf_not (tbf_tru (tef_call (taf_cons tef_var (taf_cons tef_int (taf_cons tef_int taf_nil)))))) (tbf_or (tbf_test (tef_op r_notN tef_var tef_non)) (tbf_test (tef_op r_gt (tef_B rl_maxG (taf_cons tef_var taf_nil)) tef_int)))) (tsf_ret tef_str) tsf_next)
    (tsf_seq (tsf_if (tbf_or (tbf_not (tbf_tru (tef_B rl_isi (taf_cons tef_var (taf_cons (tef_con fun _ _ => .ty "tuple") taf_nil))))) (tbf_not (tbf_test (tef_chain r_le r_le tef_int (tef_B rl_lenG (taf_cons tef_var taf_nil)) tef_int)))) (tsf_ret tef_str) tsf_next)
    (tsf_seq (tsf_if (tbf_not (tbf_tru (tef_B rl_all (taf_cons (tef_lc (vs := [6]) (tif_tup tef_var) tgf_name (own_name (by decide)) tbf_yes (tef_call0 (taf_cons tef_var (taf_cons tef_var (taf_cons tef_var (taf_cons (tef_B rl_lenG (taf_cons tef_var taf_nil)) taf_nil)))))) taf_nil)))) (tsf_ret tef_str) tsf_next)
    (tsf_ret tef_non)))))))) h (fun ds μ ρ vs H Q E _ _ _ q => q)⟩
theorem sc__law_odd : FnScope N__law_odd ["dice", "near"] (defScope s__law_odd) := ⟨rfl, rfl, rfl, by decide +kernel, rfl, by decide +kernel, by decide +kernel⟩
theorem ok__law_odd {f : Addr} {fd : FuncData} (F : Fun K "_law_odd" "_law_odd" s__law_odd f fd) (T : Txt P K mg a) (G__law_draw : DefOk P w K mg base "_law_draw" 1 ["dice", "sides"] (spD ⟨K, w, none⟩ 2 g__law_draw)) : FnOk P w K mg base (L2.CX P w) 2 f fd ["dice", "near"] (spD ⟨K, w, none⟩ 2 g__law_odd) := by
  have S := sc__law_odd
  refine F.okX S (fun vs H Q E h => spD_len h) (fun cdv A outer s H vs Q E hr h => ?_)
  exact ⟨_, (pss_cons (ps_set (i := 2) S.nd rfl (by first | exact Or.inl rfl | exact Or.inr rfl) (pe_dX (takes_of rfl rfl rfl rfl) G__law_draw hr (by rfl) (pa_cons (pv 0) (pa_cons pe_int pa_nil))))
    (pss_cons (ps_if (pt_cmpR op_lt (pv 2) pe_int (nomark _)) (pss_one (ps_ret (pe_op op_sub (pe_op (oAdd (K := ⟨K, w, none⟩) rfl) (pv 1) (pv 2)) pe_int))) pss_nil)
    (pss_one (ps_ret (pe_ix (oIx (K := ⟨K, w, none⟩) rfl) (pe_lst (pa_cons pe_non (pa_cons pe_bl (pa_cons pe_bl (pa_cons pe_str (pa_cons (pe_tup (pa_cons (pv 1) pa_nil)) (pa_cons (pe_lst (pa_cons (pv 1) pa_nil)) (pa_cons (pe_un un_neg pe_int) (pa_cons (pe_op op_pow pe_int pe_int) (pa_cons pe_dnewK (pa_cons pe_int pa_nil))))))))))) (pe_op op_sub (pv 2) pe_int) (fun _ _ => rfl)))))),
    run_start (k := K) (w := w) (N := N__law_odd) (s := b__law_odd) (tsf_seq (tsf_asg (tef_call (taf_cons tef_var (taf_cons tef_int taf_nil))) tgf_name)
    (tsf_seq (tsf_if (tbf_test (tef_op r_lt tef_var tef_int)) (tsf_ret (tef_op r_sub (tef_op r_addG tef_var tef_var) tef_int)) tsf_next)
    (tsf_ret (tef_op r_ix (tef_lst (taf_cons tef_non (taf_cons tef_bl (taf_cons tef_bl (taf_cons tef_str (taf_cons (tef_tup (taf_cons tef_var taf_nil)) (taf_cons (tef_lst (taf_cons tef_var taf_nil)) (taf_cons (tef_un r_neg tef_int) (taf_cons (tef_op r_pow tef_int tef_int) (taf_cons tef_dct (taf_cons tef_int taf_nil))))))))))) (tef_op r_sub tef_var tef_int))))) h (fun ds μ ρ vs H Q E _ _ _ q => q)⟩
theorem sc__law_item_changed : FnScope N__law_item_changed ["dice", "item"] (defScope s__law_item_changed) := ⟨rfl, rfl, rfl, by decide +kernel, rfl, by decide +kernel, by decide +kernel⟩
theorem ok__law_item_changed {f : Addr} {fd : FuncData} (F : Fun K "_law_item_changed" "_law_item_changed" s__law_item_changed f fd) (T : Txt P K mg a) (G__law_draw : DefOk P w K mg base "_law_draw" 1 ["dice", "sides"] (spD ⟨K, w, none⟩ 2 g__law_draw)) (G__law_odd : DefOk P w K mg base "_law_odd" 2 ["dice", "near"] (spD ⟨K, w, none⟩ 2 g__law_odd)) : FnOk P w K mg base (L2.CX P w) 3 f fd ["dice", "item"] (spD ⟨K, w, none⟩ 2 g__law_item_changed) := by
  have S := sc__law_item_changed
  refine F.okX S (fun vs H Q E h => spD_len h) (fun cdv A outer s H vs Q E hr h => ?_)
  exact ⟨_, (pss_cons (ps_set (i := 2) S.nd rfl (by first | exact Or.inl rfl | exact Or.inr rfl) (pe_dX (takes_of rfl rfl rfl rfl) G__law_draw hr (by rfl) (pa_cons (pv 0) (pa_cons pe_int pa_nil))))
    (pss_cons (ps_if (PW.pt (pw_or (pt_cmpR (oEq (K := ⟨K, w, none⟩) hr.units rfl) (pv 2) pe_int (nomark _)) (pw_or1 (pt_cmpR (oEq (K := ⟨K, w, none⟩) hr.units rfl) (pe_callB (oLen (K := ⟨K, w, none⟩) rfl rfl) (by rfl) T.len (by decide +kernel) (pa_cons (pv 1) pa_nil)) pe_int (nomark _))))) (pss_cons (ps_set (i := 3) S.nd rfl (by first | exact Or.inl rfl | exact Or.inr rfl) (pe_lst (pa_cons pe_str (pa_cons pe_str (pa_cons pe_str (pa_cons pe_str (pa_cons pe_str (pa_cons pe_str (pa_cons pe_str (pa_cons pe_str (pa_cons pe_non (pa_cons pe_int pa_nil))))))))))))
        (pss_one (ps_ret (pe_op (oAdd (K := ⟨K, w, none⟩) rfl) (pe_tup (pa_cons (pe_ix (oIx (K := ⟨K, w, none⟩) rfl) (pv 3) (pe_dX (takes_of rfl rfl rfl rfl) G__law_draw hr (by rfl) (pa_cons (pv 0) (pa_cons pe_int pa_nil))) (fun _ _ => rfl)) pa_nil)) (pe_slice (oSl (K := ⟨K, w, none⟩) rfl) (pv 1) (po_some pe_int) po_none))))) pss_nil)
    (pss_cons (ps_if (pt_cmpR (oEq (K := ⟨K, w, none⟩) hr.units rfl) (pv 2) pe_int (nomark _)) (pss_cons (ps_set (i := 4) S.nd rfl (by first | exact Or.inl rfl | exact Or.inr rfl) (pe_lst (pa_cons (pe_dX (takes_of rfl rfl rfl rfl) G__law_odd hr (by rfl) (pa_cons (pv 0) (pa_cons pe_int pa_nil))) (pa_cons pe_str (pa_cons pe_str (pa_cons pe_str (pa_cons pe_str (pa_cons pe_str pa_nil))))))))
        (pss_one (ps_ret (pe_tup (pa_cons (pe_ix (oIx (K := ⟨K, w, none⟩) rfl) (pv 1) pe_int (fun _ _ => rfl)) (pa_cons (pe_ix (oIx (K := ⟨K, w, none⟩) rfl) (pv 4) (pe_dX (takes_of rfl rfl rfl rfl) G__law_draw hr (by rfl) (pa_cons (pv 0) (pa_cons pe_int pa_nil))) (fun _ _ => rfl)) (pa_cons (pe_ix (oIx (K := ⟨K, w, none⟩) rfl) (pv 1) pe_int (fun _ _ => rfl)) pa_nil))))))) pss_nil)
    (pss_cons (ps_if (PW.pt (pw_and (pt_cmpR (oEq (K := ⟨K, w, none⟩) hr.units rfl) (pv 2) pe_int (nomark _)) (pw_and1 (oTru (K := ⟨K, w, none⟩) rfl (pe_callB (oIsi (K := ⟨K, w, none⟩) rfl) (by rfl) T.isinstance (by decide +kernel) (pa_cons (pe_ix (oIx (K := ⟨K, w, none⟩) rfl) (pv 1) pe_int (fun _ _ => rfl)) (pa_cons (pe_bltn (v := .ty "tuple") (by rfl) T.tuple (by decide +kernel) rfl) pa_nil))) (by intro _; rfl))))) (pss_cons (ps_set (i := 5) S.nd rfl (by first | exact Or.inl rfl | exact Or.inr rfl) (pe_dX (takes_of rfl rfl rfl rfl) G__law_draw hr (by rfl) (pa_cons (pv 0) (pa_cons (pe_callB (oLen (K := ⟨K, w, none⟩) rfl rfl) (by rfl) T.len (by decide +kernel) (pa_cons (pe_ix (oIx (K := ⟨K, w, none⟩) rfl) (pv 1) pe_int (fun _ _ => rfl)) pa_nil)) pa_nil))))
        (pss_one (ps_ret (pe_tup (pa_cons (pe_ix (oIx (K := ⟨K, w, none⟩) rfl) (pv 1) pe_int (fun _ _ => rfl)) (pa_cons (pe_ix (oIx (K := ⟨K, w, none⟩) rfl) (pv 1) pe_int (fun _ _ => rfl)) (pa_cons (pe_op (oAdd (K := ⟨K, w, none⟩) rfl) (pe_op (oAdd (K := ⟨K, w, none⟩) rfl) (pe_slice (oSl (K := ⟨K, w, none⟩) rfl) (pe_ix (oIx (K := ⟨K, w, none⟩) rfl) (pv 1) pe_int (fun _ _ => rfl)) po_none (po_some (pv 5))) (pe_tup (pa_cons (pe_dX (takes_of rfl rfl rfl rfl) G__law_odd hr (by rfl) (pa_cons (pv 0) (pa_cons (pe_op (oAdd (K := ⟨K, w, none⟩) rfl) (pe_ix (oIx (K := ⟨K, w, none⟩) rfl) (pe_ix (oIx (K := ⟨K, w, none⟩) rfl) (pv 1) pe_int (fun _ _ => rfl)) (pv 5) (fun _ _ => rfl)) (pe_dX (takes_of rfl rfl rfl rfl) G__law_draw hr (by rfl) (pa_cons (pv 0) (pa_cons pe_int pa_nil)))) pa_nil))) pa_nil))) (pe_slice (oSl (K := ⟨K, w, none⟩) rfl) (pe_ix (oIx (K := ⟨K, w, none⟩) rfl) (pv 1) pe_int (fun _ _ => rfl)) (po_some (pe_op (oAdd (K := ⟨K, w, none⟩) rfl) (pv 5) pe_int)) po_none)) pa_nil))))))) pss_nil)
    (pss_cons (ps_if (pt_cmpR (oEq (K := ⟨K, w, none⟩) hr.units rfl) (pv 2) pe_int (nomark _)) (pss_cons (ps_set (i := 6) S.nd rfl (by first | exact Or.inl rfl | exact Or.inr rfl) (pe_lst (pa_cons (pe_dX (takes_of rfl rfl rfl rfl) G__law_odd hr (by rfl) (pa_cons (pv 0) (pa_cons pe_int pa_nil))) (pa_cons (pe_tup (pa_cons pe_int (pa_cons pe_int pa_nil))) (pa_cons (pe_tup (pa_cons pe_int (pa_cons pe_int (pa_cons pe_int pa_nil)))) (pa_cons (pe_tup (pa_cons pe_int pa_nil)) (pa_cons (pe_lst (pa_cons pe_int (pa_cons pe_int pa_nil))) (pa_cons (pe_tup (pa_cons pe_int (pa_cons pe_int (pa_cons pe_int (pa_cons pe_int pa_nil))))) pa_nil))))))))
        (pss_one (ps_ret (pe_tup (pa_cons (pe_ix (oIx (K := ⟨K, w, none⟩) rfl) (pv 1) pe_int (fun _ _ => rfl)) (pa_cons (pe_ix (oIx (K := ⟨K, w, none⟩) rfl) (pv 1) pe_int (fun _ _ => rfl)) (pa_cons (pe_ix (oIx (K := ⟨K, w, none⟩) rfl) (pv 6) (pe_dX (takes_of rfl rfl rfl rfl) G__law_draw hr (by rfl) (pa_cons (pv 0) (pa_cons pe_int pa_nil))) (fun _ _ => rfl)) pa_nil))))))) pss_nil)
    (pss_cons (ps_if (pt_cmpR (oEq (K := ⟨K, w, none⟩) hr.units rfl) (pv 2) pe_int (nomark _)) (pss_one (ps_ret (pe_ix (oIx (K := ⟨K, w, none⟩) rfl) (pe_lst (pa_cons (pe_op (oAdd (K := ⟨K, w, none⟩) rfl) (pv 1) (pe_tup (pa_cons pe_int pa_nil))) (pa_cons (pe_slice (oSl (K := ⟨K, w, none⟩) rfl) (pv 1) po_none (po_some pe_int)) (pa_cons (pe_callTy (oList (K := ⟨K, w, none⟩) rfl) (by rfl) T.list (by decide +kernel) (pa_cons (pv 1) pa_nil)) (pa_cons (pe_tup pa_nil) (pa_cons pe_non (pa_cons (pe_ix (oIx (K := ⟨K, w, none⟩) rfl) (pv 1) pe_int (fun _ _ => rfl)) (pa_cons (pe_tup (pa_cons (pv 1) pa_nil)) pa_nil)))))))) (pe_dX (takes_of rfl rfl rfl rfl) G__law_draw hr (by rfl) (pa_cons (pv 0) (pa_cons pe_int pa_nil))) (fun _ _ => rfl)))) pss_nil)
    (pss_one (ps_ret (pe_tup (pa_cons (pe_ix (oIx (K := ⟨K, w, none⟩) rfl) (pv 1) pe_int (fun _ _ => rfl)) (pa_cons (pe_dX (takes_of rfl rfl rfl rfl) G__law_odd hr (by rfl) (pa_cons (pv 0) (pa_cons (pe_ifExp (oTru (K := ⟨K, w, none⟩) rfl (pe_callB (oIsi (K := ⟨K, w, none⟩) rfl) (by rfl) T.isinstance (by decide +kernel) (pa_cons (pe_ix (oIx (K := ⟨K, w, none⟩) rfl) (pv 1) pe_int (fun _ _ => rfl)) (pa_cons (pe_bltn (v := .ty "int") (by rfl) T.int (by decide +kernel) rfl) pa_nil))) (by intro _; rfl)) (pe_ix (oIx (K := ⟨K, w, none⟩) rfl) (pv 1) pe_int (fun _ _ => rfl)) pe_int) pa_nil))) (pa_cons (pe_ix (oIx (K := ⟨K, w, none⟩) rfl) (pv 1) pe_int (fun _ _ => rfl)) pa_nil)))))))))))),
    run_start (k := K) (w := w) (N := N__law_item_changed) (s := b__law_item_changed) (tsf_seq (tsf_asg (tef_call (taf_cons tef_var (taf_cons tef_int taf_nil))) tgf_name)
    (tsf_seq (tsf_if (tbf_or (tbf_test (tef_op r_eq tef_var tef_int)) (tbf_test (tef_op r_eq (tef_B rl_lenG (taf_cons tef_var taf_nil)) tef_int))) (tsf_seq (tsf_asg (tef_lst (taf_cons tef_str (taf_cons tef_str (taf_cons tef_str (taf_cons tef_str (taf_cons tef_str (taf_cons tef_str (taf_cons tef_str (taf_cons tef_str (taf_cons tef_non (taf_cons tef_int taf_nil))))))))))) tgf_name)
        (tsf_ret (tef_op r_addG (tef_tup (taf_cons (tef_op r_ix tef_var (tef_call (taf_cons tef_var (taf_cons tef_int taf_nil)))) taf_nil)) (tef_sl rs_G tef_var (tof_at tef_int) tof_no)))) tsf_next)
    (tsf_seq (tsf_if (tbf_test (tef_op r_eq tef_var tef_int)) (tsf_seq (tsf_asg (tef_lst (taf_cons (tef_call (taf_cons tef_var (taf_cons tef_int taf_nil))) (taf_cons tef_str (taf_cons tef_str (taf_cons tef_str (taf_cons tef_str (taf_cons tef_str taf_nil))))))) tgf_name)
        (tsf_ret (tef_tup (taf_cons (tef_op r_ix tef_var tef_int) (taf_cons (tef_op r_ix tef_var (tef_call (taf_cons tef_var (taf_cons tef_int taf_nil)))) (taf_cons (tef_op r_ix tef_var tef_int) taf_nil)))))) tsf_next)
    (tsf_seq (tsf_if (tbf_and (tbf_test (tef_op r_eq tef_var tef_int)) (tbf_tru (tef_B rl_isi (taf_cons (tef_op r_ix tef_var tef_int) (taf_cons (tef_con fun _ _ => .ty "tuple") taf_nil))))) (tsf_seq (tsf_asg (tef_call (taf_cons tef_var (taf_cons (tef_B rl_lenG (taf_cons (tef_op r_ix tef_var tef_int) taf_nil)) taf_nil))) tgf_name)
        (tsf_ret (tef_tup (taf_cons (tef_op r_ix tef_var tef_int) (taf_cons (tef_op r_ix tef_var tef_int) (taf_cons (tef_op r_addG (tef_op r_addG (tef_sl rs_G (tef_op r_ix tef_var tef_int) tof_no (tof_at tef_var)) (tef_tup (taf_cons (tef_call (taf_cons tef_var (taf_cons (tef_op r_addG (tef_op r_ix (tef_op r_ix tef_var tef_int) tef_var) (tef_call (taf_cons tef_var (taf_cons tef_int taf_nil)))) taf_nil))) taf_nil))) (tef_sl rs_G (tef_op r_ix tef_var tef_int) (tof_at (tef_op r_addG tef_var tef_int)) tof_no)) taf_nil)))))) tsf_next)
    (tsf_seq (tsf_if (tbf_test (tef_op r_eq tef_var tef_int)) (tsf_seq (tsf_asg (tef_lst (taf_cons (tef_call (taf_cons tef_var (taf_cons tef_int taf_nil))) (taf_cons (tef_tup (taf_cons tef_int (taf_cons tef_int taf_nil))) (taf_cons (tef_tup (taf_cons tef_int (taf_cons tef_int (taf_cons tef_int taf_nil)))) (taf_cons (tef_tup (taf_cons tef_int taf_nil)) (taf_cons (tef_lst (taf_cons tef_int (taf_cons tef_int taf_nil))) (taf_cons (tef_tup (taf_cons tef_int (taf_cons tef_int (taf_cons tef_int (taf_cons tef_int taf_nil))))) taf_nil))))))) tgf_name)
        (tsf_ret (tef_tup (taf_cons (tef_op r_ix tef_var tef_int) (taf_cons (tef_op r_ix tef_var tef_int) (taf_cons (tef_op r_ix tef_var (tef_call (taf_cons tef_var (taf_cons tef_int taf_nil)))) taf_nil)))))) tsf_next)
    (tsf_seq (tsf_if (tbf_test (tef_op r_eq tef_var tef_int)) (tsf_ret (tef_op r_ix (tef_lst (taf_cons (tef_op r_addG tef_var (tef_tup (taf_cons tef_int taf_nil))) (taf_cons (tef_sl rs_G tef_var tof_no (tof_at tef_int)) (taf_cons (tef_B rl_lstOf (taf_cons tef_var taf_nil)) (taf_cons (tef_tup taf_nil) (taf_cons tef_non (taf_cons (tef_op r_ix tef_var tef_int) (taf_cons (tef_tup (taf_cons tef_var taf_nil)) taf_nil)))))))) (tef_call (taf_cons tef_var (taf_cons tef_int taf_nil))))) tsf_next)
    (tsf_ret (tef_tup (taf_cons (tef_op r_ix tef_var tef_int) (taf_cons (tef_call (taf_cons tef_var (taf_cons (tef_if (tbf_tru (tef_B rl_isi (taf_cons (tef_op r_ix tef_var tef_int) (taf_cons (tef_con fun _ _ => .ty "int") taf_nil)))) (tef_op r_ix tef_var tef_int) tef_int) taf_nil))) (taf_cons (tef_op r_ix tef_var tef_int) taf_nil))))))))))) h (fun ds μ ρ vs H Q E _ _ _ q => q)⟩
theorem sc__law_changed : FnScope N__law_changed ["dice", "spec"] (defScope s__law_changed) := ⟨rfl, rfl, rfl, by decide +kernel, rfl, by decide +kernel, by decide +kernel⟩
theorem ok__law_changed {f : Addr} {fd : FuncData} (F : Fun K "_law_changed" "_law_changed" s__law_changed f fd) (T : Txt P K mg a) (G__law_draw : DefOk P w K mg base "_law_draw" 1 ["dice", "sides"] (spD ⟨K, w, none⟩ 2 g__law_draw)) (G__law_odd : DefOk P w K mg base "_law_odd" 2 ["dice", "near"] (spD ⟨K, w, none⟩ 2 g__law_odd)) (G__law_item_changed : DefOk P w K mg base "_law_item_changed" 3 ["dice", "item"] (spD ⟨K, w, none⟩ 2 g__law_item_changed)) : FnOk P w K mg base (L2.CX P w) 4 f fd ["dice", "spec"] (spD ⟨K, w, none⟩ 2 g__law_changed) := by
  have S := sc__law_changed
  refine F.okX S (fun vs H Q E h => spD_len h) (fun cdv A outer s H vs Q E hr h => ?_)
  exact ⟨_, (pss_cons (ps_asg (pv 1) (oTupG (K := ⟨K, w, none⟩) (n := 5) rfl rfl (pgs_cons (pg_name (i := 2) S.nd rfl (by first | exact Or.inl rfl | exact Or.inr rfl)) (pgs_cons (pg_name (i := 3) S.nd rfl (by first | exact Or.inl rfl | exact Or.inr rfl)) (pgs_cons (pg_name (i := 4) S.nd rfl (by first | exact Or.inl rfl | exact Or.inr rfl)) (pgs_cons (pg_name (i := 5) S.nd rfl (by first | exact Or.inl rfl | exact Or.inr rfl)) (pgs_cons (pg_name (i := 6) S.nd rfl (by first | exact Or.inl rfl | exact Or.inr rfl)) pgs_nil))))) rfl rfl))
    (pss_cons (ps_set (i := 7) S.nd rfl (by first | exact Or.inl rfl | exact Or.inr rfl) (pe_dX (takes_of rfl rfl rfl rfl) G__law_draw hr (by rfl) (pa_cons (pv 0) (pa_cons pe_int pa_nil))))
    (pss_cons (ps_set (i := 8) S.nd rfl (by first | exact Or.inl rfl | exact Or.inr rfl) (pe_dX (takes_of rfl rfl rfl rfl) G__law_draw hr (by rfl) (pa_cons (pv 0) (pa_cons (pv 2) pa_nil))))
    (pss_cons (ps_if (pt_cmpR (oEq (K := ⟨K, w, none⟩) hr.units rfl) (pv 7) pe_int (nomark _)) (pss_one (ps_ret (pe_tup (pa_cons (pe_ix (oIx (K := ⟨K, w, none⟩) rfl) (pe_lst (pa_cons (pe_dX (takes_of rfl rfl rfl rfl) G__law_odd hr (by rfl) (pa_cons (pv 0) (pa_cons (pv 2) pa_nil))) (pa_cons pe_int (pa_cons pe_int (pa_cons pe_int pa_nil))))) (pe_dX (takes_of rfl rfl rfl rfl) G__law_draw hr (by rfl) (pa_cons (pv 0) (pa_cons pe_int pa_nil))) (fun _ _ => rfl)) (pa_cons (pv 3) (pa_cons (pv 4) (pa_cons (pv 5) (pa_cons (pv 6) pa_nil)))))))) pss_nil)
    (pss_cons (ps_if (pt_cmpR (oEq (K := ⟨K, w, none⟩) hr.units rfl) (pv 7) pe_int (nomark _)) (pss_one (ps_ret (pe_tup (pa_cons (pv 2) (pa_cons (pe_ix (oIx (K := ⟨K, w, none⟩) rfl) (pe_lst (pa_cons (pe_dX (takes_of rfl rfl rfl rfl) G__law_odd hr (by rfl) (pa_cons (pv 0) (pa_cons (pv 3) pa_nil))) (pa_cons pe_int (pa_cons pe_int (pa_cons pe_int pa_nil))))) (pe_dX (takes_of rfl rfl rfl rfl) G__law_draw hr (by rfl) (pa_cons (pv 0) (pa_cons pe_int pa_nil))) (fun _ _ => rfl)) (pa_cons (pv 4) (pa_cons (pv 5) (pa_cons (pv 6) pa_nil)))))))) pss_nil)
    (pss_cons (ps_if (pt_cmpR (oEq (K := ⟨K, w, none⟩) hr.units rfl) (pv 7) pe_int (nomark _)) (pss_cons (ps_set (i := 9) S.nd rfl (by first | exact Or.inl rfl | exact Or.inr rfl) (pe_op (oAdd (K := ⟨K, w, none⟩) rfl) (pe_op (oAdd (K := ⟨K, w, none⟩) rfl) (pe_slice (oSl (K := ⟨K, w, none⟩) rfl) (pv 4) po_none (po_some (pv 8))) (pe_tup (pa_cons (pe_dX (takes_of rfl rfl rfl rfl) G__law_odd hr (by rfl) (pa_cons (pv 0) (pa_cons (pe_ix (oIx (K := ⟨K, w, none⟩) rfl) (pv 4) (pv 8) (fun _ _ => rfl)) pa_nil))) pa_nil))) (pe_slice (oSl (K := ⟨K, w, none⟩) rfl) (pv 4) (po_some (pe_op (oAdd (K := ⟨K, w, none⟩) rfl) (pv 8) pe_int)) po_none)))
        (pss_one (ps_ret (pe_tup (pa_cons (pv 2) (pa_cons (pv 3) (pa_cons (pe_ix (oIx (K := ⟨K, w, none⟩) rfl) (pe_lst (pa_cons (pv 9) (pa_cons (pe_callTy (oList (K := ⟨K, w, none⟩) rfl) (by rfl) T.list (by decide +kernel) (pa_cons (pv 4) pa_nil)) (pa_cons (pe_op (oAdd (K := ⟨K, w, none⟩) rfl) (pv 4) (pe_tup (pa_cons pe_int pa_nil))) (pa_cons (pe_slice (oSl (K := ⟨K, w, none⟩) rfl) (pv 4) (po_some pe_int) po_none) pa_nil))))) (pe_dX (takes_of rfl rfl rfl rfl) G__law_draw hr (by rfl) (pa_cons (pv 0) (pa_cons pe_int pa_nil))) (fun _ _ => rfl)) (pa_cons (pv 5) (pa_cons (pv 6) pa_nil))))))))) pss_nil)
    (pss_cons (ps_if (pt_cmpR (oEq (K := ⟨K, w, none⟩) hr.units rfl) (pv 7) pe_int (nomark _)) (pss_one (ps_ret (pe_tup (pa_cons (pv 2) (pa_cons (pv 3) (pa_cons (pv 4) (pa_cons (pe_ix (oIx (K := ⟨K, w, none⟩) rfl) (pe_lst (pa_cons (pe_dX (takes_of rfl rfl rfl rfl) G__law_odd hr (by rfl) (pa_cons (pv 0) (pa_cons pe_int pa_nil))) (pa_cons pe_int (pa_cons pe_int (pa_cons pe_non pa_nil))))) (pe_dX (takes_of rfl rfl rfl rfl) G__law_draw hr (by rfl) (pa_cons (pv 0) (pa_cons pe_int pa_nil))) (fun _ _ => rfl)) (pa_cons (pv 6) pa_nil)))))))) pss_nil)
    (pss_cons (ps_if (pt_cmpR (oEq (K := ⟨K, w, none⟩) hr.units rfl) (pv 7) pe_int (nomark _)) (pss_cons (ps_set (i := 10) S.nd rfl (by first | exact Or.inl rfl | exact Or.inr rfl) (pe_ifExp (pt_cmpR (oEq (K := ⟨K, w, none⟩) hr.units rfl) (pe_dX (takes_of rfl rfl rfl rfl) G__law_draw hr (by rfl) (pa_cons (pv 0) (pa_cons pe_int pa_nil))) pe_int (nomark _)) (pe_op (oRepW (K := ⟨K, w, none⟩) rfl) (pe_tup (pa_cons (pe_tup (pa_cons pe_str pa_nil)) pa_nil)) (pe_ix (oIx (K := ⟨K, w, none⟩) rfl) (pe_lst (pa_cons pe_int (pa_cons pe_int (pa_cons pe_int pa_nil)))) (pe_dX (takes_of rfl rfl rfl rfl) G__law_draw hr (by rfl) (pa_cons (pv 0) (pa_cons pe_int pa_nil))) (fun _ _ => rfl))) (pe_tup pa_nil)))
        (pss_one (ps_ret (pe_tup (pa_cons (pv 2) (pa_cons (pv 3) (pa_cons (pv 4) (pa_cons (pv 5) (pa_cons (pe_ix (oIx (K := ⟨K, w, none⟩) rfl) (pe_lst (pa_cons (pe_callTy (oList (K := ⟨K, w, none⟩) rfl) (by rfl) T.list (by decide +kernel) (pa_cons (pv 6) pa_nil)) (pa_cons (pv 10) (pa_cons pe_non (pa_cons pe_str (pa_cons (pe_ix (oIx (K := ⟨K, w, none⟩) rfl) (pv 6) pe_int (fun _ _ => rfl)) pa_nil)))))) (pe_dX (takes_of rfl rfl rfl rfl) G__law_draw hr (by rfl) (pa_cons (pv 0) (pa_cons pe_int pa_nil))) (fun _ _ => rfl)) pa_nil))))))))) pss_nil)
    (pss_cons (ps_set (i := 8) S.nd rfl (by first | exact Or.inl rfl | exact Or.inr rfl) (pe_dX (takes_of rfl rfl rfl rfl) G__law_draw hr (by rfl) (pa_cons (pv 0) (pa_cons (pe_callB (oLen (K := ⟨K, w, none⟩) rfl rfl) (by rfl) T.len (by decide +kernel) (pa_cons (pv 6) pa_nil)) pa_nil))))
    (pss_one (ps_ret (pe_tup (pa_cons (pv 2) (pa_cons (pv 3) (pa_cons (pv 4) (pa_cons (pv 5) (pa_cons (pe_op (oAdd (K := ⟨K, w, none⟩) rfl) (pe_op (oAdd (K := ⟨K, w, none⟩) rfl) (pe_slice (oSl (K := ⟨K, w, none⟩) rfl) (pv 6) po_none (po_some (pv 8))) (pe_tup (pa_cons (pe_dX (takes_of rfl rfl rfl rfl) G__law_item_changed hr (by rfl) (pa_cons (pv 0) (pa_cons (pe_ix (oIx (K := ⟨K, w, none⟩) rfl) (pv 6) (pv 8) (fun _ _ => rfl)) pa_nil))) pa_nil))) (pe_slice (oSl (K := ⟨K, w, none⟩) rfl) (pv 6) (po_some (pe_op (oAdd (K := ⟨K, w, none⟩) rfl) (pv 8) pe_int)) po_none)) pa_nil))))))))))))))))),
    run_start (k := K) (w := w) (N := N__law_changed) (s := b__law_changed) (tsf_seq (tsf_asg tef_var (tgf_tup (tgsf_cons tgf_name (tgsf_cons tgf_name (tgsf_cons tgf_name (tgsf_cons tgf_name (tgsf_cons tgf_name tgsf_nil)))))))
    (tsf_seq (tsf_asg (tef_call (taf_cons tef_var (taf_cons tef_int taf_nil))) tgf_name)
    (tsf_seq (tsf_asg (tef_call (taf_cons tef_var (taf_cons tef_var taf_nil))) tgf_name)
    (tsf_seq (tsf_if (tbf_test (tef_op r_eq tef_var tef_int)) (tsf_ret (tef_tup (taf_cons (tef_op r_ix (tef_lst (taf_cons (tef_call (taf_cons tef_var (taf_cons tef_var taf_nil))) (taf_cons tef_int (taf_cons tef_int (taf_cons tef_int taf_nil))))) (tef_call (taf_cons tef_var (taf_cons tef_int taf_nil)))) (taf_cons tef_var (taf_cons tef_var (taf_cons tef_var (taf_cons tef_var taf_nil))))))) tsf_next)
    (tsf_seq (tsf_if (tbf_test (tef_op r_eq tef_var tef_int)) (tsf_ret (tef_tup (taf_cons tef_var (taf_cons (tef_op r_ix (tef_lst (taf_cons (tef_call (taf_cons tef_var (taf_cons tef_var taf_nil))) (taf_cons tef_int (taf_cons tef_int (taf_cons tef_int taf_nil))))) (tef_call (taf_cons tef_var (taf_cons tef_int taf_nil)))) (taf_cons tef_var (taf_cons tef_var (taf_cons tef_var taf_nil))))))) tsf_next)
    (tsf_seq (tsf_if (tbf_test (tef_op r_eq tef_var tef_int)) (tsf_seq (tsf_asg (tef_op r_addG (tef_op r_addG (tef_sl rs_G tef_var tof_no (tof_at tef_var)) (tef_tup (taf_cons (tef_call (taf_cons tef_var (taf_cons (tef_op r_ix tef_var tef_var) taf_nil))) taf_nil))) (tef_sl rs_G tef_var (tof_at (tef_op r_addG tef_var tef_int)) tof_no)) tgf_name)
        (tsf_ret (tef_tup (taf_cons tef_var (taf_cons tef_var (taf_cons (tef_op r_ix (tef_lst (taf_cons tef_var (taf_cons (tef_B rl_lstOf (taf_cons tef_var taf_nil)) (taf_cons (tef_op r_addG tef_var (tef_tup (taf_cons tef_int taf_nil))) (taf_cons (tef_sl rs_G tef_var (tof_at tef_int) tof_no) taf_nil))))) (tef_call (taf_cons tef_var (taf_cons tef_int taf_nil)))) (taf_cons tef_var (taf_cons tef_var taf_nil)))))))) tsf_next)
    (tsf_seq (tsf_if (tbf_test (tef_op r_eq tef_var tef_int)) (tsf_ret (tef_tup (taf_cons tef_var (taf_cons tef_var (taf_cons tef_var (taf_cons (tef_op r_ix (tef_lst (taf_cons (tef_call (taf_cons tef_var (taf_cons tef_int taf_nil))) (taf_cons tef_int (taf_cons tef_int (taf_cons tef_non taf_nil))))) (tef_call (taf_cons tef_var (taf_cons tef_int taf_nil)))) (taf_cons tef_var taf_nil))))))) tsf_next)
    (tsf_seq (tsf_if (tbf_test (tef_op r_eq tef_var tef_int)) (tsf_seq (tsf_asg (tef_if (tbf_test (tef_op r_eq (tef_call (taf_cons tef_var (taf_cons tef_int taf_nil))) tef_int)) (tef_op r_repW (tef_tup (taf_cons (tef_tup (taf_cons tef_str taf_nil)) taf_nil)) (tef_op r_ix (tef_lst (taf_cons tef_int (taf_cons tef_int (taf_cons tef_int taf_nil)))) (tef_call (taf_cons tef_var (taf_cons tef_int taf_nil))))) (tef_tup taf_nil)) tgf_name)
        (tsf_ret (tef_tup (taf_cons tef_var (taf_cons tef_var (taf_cons tef_var (taf_cons tef_var (taf_cons (tef_op r_ix (tef_lst (taf_cons (tef_B rl_lstOf (taf_cons tef_var taf_nil)) (taf_cons tef_var (taf_cons tef_non (taf_cons tef_str (taf_cons (tef_op r_ix tef_var tef_int) taf_nil)))))) (tef_call (taf_cons tef_var (taf_cons tef_int taf_nil)))) taf_nil)))))))) tsf_next)
    (tsf_seq (tsf_asg (tef_call (taf_cons tef_var (taf_cons (tef_B rl_lenG (taf_cons tef_var taf_nil)) taf_nil))) tgf_name)
    (tsf_ret (tef_tup (taf_cons tef_var (taf_cons tef_var (taf_cons tef_var (taf_cons tef_var (taf_cons (tef_op r_addG (tef_op r_addG (tef_sl rs_G tef_var tof_no (tof_at tef_var)) (tef_tup (taf_cons (tef_call (taf_cons tef_var (taf_cons (tef_op r_ix tef_var tef_var) taf_nil))) taf_nil))) (tef_sl rs_G tef_var (tof_at (tef_op r_addG tef_var tef_int)) tof_no)) taf_nil)))))))))))))))) h (fun ds μ ρ vs H Q E _ _ _ q => q)⟩
theorem sc_is_integer : FnScope N_is_integer ["thing"] (defScope s_is_integer) := ⟨rfl, rfl, rfl, by decide +kernel, rfl, by decide +kernel, by decide +kernel⟩
theorem ok_is_integer {f : Addr} {fd : FuncData} (F : Fun K "is_integer" "is_integer" s_is_integer f fd) (T : Txt P K mg a) : FnOk P w K mg base (L2.CX P w) 1 f fd ["thing"] (spD ⟨K, w, none⟩ 1 g_is_integer) := by
  have S := sc_is_integer
  refine F.okX S (fun vs H Q E h => spD_len h) (fun cdv A outer s H vs Q E hr h => ?_)
  exact ⟨_, (pss_one (ps_ret (pe_and (pe_callB (oIsi (K := ⟨K, w, none⟩) rfl) (by rfl) T.isinstance (by decide +kernel) (pa_cons (pv 0) (pa_cons (pe_bltn (v := .ty "int") (by rfl) T.int (by decide +kernel) rfl) pa_nil))) (pe_one (pe_not (pe_callB (oIsi (K := ⟨K, w, none⟩) rfl) (by rfl) T.isinstance (by decide +kernel) (pa_cons (pv 0) (pa_cons (pe_bltn (v := .ty "bool") (by rfl) T.bool (by decide +kernel) rfl) pa_nil)))))))),
    run_start (k := K) (w := w) (N := N_is_integer) (s := b_is_integer) (tsf_ret (tef_and (tef_B rl_isi (taf_cons tef_var (taf_cons (tef_con fun _ _ => .ty "int") taf_nil))) (tef_not (tef_B rl_isi (taf_cons tef_var (taf_cons (tef_con fun _ _ => .ty "bool") taf_nil)))))) h (fun ds μ ρ vs H Q E _ _ _ q => q)⟩
theorem sc_is_between : FnScope N_is_between ["low", "high", "thing"] (defScope s_is_between) := ⟨rfl, rfl, rfl, by decide +kernel, rfl, by decide +kernel, by decide +kernel⟩
theorem ok_is_between {f : Addr} {fd : FuncData} (F : Fun K "is_between" "is_between" s_is_between f fd) (T : Txt P K mg a) (G_is_integer : DefOk P w K mg base "is_integer" 1 ["thing"] (spD ⟨K, w, none⟩ 1 g_is_integer)) : FnOk P w K mg base (L2.CX P w) 2 f fd ["low", "high", "thing"] (spD ⟨K, w, none⟩ 3 g_is_between) := by
  have S := sc_is_between
  refine F.okX S (fun vs H Q E h => spD_len h) (fun cdv A outer s H vs Q E hr h => ?_)
  exact ⟨_, (pss_one (ps_ret (pe_and (pe_dX (takes_of rfl rfl rfl rfl) G_is_integer hr (by rfl) (pa_cons (pv 2) pa_nil)) (pe_one (pe_chain op_le op_le (pv 0) (pv 2) (pv 1)))))),
    run_start (k := K) (w := w) (N := N_is_between) (s := b_is_between) (tsf_ret (tef_and (tef_call (taf_cons tef_var taf_nil)) (tef_chain r_le r_le tef_var tef_var tef_var))) h (fun ds μ ρ vs H Q E _ _ _ q => q)⟩
theorem sc_is_tuple_of : FnScope N_is_tuple_of ["many", "thing"] (defScope s_is_tuple_of) := ⟨rfl, rfl, rfl, by decide +kernel, rfl, by decide +kernel, by decide +kernel⟩
theorem ok_is_tuple_of {f : Addr} {fd : FuncData} (F : Fun K "is_tuple_of" "is_tuple_of" s_is_tuple_of f fd) (T : Txt P K mg a) : FnOk P w K mg base (L2.CX P w) 1 f fd ["many", "thing"] (spD ⟨K, w, none⟩ 2 g_is_tuple_of) := by
  have S := sc_is_tuple_of
  refine F.okX S (fun vs H Q E h => spD_len h) (fun cdv A outer s H vs Q E hr h => ?_)
  exact ⟨_, (pss_one (ps_ret (pe_and (pe_callB (oIsi (K := ⟨K, w, none⟩) rfl) (by rfl) T.isinstance (by decide +kernel) (pa_cons (pv 1) (pa_cons (pe_bltn (v := .ty "tuple") (by rfl) T.tuple (by decide +kernel) rfl) pa_nil))) (pe_one (pe_cmpR (oEq (K := ⟨K, w, none⟩) hr.units rfl) (pe_callB (oLen (K := ⟨K, w, none⟩) rfl rfl) (by rfl) T.len (by decide +kernel) (pa_cons (pv 1) pa_nil)) (pv 0) (nomark _)))))),
    run_start (k := K) (w := w) (N := N_is_tuple_of) (s := b_is_tuple_of) (tsf_ret (tef_and (tef_B rl_isi (taf_cons tef_var (taf_cons (tef_con fun _ _ => .ty "tuple") taf_nil))) (tef_op r_eq (tef_B rl_lenG (taf_cons tef_var taf_nil)) tef_var))) h (fun ds μ ρ vs H Q E _ _ _ q => q)⟩
theorem sc_is_dealing : FnScope N_is_dealing ["rows", "thing"] (defScope s_is_dealing) := ⟨rfl, rfl, rfl, by decide +kernel, rfl, by decide +kernel, by decide +kernel⟩
theorem ok_is_dealing {f : Addr} {fd : FuncData} (F : Fun K "is_dealing" "is_dealing" s_is_dealing f fd) (T : Txt P K mg a) (G_is_tuple_of : DefOk P w K mg base "is_tuple_of" 1 ["many", "thing"] (spD ⟨K, w, none⟩ 2 g_is_tuple_of)) (G_is_between : DefOk P w K mg base "is_between" 2 ["low", "high", "thing"] (spD ⟨K, w, none⟩ 3 g_is_between)) : FnOk P w K mg base (L2.CX P w) 3 f fd ["rows", "thing"] (spD ⟨K, w, none⟩ 2 g_is_dealing) := by
  have S := sc_is_dealing
  refine F.okX S (fun vs H Q E h => spD_len h) (fun cdv A outer s H vs Q E hr h => ?_)
  exact ⟨_, (pss_cons (ps_if (pt_not (oTru (K := ⟨K, w, none⟩) rfl (pe_dX (takes_of rfl rfl rfl rfl) G_is_tuple_of hr (by rfl) (pa_cons (pv 0) (pa_cons (pv 1) pa_nil))) (by intro _; rfl))) (pss_one (ps_ret pe_bl)) pss_nil)
    (pss_cons (ps_for (passes_of rfl) rfl (oTupI (K := ⟨K, w, none⟩) rfl (pv 1)) (pg_name (i := 2) S.nd rfl (by first | exact Or.inl rfl | exact Or.inr rfl)) (pss_one (ps_if (pt_not (oTru (K := ⟨K, w, none⟩) rfl (pe_dX (takes_of rfl rfl rfl rfl) G_is_between hr (by rfl) (pa_cons pe_int (pa_cons (pe_op op_sub (pv 0) pe_int) (pa_cons (pv 2) pa_nil)))) (by intro _; rfl))) (pss_one (ps_ret pe_bl)) pss_nil)))
    (pss_one (ps_ret (pe_cmpR (oEq (K := ⟨K, w, none⟩) hr.units rfl) (pe_callB (oLen (K := ⟨K, w, none⟩) rfl rfl) (by rfl) T.len (by decide +kernel) (pa_cons (pe_callTy (oSet (K := ⟨K, w, none⟩) rfl rfl rfl) (by rfl) T.set (by decide +kernel) (pa_cons (pv 1) pa_nil)) pa_nil)) (pe_op (oAdd (K := ⟨K, w, none⟩) rfl) (pe_callB (oMax (K := ⟨K, w, none⟩) rfl hr.units rfl) (by rfl) T.max (by decide +kernel) (pa_cons (pv 1) pa_nil)) pe_int) (nomark _)))))),
    run_start (k := K) (w := w) (N := N_is_dealing) (s := b_is_dealing) (tsf_seq (tsf_if (tbf_not (tbf_tru (tef_call (taf_cons tef_var (taf_cons tef_var taf_nil))))) (tsf_ret tef_bl) tsf_next)
    (tsf_seq (tsf_for (tif_tup tef_var) tgf_name (tsf_if (tbf_not (tbf_tru (tef_call (taf_cons tef_int (taf_cons (tef_op r_sub tef_var tef_int) (taf_cons tef_var taf_nil)))))) (tsf_ret tef_bl) tsf_next))
    (tsf_ret (tef_op r_eq (tef_B rl_lenG (taf_cons (tef_B rl_setT (taf_cons tef_var taf_nil)) taf_nil)) (tef_op r_addG (tef_B rl_maxG (taf_cons tef_var taf_nil)) tef_int))))) h (fun ds μ ρ vs H Q E _ _ _ q => q)⟩
theorem sc_is_depth : FnScope N_is_depth ["hands", "thing"] (defScope s_is_depth) := ⟨rfl, rfl, rfl, by decide +kernel, rfl, by decide +kernel, by decide +kernel⟩
theorem ok_is_depth {f : Addr} {fd : FuncData} (F : Fun K "is_depth" "is_depth" s_is_depth f fd) (T : Txt P K mg a) (G_is_between : DefOk P w K mg base "is_between" 2 ["low", "high", "thing"] (spD ⟨K, w, none⟩ 3 g_is_between)) : FnOk P w K mg base (L2.CX P w) 3 f fd ["hands", "thing"] (spD ⟨K, w, none⟩ 2 g_is_depth) := by
  have S := sc_is_depth
  obtain ⟨t_MOST_DEPTH, g_MOST_DEPTH⟩ := T.g_MOST_DEPTH
  refine F.okX S (fun vs H Q E h => spD_len h) (fun cdv A outer s H vs Q E hr h => ?_)
  exact ⟨_, (pss_cons (ps_if (pt_cmpR op_isN (pv 1) pe_non (nomark _)) (pss_one (ps_ret (pe_cmpR (oEq (K := ⟨K, w, none⟩) hr.units rfl) (pv 0) pe_int (nomark _)))) pss_nil)
    (pss_one (ps_ret (pe_dX (takes_of rfl rfl rfl rfl) G_is_between hr (by rfl) (pa_cons pe_int (pa_cons (pe_glob (v := .int 60) rfl g_MOST_DEPTH ⟨_, rfl⟩) (pa_cons (pv 1) pa_nil))))))),
    run_start (k := K) (w := w) (N := N_is_depth) (s := b_is_depth) (tsf_seq (tsf_if (tbf_test (tef_op r_isN tef_var tef_non)) (tsf_ret (tef_op r_eq tef_var tef_int)) tsf_next)
    (tsf_ret (tef_call (taf_cons tef_int (taf_cons tef_int (taf_cons tef_var taf_nil)))))) h (fun ds μ ρ vs H Q E _ _ _ q => q)⟩
theorem sc_is_table : FnScope N_is_table ["most", "thing"] (defScope s_is_table) := ⟨rfl, rfl, rfl, by decide +kernel, rfl, by decide +kernel, by decide +kernel⟩
theorem ok_is_table {f : Addr} {fd : FuncData} (F : Fun K "is_table" "is_table" s_is_table f fd) (T : Txt P K mg a) : FnOk P w K mg base (L2.CX P w) 1 f fd ["most", "thing"] (spD ⟨K, w, none⟩ 2 g_is_table) := by
  have S := sc_is_table
  refine F.okX S (fun vs H Q E h => spD_len h) (fun cdv A outer s H vs Q E hr h => ?_)
  exact ⟨_, (pss_one (ps_ret (pe_and (pe_callB (oIsi (K := ⟨K, w, none⟩) rfl) (by rfl) T.isinstance (by decide +kernel) (pa_cons (pv 1) (pa_cons (pe_bltn (v := .ty "tuple") (by rfl) T.tuple (by decide +kernel) rfl) pa_nil))) (pe_one (pe_chain op_le op_le pe_int (pe_callB (oLen (K := ⟨K, w, none⟩) rfl rfl) (by rfl) T.len (by decide +kernel) (pa_cons (pv 1) pa_nil)) (pv 0)))))),
    run_start (k := K) (w := w) (N := N_is_table) (s := b_is_table) (tsf_ret (tef_and (tef_B rl_isi (taf_cons tef_var (taf_cons (tef_con fun _ _ => .ty "tuple") taf_nil))) (tef_chain r_le r_le tef_int (tef_B rl_lenG (taf_cons tef_var taf_nil)) tef_var))) h (fun ds μ ρ vs H Q E _ _ _ q => q)⟩
theorem sc_is_item : FnScope N_is_item ["kind", "size", "thing"] (defScope s_is_item) := ⟨rfl, rfl, rfl, by decide +kernel, rfl, by decide +kernel, by decide +kernel⟩
theorem ok_is_item {f : Addr} {fd : FuncData} (F : Fun K "is_item" "is_item" s_is_item f fd) (T : Txt P K mg a) (G_is_tuple_of : DefOk P w K mg base "is_tuple_of" 1 ["many", "thing"] (spD ⟨K, w, none⟩ 2 g_is_tuple_of)) : FnOk P w K mg base (L2.CX P w) 2 f fd ["kind", "size", "thing"] (spD ⟨K, w, none⟩ 3 g_is_item) := by
  have S := sc_is_item
  refine F.okX S (fun vs H Q E h => spD_len h) (fun cdv A outer s H vs Q E hr h => ?_)
  exact ⟨_, (pss_one (ps_ret (pe_and (pe_dX (takes_of rfl rfl rfl rfl) G_is_tuple_of hr (by rfl) (pa_cons (pv 1) (pa_cons (pv 2) pa_nil))) (pe_and (pe_callB (oIsi (K := ⟨K, w, none⟩) rfl) (by rfl) T.isinstance (by decide +kernel) (pa_cons (pe_ix (oIx (K := ⟨K, w, none⟩) rfl) (pv 2) pe_int (fun _ _ => rfl)) (pa_cons (pe_bltn (v := .ty "str") (by rfl) T.str (by decide +kernel) rfl) pa_nil))) (pe_one (pe_cmpR (oEq (K := ⟨K, w, none⟩) hr.units rfl) (pe_ix (oIx (K := ⟨K, w, none⟩) rfl) (pv 2) pe_int (fun _ _ => rfl)) (pv 0) (nomark _))))))),
    run_start (k := K) (w := w) (N := N_is_item) (s := b_is_item) (tsf_ret (tef_and (tef_call (taf_cons tef_var (taf_cons tef_var taf_nil))) (tef_and (tef_B rl_isi (taf_cons (tef_op r_ix tef_var tef_int) (taf_cons (tef_con fun _ _ => .ty "str") taf_nil))) (tef_op r_eq (tef_op r_ix tef_var tef_int) tef_var)))) h (fun ds μ ρ vs H Q E _ _ _ q => q)⟩
theorem sc_is_nexts : FnScope N_is_nexts ["letters", "many", "thing"] (defScope s_is_nexts) := ⟨rfl, rfl, rfl, by decide +kernel, rfl, by decide +kernel, by decide +kernel⟩
theorem ok_is_nexts {f : Addr} {fd : FuncData} (F : Fun K "is_nexts" "is_nexts" s_is_nexts f fd) (T : Txt P K mg a) (G_is_tuple_of : DefOk P w K mg base "is_tuple_of" 1 ["many", "thing"] (spD ⟨K, w, none⟩ 2 g_is_tuple_of)) (G_is_between : DefOk P w K mg base "is_between" 2 ["low", "high", "thing"] (spD ⟨K, w, none⟩ 3 g_is_between)) : FnOk P w K mg base (L2.CX P w) 3 f fd ["letters", "many", "thing"] (spD ⟨K, w, none⟩ 3 g_is_nexts) := by
  have S := sc_is_nexts
  refine F.okX S (fun vs H Q E h => spD_len h) (fun cdv A outer s H vs Q E hr h => ?_)
  exact ⟨_, (pss_cons (ps_if (pt_not (oTru (K := ⟨K, w, none⟩) rfl (pe_dX (takes_of rfl rfl rfl rfl) G_is_tuple_of hr (by rfl) (pa_cons (pe_op (oAdd (K := ⟨K, w, none⟩) rfl) (pv 0) pe_int) (pa_cons (pv 2) pa_nil))) (by intro _; rfl))) (pss_one (ps_ret pe_bl)) pss_nil)
    (pss_cons (ps_for (passes_of rfl) rfl (oTupI (K := ⟨K, w, none⟩) rfl (pv 2)) (pg_name (i := 3) S.nd rfl (by first | exact Or.inl rfl | exact Or.inr rfl)) (pss_one (ps_if (pt_not (oTru (K := ⟨K, w, none⟩) rfl (pe_dX (takes_of rfl rfl rfl rfl) G_is_between hr (by rfl) (pa_cons pe_int (pa_cons (pe_op op_sub (pv 1) pe_int) (pa_cons (pv 3) pa_nil)))) (by intro _; rfl))) (pss_one (ps_ret pe_bl)) pss_nil)))
    (pss_one (ps_ret pe_bl)))),
    run_start (k := K) (w := w) (N := N_is_nexts) (s := b_is_nexts) (tsf_seq (tsf_if (tbf_not (tbf_tru (tef_call (taf_cons (tef_op r_addG tef_var tef_int) (taf_cons tef_var taf_nil))))) (tsf_ret tef_bl) tsf_next)
    (tsf_seq (tsf_for (tif_tup tef_var) tgf_name (tsf_if (tbf_not (tbf_tru (tef_call (taf_cons tef_int (taf_cons (tef_op r_sub tef_var tef_int) (taf_cons tef_var taf_nil)))))) (tsf_ret tef_bl) tsf_next))
    (tsf_ret tef_bl))) h (fun ds μ ρ vs H Q E _ _ _ q => q)⟩
theorem sc_is_numbered : FnScope N_is_numbered ["kind", "below", "letters", "many", "thing"] (defScope s_is_numbered) := ⟨rfl, rfl, rfl, by decide +kernel, rfl, by decide +kernel, by decide +kernel⟩
theorem ok_is_numbered {f : Addr} {fd : FuncData} (F : Fun K "is_numbered" "is_numbered" s_is_numbered f fd) (T : Txt P K mg a) (G_is_item : DefOk P w K mg base "is_item" 2 ["kind", "size", "thing"] (spD ⟨K, w, none⟩ 3 g_is_item)) (G_is_between : DefOk P w K mg base "is_between" 2 ["low", "high", "thing"] (spD ⟨K, w, none⟩ 3 g_is_between)) (G_is_nexts : DefOk P w K mg base "is_nexts" 3 ["letters", "many", "thing"] (spD ⟨K, w, none⟩ 3 g_is_nexts)) : FnOk P w K mg base (L2.CX P w) 4 f fd ["kind", "below", "letters", "many", "thing"] (spD ⟨K, w, none⟩ 5 g_is_numbered) := by
  have S := sc_is_numbered
  refine F.okX S (fun vs H Q E h => spD_len h) (fun cdv A outer s H vs Q E hr h => ?_)
  exact ⟨_, (pss_one (ps_ret (pe_and (pe_dX (takes_of rfl rfl rfl rfl) G_is_item hr (by rfl) (pa_cons (pv 0) (pa_cons pe_int (pa_cons (pv 4) pa_nil)))) (pe_and (pe_dX (takes_of rfl rfl rfl rfl) G_is_between hr (by rfl) (pa_cons pe_int (pa_cons (pe_op op_sub (pv 1) pe_int) (pa_cons (pe_ix (oIx (K := ⟨K, w, none⟩) rfl) (pv 4) pe_int (fun _ _ => rfl)) pa_nil)))) (pe_one (pe_dX (takes_of rfl rfl rfl rfl) G_is_nexts hr (by rfl) (pa_cons (pv 2) (pa_cons (pv 3) (pa_cons (pe_ix (oIx (K := ⟨K, w, none⟩) rfl) (pv 4) pe_int (fun _ _ => rfl)) pa_nil))))))))),
    run_start (k := K) (w := w) (N := N_is_numbered) (s := b_is_numbered) (tsf_ret (tef_and (tef_call (taf_cons tef_var (taf_cons tef_int (taf_cons tef_var taf_nil)))) (tef_and (tef_call (taf_cons tef_int (taf_cons (tef_op r_sub tef_var tef_int) (taf_cons (tef_op r_ix tef_var tef_int) taf_nil)))) (tef_call (taf_cons tef_var (taf_cons tef_var (taf_cons (tef_op r_ix tef_var tef_int) taf_nil))))))) h (fun ds μ ρ vs H Q E _ _ _ q => q)⟩
theorem sc_is_leave : FnScope N_is_leave ["hands", "many", "thing"] (defScope s_is_leave) := ⟨rfl, rfl, rfl, by decide +kernel, rfl, by decide +kernel, by decide +kernel⟩
theorem ok_is_leave {f : Addr} {fd : FuncData} (F : Fun K "is_leave" "is_leave" s_is_leave f fd) (T : Txt P K mg a) (G_is_item : DefOk P w K mg base "is_item" 2 ["kind", "size", "thing"] (spD ⟨K, w, none⟩ 3 g_is_item)) (G_is_between : DefOk P w K mg base "is_between" 2 ["low", "high", "thing"] (spD ⟨K, w, none⟩ 3 g_is_between)) : FnOk P w K mg base (L2.CX P w) 3 f fd ["hands", "many", "thing"] (spD ⟨K, w, none⟩ 3 g_is_leave) := by
  have S := sc_is_leave
  refine F.okX S (fun vs H Q E h => spD_len h) (fun cdv A outer s H vs Q E hr h => ?_)
  exact ⟨_, (pss_one (ps_ret (pe_and (pe_dX (takes_of rfl rfl rfl rfl) G_is_item hr (by rfl) (pa_cons pe_str (pa_cons pe_int (pa_cons (pv 2) pa_nil)))) (pe_and (pe_dX (takes_of rfl rfl rfl rfl) G_is_between hr (by rfl) (pa_cons pe_int (pa_cons (pe_op op_sub (pv 0) pe_int) (pa_cons (pe_ix (oIx (K := ⟨K, w, none⟩) rfl) (pv 2) pe_int (fun _ _ => rfl)) pa_nil)))) (pe_one (pe_dX (takes_of rfl rfl rfl rfl) G_is_between hr (by rfl) (pa_cons pe_int (pa_cons (pe_op op_sub (pv 1) pe_int) (pa_cons (pe_ix (oIx (K := ⟨K, w, none⟩) rfl) (pv 2) pe_int (fun _ _ => rfl)) pa_nil))))))))),
    run_start (k := K) (w := w) (N := N_is_leave) (s := b_is_leave) (tsf_ret (tef_and (tef_call (taf_cons tef_str (taf_cons tef_int (taf_cons tef_var taf_nil)))) (tef_and (tef_call (taf_cons tef_int (taf_cons (tef_op r_sub tef_var tef_int) (taf_cons (tef_op r_ix tef_var tef_int) taf_nil)))) (tef_call (taf_cons tef_int (taf_cons (tef_op r_sub tef_var tef_int) (taf_cons (tef_op r_ix tef_var tef_int) taf_nil))))))) h (fun ds μ ρ vs H Q E _ _ _ q => q)⟩
theorem sc_is_word : FnScope N_is_word ["thing"] (defScope s_is_word) := ⟨rfl, rfl, rfl, by decide +kernel, rfl, by decide +kernel, by decide +kernel⟩
theorem ok_is_word {f : Addr} {fd : FuncData} (F : Fun K "is_word" "is_word" s_is_word f fd) (T : Txt P K mg a) : FnOk P w K mg base (L2.CX P w) 1 f fd ["thing"] (spD ⟨K, w, none⟩ 1 g_is_word) := by
  have S := sc_is_word
  obtain ⟨t_ALPHABET, g_ALPHABET⟩ := T.g_ALPHABET
  refine F.okX S (fun vs H Q E h => spD_len h) (fun cdv A outer s H vs Q E hr h => ?_)
  exact ⟨_, (pss_one (ps_ret (pe_and (pe_callB (oIsi (K := ⟨K, w, none⟩) rfl) (by rfl) T.isinstance (by decide +kernel) (pa_cons (pv 0) (pa_cons (pe_bltn (v := .ty "str") (by rfl) T.str (by decide +kernel) rfl) pa_nil))) (pe_and (pe_chain op_le op_le pe_int (pe_callB (oLen (K := ⟨K, w, none⟩) rfl rfl) (by rfl) T.len (by decide +kernel) (pa_cons (pv 0) pa_nil)) pe_int) (pe_one (pe_cmpR (oEq (K := ⟨K, w, none⟩) hr.units rfl) (oBm (K := ⟨K, w, none⟩) rfl (pe_bm PySem.F.plainAttrs_str PySem.F.slot_str_strip PySem.F.type_str_strip mt_stripChars (pv 0) (pa_cons (pe_glob (v := .str "abcdefghijklmnopqrstuvwxyz") rfl g_ALPHABET ⟨_, rfl⟩) pa_nil))) pe_str (nomark _))))))),
    run_start (k := K) (w := w) (N := N_is_word) (s := b_is_word) (tsf_ret (tef_and (tef_B rl_isi (taf_cons tef_var (taf_cons (tef_con fun _ _ => .ty "str") taf_nil))) (tef_and (tef_chain r_le r_le tef_int (tef_B rl_lenG (taf_cons tef_var taf_nil)) tef_int) (tef_op r_eq (tef_bm rm_strip tef_var (taf_cons tef_str taf_nil)) tef_str)))) h (fun ds μ ρ vs H Q E _ _ _ q => q)⟩
theorem sc_is_say : FnScope N_is_say ["many", "thing"] (defScope s_is_say) := ⟨rfl, rfl, rfl, by decide +kernel, rfl, by decide +kernel, by decide +kernel⟩
theorem ok_is_say {f : Addr} {fd : FuncData} (F : Fun K "is_say" "is_say" s_is_say f fd) (T : Txt P K mg a) (G_is_item : DefOk P w K mg base "is_item" 2 ["kind", "size", "thing"] (spD ⟨K, w, none⟩ 3 g_is_item)) (G_is_word : DefOk P w K mg base "is_word" 1 ["thing"] (spD ⟨K, w, none⟩ 1 g_is_word)) (G_is_between : DefOk P w K mg base "is_between" 2 ["low", "high", "thing"] (spD ⟨K, w, none⟩ 3 g_is_between)) : FnOk P w K mg base (L2.CX P w) 3 f fd ["many", "thing"] (spD ⟨K, w, none⟩ 2 g_is_say) := by
  have S := sc_is_say
  refine F.okX S (fun vs H Q E h => spD_len h) (fun cdv A outer s H vs Q E hr h => ?_)
  exact ⟨_, (pss_one (ps_ret (pe_and (pe_dX (takes_of rfl rfl rfl rfl) G_is_item hr (by rfl) (pa_cons pe_str (pa_cons pe_int (pa_cons (pv 1) pa_nil)))) (pe_and (pe_dX (takes_of rfl rfl rfl rfl) G_is_word hr (by rfl) (pa_cons (pe_ix (oIx (K := ⟨K, w, none⟩) rfl) (pv 1) pe_int (fun _ _ => rfl)) pa_nil)) (pe_one (pe_dX (takes_of rfl rfl rfl rfl) G_is_between hr (by rfl) (pa_cons pe_int (pa_cons (pe_op op_sub (pv 0) pe_int) (pa_cons (pe_ix (oIx (K := ⟨K, w, none⟩) rfl) (pv 1) pe_int (fun _ _ => rfl)) pa_nil))))))))),
    run_start (k := K) (w := w) (N := N_is_say) (s := b_is_say) (tsf_ret (tef_and (tef_call (taf_cons tef_str (taf_cons tef_int (taf_cons tef_var taf_nil)))) (tef_and (tef_call (taf_cons (tef_op r_ix tef_var tef_int) taf_nil)) (tef_call (taf_cons tef_int (taf_cons (tef_op r_sub tef_var tef_int) (taf_cons (tef_op r_ix tef_var tef_int) taf_nil))))))) h (fun ds μ ρ vs H Q E _ _ _ q => q)⟩
theorem sc_is_stop : FnScope N_is_stop ["thing"] (defScope s_is_stop) := ⟨rfl, rfl, rfl, by decide +kernel, rfl, by decide +kernel, by decide +kernel⟩
theorem ok_is_stop {f : Addr} {fd : FuncData} (F : Fun K "is_stop" "is_stop" s_is_stop f fd) (T : Txt P K mg a) (G_is_item : DefOk P w K mg base "is_item" 2 ["kind", "size", "thing"] (spD ⟨K, w, none⟩ 3 g_is_item)) : FnOk P w K mg base (L2.CX P w) 3 f fd ["thing"] (spD ⟨K, w, none⟩ 1 g_is_stop) := by
  have S := sc_is_stop
  refine F.okX S (fun vs H Q E h => spD_len h) (fun cdv A outer s H vs Q E hr h => ?_)
  exact ⟨_, (pss_one (ps_ret (pe_dX (takes_of rfl rfl rfl rfl) G_is_item hr (by rfl) (pa_cons pe_str (pa_cons pe_int (pa_cons (pv 0) pa_nil)))))),
    run_start (k := K) (w := w) (N := N_is_stop) (s := b_is_stop) (tsf_ret (tef_call (taf_cons tef_str (taf_cons tef_int (taf_cons tef_var taf_nil))))) h (fun ds μ ρ vs H Q E _ _ _ q => q)⟩
theorem sc_is_program_table : FnScope N_is_program_table ["rows", "letters", "hands", "thing"] (defScope s_is_program_table) := ⟨rfl, rfl, rfl, by decide +kernel, rfl, by decide +kernel, by decide +kernel⟩
theorem ok_is_program_table {f : Addr} {fd : FuncData} (F : Fun K "is_program_table" "is_program_table" s_is_program_table f fd) (T : Txt P K mg a) (G_is_table : DefOk P w K mg base "is_table" 1 ["most", "thing"] (spD ⟨K, w, none⟩ 2 g_is_table)) (G_is_numbered : DefOk P w K mg base "is_numbered" 4 ["kind", "below", "letters", "many", "thing"] (spD ⟨K, w, none⟩ 5 g_is_numbered)) (G_is_leave : DefOk P w K mg base "is_leave" 3 ["hands", "many", "thing"] (spD ⟨K, w, none⟩ 3 g_is_leave)) (G_is_say : DefOk P w K mg base "is_say" 3 ["many", "thing"] (spD ⟨K, w, none⟩ 2 g_is_say)) (G_is_stop : DefOk P w K mg base "is_stop" 3 ["thing"] (spD ⟨K, w, none⟩ 1 g_is_stop)) : FnOk P w K mg base (L2.CX P w) 5 f fd ["rows", "letters", "hands", "thing"] (spD ⟨K, w, none⟩ 4 g_is_program_table) := by
  have S := sc_is_program_table
  obtain ⟨t_MOST_STANDINGS, g_MOST_STANDINGS⟩ := T.g_MOST_STANDINGS
  refine F.okX S (fun vs H Q E h => spD_len h) (fun cdv A outer s H vs Q E hr h => ?_)
  exact ⟨_, (pss_cons (ps_if (pt_not (oTru (K := ⟨K, w, none⟩) rfl (pe_dX (takes_of rfl rfl rfl rfl) G_is_table hr (by rfl) (pa_cons (pe_glob (v := .int 20000) rfl g_MOST_STANDINGS ⟨_, rfl⟩) (pa_cons (pv 3) pa_nil))) (by intro _; rfl))) (pss_one (ps_ret pe_bl)) pss_nil)
    (pss_cons (ps_set (i := 4) S.nd rfl (by first | exact Or.inl rfl | exact Or.inr rfl) (pe_callB (oLen (K := ⟨K, w, none⟩) rfl rfl) (by rfl) T.len (by decide +kernel) (pa_cons (pv 3) pa_nil)))
    (pss_cons (ps_for (passes_of rfl) rfl (oTupI (K := ⟨K, w, none⟩) rfl (pv 3)) (pg_name (i := 5) S.nd rfl (by first | exact Or.inl rfl | exact Or.inr rfl)) (pss_cons (ps_set (i := 6) S.nd rfl (by first | exact Or.inl rfl | exact Or.inr rfl) (pe_or (pe_dX (takes_of rfl rfl rfl rfl) G_is_numbered hr (by rfl) (pa_cons pe_str (pa_cons (pv 0) (pa_cons (pv 1) (pa_cons (pv 4) (pa_cons (pv 5) pa_nil)))))) (pe_one (pe_dX (takes_of rfl rfl rfl rfl) G_is_numbered hr (by rfl) (pa_cons pe_str (pa_cons (pv 2) (pa_cons (pv 1) (pa_cons (pv 4) (pa_cons (pv 5) pa_nil)))))))))
        (pss_one (ps_if (pt_not (PW.pt (pw_or (oTru (K := ⟨K, w, none⟩) rfl (pv 6) (by intro _; rfl)) (pw_or (oTru (K := ⟨K, w, none⟩) rfl (pe_dX (takes_of rfl rfl rfl rfl) G_is_leave hr (by rfl) (pa_cons (pv 2) (pa_cons (pv 4) (pa_cons (pv 5) pa_nil)))) (by intro _; rfl)) (pw_or (oTru (K := ⟨K, w, none⟩) rfl (pe_dX (takes_of rfl rfl rfl rfl) G_is_say hr (by rfl) (pa_cons (pv 4) (pa_cons (pv 5) pa_nil))) (by intro _; rfl)) (pw_or1 (oTru (K := ⟨K, w, none⟩) rfl (pe_dX (takes_of rfl rfl rfl rfl) G_is_stop hr (by rfl) (pa_cons (pv 5) pa_nil)) (by intro _; rfl)))))))) (pss_one (ps_ret pe_bl)) pss_nil))))
    (pss_one (ps_ret pe_bl))))),
    run_start (k := K) (w := w) (N := N_is_program_table) (s := b_is_program_table) (tsf_seq (tsf_if (tbf_not (tbf_tru (tef_call (taf_cons tef_int (taf_cons tef_var taf_nil))))) (tsf_ret tef_bl) tsf_next)
    (tsf_seq (tsf_asg (tef_B rl_lenG (taf_cons tef_var taf_nil)) tgf_name)
    (tsf_seq (tsf_for (tif_tup tef_var) tgf_name (tsf_seq (tsf_asg (tef_or (tef_call (taf_cons tef_str (taf_cons tef_var (taf_cons tef_var (taf_cons tef_var (taf_cons tef_var taf_nil)))))) (tef_call (taf_cons tef_str (taf_cons tef_var (taf_cons tef_var (taf_cons tef_var (taf_cons tef_var taf_nil))))))) tgf_name)
        (tsf_if (tbf_not (tbf_or (tbf_tru tef_var) (tbf_or (tbf_tru (tef_call (taf_cons tef_var (taf_cons tef_var (taf_cons tef_var taf_nil))))) (tbf_or (tbf_tru (tef_call (taf_cons tef_var (taf_cons tef_var taf_nil)))) (tbf_tru (tef_call (taf_cons tef_var taf_nil))))))) (tsf_ret tef_bl) tsf_next)))
    (tsf_ret tef_bl)))) h (fun ds μ ρ vs H Q E _ _ _ q => q)⟩
theorem sc_Program_M___init__ : FnScope N_Program_M___init__ ["self", "rows", "letters", "dealing", "depth", "table"] (defScope s_Program_M___init__) := ⟨rfl, rfl, rfl, by decide +kernel, rfl, by decide +kernel, by decide +kernel⟩
theorem ok_Program_M___init__ {f : Addr} {fd : FuncData} (F : Fun K "__init__" "Program.__init__" s_Program_M___init__ f fd) (T : Txt P K mg a) (X_BadProgram : FexOk P w K mg base "BadProgram" a.BadProgram "part") (G_is_between : DefOk P w K mg base "is_between" 2 ["low", "high", "thing"] (spD ⟨K, w, none⟩ 3 g_is_between)) (G_is_dealing : DefOk P w K mg base "is_dealing" 3 ["rows", "thing"] (spD ⟨K, w, none⟩ 2 g_is_dealing)) (G_is_depth : DefOk P w K mg base "is_depth" 3 ["hands", "thing"] (spD ⟨K, w, none⟩ 2 g_is_depth)) (G_is_program_table : DefOk P w K mg base "is_program_table" 5 ["rows", "letters", "hands", "thing"] (spD ⟨K, w, none⟩ 4 g_is_program_table)) : FnOk P w K mg base (L2.CX P w) 6 f fd ["self", "rows", "letters", "dealing", "depth", "table"] (spD ⟨K, w, none⟩ 6 (g_Program_M___init__ K a)) := by
  have S := sc_Program_M___init__
  obtain ⟨t_MOST_ROWS, g_MOST_ROWS⟩ := T.g_MOST_ROWS
  obtain ⟨t_MOST_LETTERS, g_MOST_LETTERS⟩ := T.g_MOST_LETTERS
  refine F.okX S (fun vs H Q E h => spD_len h) (fun cdv A outer s H vs Q E hr h => ?_)
  exact ⟨_, (pss_cons (ps_if (pt_not (oTru (K := ⟨K, w, none⟩) rfl (pe_dX (takes_of rfl rfl rfl rfl) G_is_between hr (by rfl) (pa_cons pe_int (pa_cons (pe_glob (v := .int 6) rfl g_MOST_ROWS ⟨_, rfl⟩) (pa_cons (pv 1) pa_nil)))) (by intro _; rfl))) (pss_one (ps_raise rfl (takes_of rfl rfl rfl rfl) (pmk_fex X_BadProgram.toFexTxt hr (by rfl) pe_str))) pss_nil)
    (pss_cons (ps_if (pt_not (oTru (K := ⟨K, w, none⟩) rfl (pe_dX (takes_of rfl rfl rfl rfl) G_is_between hr (by rfl) (pa_cons pe_int (pa_cons (pe_glob (v := .int 3) rfl g_MOST_LETTERS ⟨_, rfl⟩) (pa_cons (pv 2) pa_nil)))) (by intro _; rfl))) (pss_one (ps_raise rfl (takes_of rfl rfl rfl rfl) (pmk_fex X_BadProgram.toFexTxt hr (by rfl) pe_str))) pss_nil)
    (pss_cons (ps_if (pt_not (oTru (K := ⟨K, w, none⟩) rfl (pe_dX (takes_of rfl rfl rfl rfl) G_is_dealing hr (by rfl) (pa_cons (pv 1) (pa_cons (pv 3) pa_nil))) (by intro _; rfl))) (pss_one (ps_raise rfl (takes_of rfl rfl rfl rfl) (pmk_fex X_BadProgram.toFexTxt hr (by rfl) pe_str))) pss_nil)
    (pss_cons (ps_set (i := 6) S.nd rfl (by first | exact Or.inl rfl | exact Or.inr rfl) (pe_op (oAdd (K := ⟨K, w, none⟩) rfl) (pe_callB (oMax (K := ⟨K, w, none⟩) rfl hr.units rfl) (by rfl) T.max (by decide +kernel) (pa_cons (pv 3) pa_nil)) pe_int))
    (pss_cons (ps_if (pt_not (oTru (K := ⟨K, w, none⟩) rfl (pe_dX (takes_of rfl rfl rfl rfl) G_is_depth hr (by rfl) (pa_cons (pv 6) (pa_cons (pv 4) pa_nil))) (by intro _; rfl))) (pss_one (ps_raise rfl (takes_of rfl rfl rfl rfl) (pmk_fex X_BadProgram.toFexTxt hr (by rfl) pe_str))) pss_nil)
    (pss_cons (ps_if (pt_not (oTru (K := ⟨K, w, none⟩) rfl (pe_dX (takes_of rfl rfl rfl rfl) G_is_program_table hr (by rfl) (pa_cons (pv 1) (pa_cons (pv 2) (pa_cons (pv 6) (pa_cons (pv 5) pa_nil))))) (by intro _; rfl))) (pss_one (ps_raise rfl (takes_of rfl rfl rfl rfl) (pmk_fex X_BadProgram.toFexTxt hr (by rfl) pe_str))) pss_nil)
    (pss_cons (ps_fld (pv 0) (pv 1) rfl)
    (pss_cons (ps_fld (pv 0) (pv 2) rfl)
    (pss_cons (ps_fld (pv 0) (pv 3) rfl)
    (pss_cons (ps_fld (pv 0) (pv 4) rfl)
    (pss_one (ps_fld (pv 0) (pv 5) rfl)))))))))))),
    run_start (k := K) (w := w) (N := N_Program_M___init__) (s := b_Program_M___init__ K a) (tsf_seq (tsf_if (tbf_not (tbf_tru (tef_call (taf_cons tef_int (taf_cons tef_int (taf_cons tef_var taf_nil)))))) (tsf_raise1 X_BadProgram.ox X_BadProgram.fld tef_str) tsf_next)
    (tsf_seq (tsf_if (tbf_not (tbf_tru (tef_call (taf_cons tef_int (taf_cons tef_int (taf_cons tef_var taf_nil)))))) (tsf_raise1 X_BadProgram.ox X_BadProgram.fld tef_str) tsf_next)
    (tsf_seq (tsf_if (tbf_not (tbf_tru (tef_call (taf_cons tef_var (taf_cons tef_var taf_nil))))) (tsf_raise1 X_BadProgram.ox X_BadProgram.fld tef_str) tsf_next)
    (tsf_seq (tsf_asg (tef_op r_addG (tef_B rl_maxG (taf_cons tef_var taf_nil)) tef_int) tgf_name)
    (tsf_seq (tsf_if (tbf_not (tbf_tru (tef_call (taf_cons tef_var (taf_cons tef_var taf_nil))))) (tsf_raise1 X_BadProgram.ox X_BadProgram.fld tef_str) tsf_next)
    (tsf_seq (tsf_if (tbf_not (tbf_tru (tef_call (taf_cons tef_var (taf_cons tef_var (taf_cons tef_var (taf_cons tef_var taf_nil))))))) (tsf_raise1 X_BadProgram.ox X_BadProgram.fld tef_str) tsf_next)
    (tsf_seq (tsf_fld T.c_Program T.n_Program_rows tef_var tef_var)
    (tsf_seq (tsf_fld T.c_Program T.n_Program_letters tef_var tef_var)
    (tsf_seq (tsf_fld T.c_Program T.n_Program_dealing tef_var tef_var)
    (tsf_seq (tsf_fld T.c_Program T.n_Program_depth tef_var tef_var)
    (tsf_fld T.c_Program T.n_Program_table tef_var tef_var))))))))))) h (fun ds μ ρ vs H Q E _ _ _ q => q)⟩
theorem sc__law_refused : FnScope N__law_refused ["spec"] (defScope s__law_refused) := ⟨rfl, rfl, rfl, by decide +kernel, rfl, by decide +kernel, by decide +kernel⟩
theorem ok__law_refused {f : Addr} {fd : FuncData} (F : Fun K "_law_refused" "_law_refused" s__law_refused f fd) (T : Txt P K mg a) (X_BadProgram : FexOk P w K mg base "BadProgram" a.BadProgram "part") (M_Program : MakeOk P w K mg base "Program" a.Program 6 ["self", "rows", "letters", "dealing", "depth", "table"] (spD ⟨K, w, none⟩ 6 (g_Program_M___init__ K a))) : FnOk P w K mg base (L2.CX P w) 8 f fd ["spec"] (spD ⟨K, w, none⟩ 1 (g__law_refused K a)) := by
  have S := sc__law_refused
  refine F.okX S (fun vs H Q E h => spD_len h) (fun cdv A outer s H vs Q E hr h => ?_)
  exact ⟨_, (pss_cons (ps_set (i := 1) S.nd rfl (by first | exact Or.inl rfl | exact Or.inr rfl) (pe_tup (pa_cons pe_str (pa_cons pe_non pa_nil))))
    (pss_cons (ps_try_as (i := 2) (c := (.ref a.WalkError)) rfl rfl S.nd rfl rfl ⟨rfl, by decide, Or.inl T.g_WalkError⟩ (takes_of rfl rfl rfl rfl) (fun W pn xe tk po => (pss_one (ps_expr (pe_mkS tk M_Program hr (by rfl) (pa_cons (pe_ix (oIx (K := ⟨K, w, none⟩) rfl) (pv 0) pe_int (fun _ _ => rfl)) (pa_cons (pe_ix (oIx (K := ⟨K, w, none⟩) rfl) (pv 0) pe_int (fun _ _ => rfl)) (pa_cons (pe_ix (oIx (K := ⟨K, w, none⟩) rfl) (pv 0) pe_int (fun _ _ => rfl)) (pa_cons (pe_ix (oIx (K := ⟨K, w, none⟩) rfl) (pv 0) pe_int (fun _ _ => rfl)) (pa_cons (pe_ix (oIx (K := ⟨K, w, none⟩) rfl) (pv 0) pe_int (fun _ _ => rfl)) pa_nil))))))))) (fun a_ oe cls d pn hz hf => (pss_cons (ps_set (i := 1) S.nd rfl (by first | exact Or.inl rfl | exact Or.inr rfl) (pe_tup (pa_cons pe_str (pa_cons pe_non pa_nil))))
        (pss_one (ps_if (PW.pt (pw_and (oTru (K := ⟨K, w, none⟩) rfl (pe_callB (oIsX hz hf) (by rfl) T.isinstance (by decide +kernel) (pa_cons (pv 2) (pa_cons (pe_glob (v := .ref a.BadProgram) rfl X_BadProgram.gC rfl) pa_nil))) (by intro _; rfl)) (pw_and1 (oTru (K := ⟨K, w, none⟩) rfl (pe_callB (oIsX hz hf) (by rfl) T.isinstance (by decide +kernel) (pa_cons (pv 2) (pa_cons (pe_bltn (v := .ty "ValueError") (by rfl) T.ValueError (by decide +kernel) rfl) pa_nil))) (by intro _; rfl))))) (pss_one (ps_set (i := 1) S.nd rfl (by first | exact Or.inl rfl | exact Or.inr rfl) (pe_tup (pa_cons pe_str (pa_cons (pe_xf (C := a.BadProgram) X_BadProgram.xf X_BadProgram.fld hz hf (pv 2)) pa_nil))))) pss_nil)))))
    (pss_one (ps_ret (pv 1))))),
    run_start (k := K) (w := w) (N := N__law_refused) (s := b__law_refused K a) (tsf_seq (tsf_asg (tef_tup (taf_cons tef_str (taf_cons tef_non taf_nil))) tgf_name)
    (tsf_seq (tsf_tryAs (fun W => (tsf_drop (tef_mk (taf_cons (tef_op r_ix tef_var tef_int) (taf_cons (tef_op r_ix tef_var tef_int) (taf_cons (tef_op r_ix tef_var tef_int) (taf_cons (tef_op r_ix tef_var tef_int) (taf_cons (tef_op r_ix tef_var tef_int) taf_nil)))))))) (fun a_ d x => (tsf_seq (tsf_asg (tef_tup (taf_cons tef_str (taf_cons tef_non taf_nil))) tgf_name)
        (tsf_if (tbf_and (tbf_tru (tef_isX (cv := (.ref a.BadProgram)) (fun _ h => h))) (tbf_tru (tef_isX (cv := (.type "ValueError")) (fun _ h => h)))) (tsf_asg (tef_tup (taf_cons tef_str (taf_cons tef_xf taf_nil))) tgf_name) tsf_next))))
    (tsf_ret tef_var))) h (fun ds μ ρ vs H Q E _ _ _ q => q)⟩
theorem sc_law : FnScope N_law ["script"] (defScope s_law) := ⟨rfl, rfl, rfl, by decide +kernel, rfl, by decide +kernel, by decide +kernel⟩
theorem ok_law {f : Addr} {fd : FuncData} (F : Fun K "law" "law" s_law f fd) (T : Txt P K mg a) (G__law_dice : DefOk P w K mg base "_law_dice" 1 ["script"] (spD ⟨K, w, none⟩ 1 g__law_dice)) (G__law_draw : DefOk P w K mg base "_law_draw" 1 ["dice", "sides"] (spD ⟨K, w, none⟩ 2 g__law_draw)) (G__law_program : DefOk P w K mg base "_law_program" 4 ["dice", "most"] (spD ⟨K, w, none⟩ 2 g__law_program)) (G__law_wrong : DefOk P w K mg base "_law_wrong" 4 ["spec"] (spD ⟨K, w, none⟩ 1 g__law_wrong)) (G__law_changed : DefOk P w K mg base "_law_changed" 4 ["dice", "spec"] (spD ⟨K, w, none⟩ 2 g__law_changed)) (G__law_refused : DefOk P w K mg base "_law_refused" 8 ["spec"] (spD ⟨K, w, none⟩ 1 (g__law_refused K a))) : FnOk P w K mg base (L2.CX P w) 9 f fd ["script"] (spD ⟨K, w, none⟩ 1 (g_law K a)) := by
  have S := sc_law
  refine F.okX S (fun vs H Q E h => spD_len h) (fun cdv A outer s H vs Q E hr h => ?_)
  exact ⟨_, (pss_cons (ps_set (i := 1) S.nd rfl (by first | exact Or.inl rfl | exact Or.inr rfl) (pe_dX (takes_of rfl rfl rfl rfl) G__law_dice hr (by rfl) (pa_cons (pv 0) pa_nil)))
    (pss_cons (ps_set (i := 2) S.nd rfl (by first | exact Or.inl rfl | exact Or.inr rfl) (pe_dX (takes_of rfl rfl rfl rfl) G__law_draw hr (by rfl) (pa_cons (pv 1) (pa_cons pe_int pa_nil))))
    (pss_cons (ps_set (i := 3) S.nd rfl (by first | exact Or.inl rfl | exact Or.inr rfl) (pe_dX (takes_of rfl rfl rfl rfl) G__law_program hr (by rfl) (pa_cons (pv 1) (pa_cons pe_int pa_nil))))
    (pss_cons (ps_set (i := 4) S.nd rfl (by first | exact Or.inl rfl | exact Or.inr rfl) (pv 3))
    (pss_cons (ps_if (pt_cmpR op_gt (pv 2) pe_int (nomark _)) (pss_one (ps_set (i := 4) S.nd rfl (by first | exact Or.inl rfl | exact Or.inr rfl) (pe_dX (takes_of rfl rfl rfl rfl) G__law_changed hr (by rfl) (pa_cons (pv 1) (pa_cons (pv 3) pa_nil))))) pss_nil)
    (pss_cons (ps_set (i := 5) S.nd rfl (by first | exact Or.inl rfl | exact Or.inr rfl) (pe_dX (takes_of rfl rfl rfl rfl) G__law_wrong hr (by rfl) (pa_cons (pv 4) pa_nil)))
    (pss_cons (ps_set (i := 6) S.nd rfl (by first | exact Or.inl rfl | exact Or.inr rfl) (pe_tup (pa_cons pe_str (pa_cons (pv 5) pa_nil))))
    (pss_cons (ps_if (pt_cmpR op_isN (pv 5) pe_non (nomark _)) (pss_one (ps_set (i := 6) S.nd rfl (by first | exact Or.inl rfl | exact Or.inr rfl) (pe_tup (pa_cons pe_str (pa_cons pe_non pa_nil))))) pss_nil)
    (pss_one (ps_ret (pe_and (pe_cmpR (oEq (K := ⟨K, w, none⟩) hr.units rfl) (pe_dX (takes_of rfl rfl rfl rfl) G__law_refused hr (by rfl) (pa_cons (pv 4) pa_nil)) (pv 6) (nomark _)) (pe_one (pe_cmpR (oEq (K := ⟨K, w, none⟩) hr.units rfl) (pe_dX (takes_of rfl rfl rfl rfl) G__law_refused hr (by rfl) (pa_cons (pv 3) pa_nil)) (pe_tup (pa_cons pe_str (pa_cons pe_non pa_nil))) (nomark _)))))))))))))),
    run_start (k := K) (w := w) (N := N_law) (s := b_law K a) (tsf_seq (tsf_asg (tef_call (taf_cons tef_var taf_nil)) tgf_name)
    (tsf_seq (tsf_asg (tef_call (taf_cons tef_var (taf_cons tef_int taf_nil))) tgf_name)
    (tsf_seq (tsf_asg (tef_call (taf_cons tef_var (taf_cons tef_int taf_nil))) tgf_name)
    (tsf_seq (tsf_asg tef_var tgf_name)
    (tsf_seq (tsf_if (tbf_test (tef_op r_gt tef_var tef_int)) (tsf_asg (tef_call (taf_cons tef_var (taf_cons tef_var taf_nil))) tgf_name) tsf_next)
    (tsf_seq (tsf_asg (tef_call (taf_cons tef_var taf_nil)) tgf_name)
    (tsf_seq (tsf_asg (tef_tup (taf_cons tef_str (taf_cons tef_var taf_nil))) tgf_name)
    (tsf_seq (tsf_if (tbf_test (tef_op r_isN tef_var tef_non)) (tsf_asg (tef_tup (taf_cons tef_str (taf_cons tef_non taf_nil))) tgf_name) tsf_next)
    (tsf_ret (tef_and (tef_op r_eq (tef_call (taf_cons tef_var taf_nil)) tef_var) (tef_op r_eq (tef_call (taf_cons tef_var taf_nil)) (tef_tup (taf_cons tef_str (taf_cons tef_non taf_nil)))))))))))))) h (fun ds μ ρ vs H Q E _ _ _ q => q)⟩
end
end Law

set_option maxRecDepth 100000
set_option maxHeartbeats 4000000
namespace Law
open PySem PySem.Spec PyProof.Rows L2 Dv
theorem all_mk {l : PySem.W.OpenLaw} (hP : l.prog = PySem.Challenge.pw_wholewalks_k16_programs_judged) {w : World} {K : PySem.W.Frag} {h : Heap} {mg : Str → Option Value} {fa : Addr} {f__law_dice f__law_draw f__law_shuffled f__law_dealing f__law_item f__law_program f__law_is_number f__law_is_dealing f__law_is_word f__law_are_nexts f__law_is_item f__law_wrong f__law_odd f__law_item_changed f__law_changed f_is_integer f_is_between f_is_tuple_of f_is_dealing f_is_depth f_is_table f_is_item f_is_nexts f_is_numbered f_is_leave f_is_word f_is_say f_is_stop f_is_program_table f_Program_M___init__ f__law_refused f_law A_WalkError A_BadProgram A_Program : Addr} (X : K.In h) (G : h.Ns mainGlobals mg) (hfa : mg "law" = some (.ref fa))
    {od__law_dice an__law_dice od__law_draw an__law_draw od__law_shuffled an__law_shuffled od__law_dealing an__law_dealing od__law_item an__law_item od__law_program an__law_program od__law_is_number an__law_is_number od__law_is_dealing an__law_is_dealing od__law_is_word an__law_is_word od__law_are_nexts an__law_are_nexts od__law_is_item an__law_is_item od__law_wrong an__law_wrong od__law_odd an__law_odd od__law_item_changed an__law_item_changed od__law_changed an__law_changed od_is_integer an_is_integer od_is_between an_is_between od_is_tuple_of an_is_tuple_of od_is_dealing an_is_dealing od_is_depth an_is_depth od_is_table an_is_table od_is_item an_is_item od_is_nexts an_is_nexts od_is_numbered an_is_numbered od_is_leave an_is_leave od_is_word an_is_word od_is_say an_is_say od_is_stop an_is_stop od_is_program_table an_is_program_table od_Program_M___init__ an_Program_M___init__ od__law_refused an__law_refused od_law an_law : Option Addr} {sl__law_dice sl__law_draw sl__law_shuffled sl__law_dealing sl__law_item sl__law_program sl__law_is_number sl__law_is_dealing sl__law_is_word sl__law_are_nexts sl__law_is_item sl__law_wrong sl__law_odd sl__law_item_changed sl__law_changed sl_is_integer sl_is_between sl_is_tuple_of sl_is_dealing sl_is_depth sl_is_table sl_is_item sl_is_nexts sl_is_numbered sl_is_leave sl_is_word sl_is_say sl_is_stop sl_is_program_table sl_Program_M___init__ sl__law_refused sl_law : Array (Option Value)}
    {oc__law_dice kV__law_dice dc__law_dice pm__law_dice cd__law_dice ct__law_dice oc__law_draw kV__law_draw dc__law_draw pm__law_draw cd__law_draw ct__law_draw oc__law_shuffled kV__law_shuffled dc__law_shuffled pm__law_shuffled cd__law_shuffled ct__law_shuffled oc__law_dealing kV__law_dealing dc__law_dealing pm__law_dealing cd__law_dealing ct__law_dealing oc__law_item kV__law_item dc__law_item pm__law_item cd__law_item ct__law_item oc__law_program kV__law_program dc__law_program pm__law_program cd__law_program ct__law_program oc__law_is_number kV__law_is_number dc__law_is_number pm__law_is_number cd__law_is_number ct__law_is_number oc__law_is_dealing kV__law_is_dealing dc__law_is_dealing pm__law_is_dealing cd__law_is_dealing ct__law_is_dealing oc__law_is_word kV__law_is_word dc__law_is_word pm__law_is_word cd__law_is_word ct__law_is_word oc__law_are_nexts kV__law_are_nexts dc__law_are_nexts pm__law_are_nexts cd__law_are_nexts ct__law_are_nexts oc__law_is_item kV__law_is_item dc__law_is_item pm__law_is_item cd__law_is_item ct__law_is_item oc__law_wrong kV__law_wrong dc__law_wrong pm__law_wrong cd__law_wrong ct__law_wrong oc__law_odd kV__law_odd dc__law_odd pm__law_odd cd__law_odd ct__law_odd oc__law_item_changed kV__law_item_changed dc__law_item_changed pm__law_item_changed cd__law_item_changed ct__law_item_changed oc__law_changed kV__law_changed dc__law_changed pm__law_changed cd__law_changed ct__law_changed oc_is_integer kV_is_integer dc_is_integer pm_is_integer cd_is_integer ct_is_integer oc_is_between kV_is_between dc_is_between pm_is_between cd_is_between ct_is_between oc_is_tuple_of kV_is_tuple_of dc_is_tuple_of pm_is_tuple_of cd_is_tuple_of ct_is_tuple_of oc_is_dealing kV_is_dealing dc_is_dealing pm_is_dealing cd_is_dealing ct_is_dealing oc_is_depth kV_is_depth dc_is_depth pm_is_depth cd_is_depth ct_is_depth oc_is_table kV_is_table dc_is_table pm_is_table cd_is_table ct_is_table oc_is_item kV_is_item dc_is_item pm_is_item cd_is_item ct_is_item oc_is_nexts kV_is_nexts dc_is_nexts pm_is_nexts cd_is_nexts ct_is_nexts oc_is_numbered kV_is_numbered dc_is_numbered pm_is_numbered cd_is_numbered ct_is_numbered oc_is_leave kV_is_leave dc_is_leave pm_is_leave cd_is_leave ct_is_leave oc_is_word kV_is_word dc_is_word pm_is_word cd_is_word ct_is_word oc_is_say kV_is_say dc_is_say pm_is_say cd_is_say ct_is_say oc_is_stop kV_is_stop dc_is_stop pm_is_stop cd_is_stop ct_is_stop oc_is_program_table kV_is_program_table dc_is_program_table pm_is_program_table cd_is_program_table ct_is_program_table oc_Program_M___init__ kV_Program_M___init__ dc_Program_M___init__ pm_Program_M___init__ cd_Program_M___init__ ct_Program_M___init__ oc__law_refused kV__law_refused dc__law_refused pm__law_refused cd__law_refused ct__law_refused oc_law kV_law dc_law pm_law cd_law ct_law : Value}
    (z_ValueError : PySem.W.nsIn K mainGlobals "ValueError" = some none)
    (z_abs : PySem.W.nsIn K mainGlobals "abs" = some none)
    (z_all : PySem.W.nsIn K mainGlobals "all" = some none)
    (z_bool : PySem.W.nsIn K mainGlobals "bool" = some none)
    (z_int : PySem.W.nsIn K mainGlobals "int" = some none)
    (z_isinstance : PySem.W.nsIn K mainGlobals "isinstance" = some none)
    (z_len : PySem.W.nsIn K mainGlobals "len" = some none)
    (z_list : PySem.W.nsIn K mainGlobals "list" = some none)
    (z_max : PySem.W.nsIn K mainGlobals "max" = some none)
    (z_range : PySem.W.nsIn K mainGlobals "range" = some none)
    (z_set : PySem.W.nsIn K mainGlobals "set" = some none)
    (z_sorted : PySem.W.nsIn K mainGlobals "sorted" = some none)
    (z_str : PySem.W.nsIn K mainGlobals "str" = some none)
    (z_tuple : PySem.W.nsIn K mainGlobals "tuple" = some none)
    {t_ALPHABET : Tok}
    (g_ALPHABET : PySem.W.nsIn K mainGlobals "ALPHABET" = some (some (.str "abcdefghijklmnopqrstuvwxyz" t_ALPHABET)))
    {t_MOST_ROWS : Tok}
    (g_MOST_ROWS : PySem.W.nsIn K mainGlobals "MOST_ROWS" = some (some (.int 6 t_MOST_ROWS)))
    {t_MOST_LETTERS : Tok}
    (g_MOST_LETTERS : PySem.W.nsIn K mainGlobals "MOST_LETTERS" = some (some (.int 3 t_MOST_LETTERS)))
    {t_MOST_DEPTH : Tok}
    (g_MOST_DEPTH : PySem.W.nsIn K mainGlobals "MOST_DEPTH" = some (some (.int 60 t_MOST_DEPTH)))
    {t_MOST_STANDINGS : Tok}
    (g_MOST_STANDINGS : PySem.W.nsIn K mainGlobals "MOST_STANDINGS" = some (some (.int 20000 t_MOST_STANDINGS)))
    (spc : PySem.W.specialIn K (.builtin "object.__class__") "__get__" = some (some (.builtin "getset_descriptor.__get__")))
    (tkc : PySem.W.takesIn K (.builtin "object.__class__") = some true)
    (n_WalkError : PySem.W.nsIn K mainGlobals "WalkError" = some (some (.ref A_WalkError)))
    (ex_WalkError : PySem.W.subIn K (.ref A_WalkError) (.type "BaseException") = some true)
    (ty_WalkError : PySem.W.typeIn K (.ref A_WalkError) = some (.type "type"))
    (ic_WalkError : PySem.W.isClsIn K A_WalkError = true)
    {nm_BadProgram qn_BadProgram : Str} {Nn_BadProgram : Addr} {bs_BadProgram bm_BadProgram : List Value} {sn_BadProgram : List Str} {sub_BadProgram : List Value} {ab_BadProgram : Bool} {col_BadProgram : Option Bool} {dd_BadProgram : Option Addr} {k0_BadProgram k1_BadProgram k2_BadProgram k3_BadProgram k5_BadProgram : Option Value}
    (n_BadProgram : PySem.W.nsIn K mainGlobals "BadProgram" = some (some (.ref A_BadProgram)))
    (x_BadProgram : K.lookup A_BadProgram = some (excClassObj nm_BadProgram qn_BadProgram A_BadProgram Nn_BadProgram bs_BadProgram bm_BadProgram true sn_BadProgram sub_BadProgram ab_BadProgram col_BadProgram dd_BadProgram k0_BadProgram k1_BadProgram k2_BadProgram k3_BadProgram k5_BadProgram "ValueError.__new__"))
    (r_BadProgram : PySem.HandSPX.refsVE bm_BadProgram = true)
    (kp_BadProgram : PySem.W.keepIn K (.ref A_BadProgram) = true)
    (ex_BadProgram : PySem.W.subIn K (.ref A_BadProgram) (.type "BaseException") = some true)
    (ty_BadProgram : PySem.W.typeIn K (.ref A_BadProgram) = some (.type "type"))
    (ve_BadProgram : PySem.W.subIn K (.ref A_BadProgram) (.type "ValueError") = some true)
    (ic_BadProgram : PySem.W.isClsIn K A_BadProgram = true)
    (ga_BadProgram : PySem.W.findIn K (.ref A_BadProgram) "__getattribute__" = some (some (.builtin "BaseException.__getattribute__")))
    (gg_BadProgram : PySem.W.findIn K (.ref A_BadProgram) "__getattr__" = some none)
    (hd_BadProgram : PySem.W.hasDictIn K A_BadProgram = true)
    (ca_BadProgram : PySem.W.findIn K (.ref A_BadProgram) "__class__" = some (some (.builtin "object.__class__")))
    (mo_BadProgram : PySem.W.mroIn K A_BadProgram (.type "object") = some true)
    {fI_BadProgram : Addr} {ioc_BadProgram ikV_BadProgram idc_BadProgram ipm_BadProgram icdv_BadProgram ict_BadProgram : Value} {iod_BadProgram ian_BadProgram : Option Addr} {iosl_BadProgram : Array (Option Value)}
    (sa_BadProgram : PySem.W.findIn K (.ref A_BadProgram) "__setattr__" = some (some (.builtin "object.__setattr__")))
    (fl_BadProgram : PySem.W.findIn K (.ref A_BadProgram) "part" = some none)
    (i_BadProgram : PySem.W.findIn K (.ref A_BadProgram) "__init__" = some (some (.ref fI_BadProgram)))
    (it_BadProgram : PySem.W.typeIn K (.ref fI_BadProgram) = some (.type "function"))
    (il_BadProgram : K.lookup fI_BadProgram = some ⟨ioc_BadProgram, iod_BadProgram, .func (PySem.W.fnOf "__init__" "BadProgram.__init__" (defArgs s_BadProgram_init) (defBody s_BadProgram_init) (defScope s_BadProgram_init) .none ikV_BadProgram idc_BadProgram ipm_BadProgram ian_BadProgram icdv_BadProgram ict_BadProgram), iosl_BadProgram⟩)
    (icd_BadProgram : PySem.W.codeIn K icdv_BadProgram "BadProgram.__init__" = true)
    (ikp_BadProgram : PySem.W.keepIn K (.ref fI_BadProgram) = true)
    (p_BadProgram_WalkError : PySem.W.subIn K (.ref A_BadProgram) (.ref A_WalkError) = some true)
    (p_BadProgram_BadProgram : PySem.W.subIn K (.ref A_BadProgram) (.ref A_BadProgram) = some true)
    (p_WalkError_WalkError : PySem.W.subIn K (.ref A_WalkError) (.ref A_WalkError) = some true)
    (n_Program : PySem.W.nsIn K mainGlobals "Program" = some (some (.ref A_Program)))
    (pg_Program : PySem.W.plainGet K A_Program Str.empty = true)
    (hd_Program : PySem.W.hasDictIn K A_Program = true)
    (po_Program : PySem.W.plainOver K A_Program = true)
    (sa_Program : PySem.W.findIn K (.ref A_Program) "__setattr__" = some (some (.builtin "object.__setattr__")))
    (mk_Program : PySem.W.makesIn K A_Program = true)
    (kp_Program : PySem.W.keepIn K (.ref A_Program) = true)
    (na_Program_rows : PySem.W.findIn K (.ref A_Program) "rows" = some none)
    (na_Program_letters : PySem.W.findIn K (.ref A_Program) "letters" = some none)
    (na_Program_dealing : PySem.W.findIn K (.ref A_Program) "dealing" = some none)
    (na_Program_depth : PySem.W.findIn K (.ref A_Program) "depth" = some none)
    (na_Program_table : PySem.W.findIn K (.ref A_Program) "table" = some none)
    (a__law_dice : PySem.W.nsIn K mainGlobals "_law_dice" = some (some (.ref f__law_dice)))
    (l__law_dice : K.lookup f__law_dice = some ⟨oc__law_dice, od__law_dice, .func (PySem.W.fnOf "_law_dice" "_law_dice" (defArgs s__law_dice) (defBody s__law_dice) (defScope s__law_dice) .none kV__law_dice dc__law_dice pm__law_dice an__law_dice cd__law_dice ct__law_dice), sl__law_dice⟩)
    (c__law_dice : PySem.W.codeIn K cd__law_dice "_law_dice" = true)
    (k__law_dice : PySem.W.keepIn K (.ref f__law_dice) = true)
    (a__law_draw : PySem.W.nsIn K mainGlobals "_law_draw" = some (some (.ref f__law_draw)))
    (l__law_draw : K.lookup f__law_draw = some ⟨oc__law_draw, od__law_draw, .func (PySem.W.fnOf "_law_draw" "_law_draw" (defArgs s__law_draw) (defBody s__law_draw) (defScope s__law_draw) .none kV__law_draw dc__law_draw pm__law_draw an__law_draw cd__law_draw ct__law_draw), sl__law_draw⟩)
    (c__law_draw : PySem.W.codeIn K cd__law_draw "_law_draw" = true)
    (k__law_draw : PySem.W.keepIn K (.ref f__law_draw) = true)
    (a__law_shuffled : PySem.W.nsIn K mainGlobals "_law_shuffled" = some (some (.ref f__law_shuffled)))
    (l__law_shuffled : K.lookup f__law_shuffled = some ⟨oc__law_shuffled, od__law_shuffled, .func (PySem.W.fnOf "_law_shuffled" "_law_shuffled" (defArgs s__law_shuffled) (defBody s__law_shuffled) (defScope s__law_shuffled) .none kV__law_shuffled dc__law_shuffled pm__law_shuffled an__law_shuffled cd__law_shuffled ct__law_shuffled), sl__law_shuffled⟩)
    (c__law_shuffled : PySem.W.codeIn K cd__law_shuffled "_law_shuffled" = true)
    (k__law_shuffled : PySem.W.keepIn K (.ref f__law_shuffled) = true)
    (a__law_dealing : PySem.W.nsIn K mainGlobals "_law_dealing" = some (some (.ref f__law_dealing)))
    (l__law_dealing : K.lookup f__law_dealing = some ⟨oc__law_dealing, od__law_dealing, .func (PySem.W.fnOf "_law_dealing" "_law_dealing" (defArgs s__law_dealing) (defBody s__law_dealing) (defScope s__law_dealing) .none kV__law_dealing dc__law_dealing pm__law_dealing an__law_dealing cd__law_dealing ct__law_dealing), sl__law_dealing⟩)
    (c__law_dealing : PySem.W.codeIn K cd__law_dealing "_law_dealing" = true)
    (k__law_dealing : PySem.W.keepIn K (.ref f__law_dealing) = true)
    (a__law_item : PySem.W.nsIn K mainGlobals "_law_item" = some (some (.ref f__law_item)))
    (l__law_item : K.lookup f__law_item = some ⟨oc__law_item, od__law_item, .func (PySem.W.fnOf "_law_item" "_law_item" (defArgs s__law_item) (defBody s__law_item) (defScope s__law_item) .none kV__law_item dc__law_item pm__law_item an__law_item cd__law_item ct__law_item), sl__law_item⟩)
    (c__law_item : PySem.W.codeIn K cd__law_item "_law_item" = true)
    (k__law_item : PySem.W.keepIn K (.ref f__law_item) = true)
    (a__law_program : PySem.W.nsIn K mainGlobals "_law_program" = some (some (.ref f__law_program)))
    (l__law_program : K.lookup f__law_program = some ⟨oc__law_program, od__law_program, .func (PySem.W.fnOf "_law_program" "_law_program" (defArgs s__law_program) (defBody s__law_program) (defScope s__law_program) .none kV__law_program dc__law_program pm__law_program an__law_program cd__law_program ct__law_program), sl__law_program⟩)
    (c__law_program : PySem.W.codeIn K cd__law_program "_law_program" = true)
    (k__law_program : PySem.W.keepIn K (.ref f__law_program) = true)
    (a__law_is_number : PySem.W.nsIn K mainGlobals "_law_is_number" = some (some (.ref f__law_is_number)))
    (l__law_is_number : K.lookup f__law_is_number = some ⟨oc__law_is_number, od__law_is_number, .func (PySem.W.fnOf "_law_is_number" "_law_is_number" (defArgs s__law_is_number) (defBody s__law_is_number) (defScope s__law_is_number) .none kV__law_is_number dc__law_is_number pm__law_is_number an__law_is_number cd__law_is_number ct__law_is_number), sl__law_is_number⟩)
    (c__law_is_number : PySem.W.codeIn K cd__law_is_number "_law_is_number" = true)
    (k__law_is_number : PySem.W.keepIn K (.ref f__law_is_number) = true)
    (a__law_is_dealing : PySem.W.nsIn K mainGlobals "_law_is_dealing" = some (some (.ref f__law_is_dealing)))
    (l__law_is_dealing : K.lookup f__law_is_dealing = some ⟨oc__law_is_dealing, od__law_is_dealing, .func (PySem.W.fnOf "_law_is_dealing" "_law_is_dealing" (defArgs s__law_is_dealing) (defBody s__law_is_dealing) (defScope s__law_is_dealing) .none kV__law_is_dealing dc__law_is_dealing pm__law_is_dealing an__law_is_dealing cd__law_is_dealing ct__law_is_dealing), sl__law_is_dealing⟩)
    (c__law_is_dealing : PySem.W.codeIn K cd__law_is_dealing "_law_is_dealing" = true)
    (k__law_is_dealing : PySem.W.keepIn K (.ref f__law_is_dealing) = true)
    (a__law_is_word : PySem.W.nsIn K mainGlobals "_law_is_word" = some (some (.ref f__law_is_word)))
    (l__law_is_word : K.lookup f__law_is_word = some ⟨oc__law_is_word, od__law_is_word, .func (PySem.W.fnOf "_law_is_word" "_law_is_word" (defArgs s__law_is_word) (defBody s__law_is_word) (defScope s__law_is_word) .none kV__law_is_word dc__law_is_word pm__law_is_word an__law_is_word cd__law_is_word ct__law_is_word), sl__law_is_word⟩)
    (c__law_is_word : PySem.W.codeIn K cd__law_is_word "_law_is_word" = true)
    (k__law_is_word : PySem.W.keepIn K (.ref f__law_is_word) = true)
    (a__law_are_nexts : PySem.W.nsIn K mainGlobals "_law_are_nexts" = some (some (.ref f__law_are_nexts)))
    (l__law_are_nexts : K.lookup f__law_are_nexts = some ⟨oc__law_are_nexts, od__law_are_nexts, .func (PySem.W.fnOf "_law_are_nexts" "_law_are_nexts" (defArgs s__law_are_nexts) (defBody s__law_are_nexts) (defScope s__law_are_nexts) .none kV__law_are_nexts dc__law_are_nexts pm__law_are_nexts an__law_are_nexts cd__law_are_nexts ct__law_are_nexts), sl__law_are_nexts⟩)
    (c__law_are_nexts : PySem.W.codeIn K cd__law_are_nexts "_law_are_nexts" = true)
    (k__law_are_nexts : PySem.W.keepIn K (.ref f__law_are_nexts) = true)
    (a__law_is_item : PySem.W.nsIn K mainGlobals "_law_is_item" = some (some (.ref f__law_is_item)))
    (l__law_is_item : K.lookup f__law_is_item = some ⟨oc__law_is_item, od__law_is_item, .func (PySem.W.fnOf "_law_is_item" "_law_is_item" (defArgs s__law_is_item) (defBody s__law_is_item) (defScope s__law_is_item) .none kV__law_is_item dc__law_is_item pm__law_is_item an__law_is_item cd__law_is_item ct__law_is_item), sl__law_is_item⟩)
    (c__law_is_item : PySem.W.codeIn K cd__law_is_item "_law_is_item" = true)
    (k__law_is_item : PySem.W.keepIn K (.ref f__law_is_item) = true)
    (a__law_wrong : PySem.W.nsIn K mainGlobals "_law_wrong" = some (some (.ref f__law_wrong)))
    (l__law_wrong : K.lookup f__law_wrong = some ⟨oc__law_wrong, od__law_wrong, .func (PySem.W.fnOf "_law_wrong" "_law_wrong" (defArgs s__law_wrong) (defBody s__law_wrong) (defScope s__law_wrong) .none kV__law_wrong dc__law_wrong pm__law_wrong an__law_wrong cd__law_wrong ct__law_wrong), sl__law_wrong⟩)
    (c__law_wrong : PySem.W.codeIn K cd__law_wrong "_law_wrong" = true)
    (k__law_wrong : PySem.W.keepIn K (.ref f__law_wrong) = true)
    (a__law_odd : PySem.W.nsIn K mainGlobals "_law_odd" = some (some (.ref f__law_odd)))
    (l__law_odd : K.lookup f__law_odd = some ⟨oc__law_odd, od__law_odd, .func (PySem.W.fnOf "_law_odd" "_law_odd" (defArgs s__law_odd) (defBody s__law_odd) (defScope s__law_odd) .none kV__law_odd dc__law_odd pm__law_odd an__law_odd cd__law_odd ct__law_odd), sl__law_odd⟩)
    (c__law_odd : PySem.W.codeIn K cd__law_odd "_law_odd" = true)
    (k__law_odd : PySem.W.keepIn K (.ref f__law_odd) = true)
    (a__law_item_changed : PySem.W.nsIn K mainGlobals "_law_item_changed" = some (some (.ref f__law_item_changed)))
    (l__law_item_changed : K.lookup f__law_item_changed = some ⟨oc__law_item_changed, od__law_item_changed, .func (PySem.W.fnOf "_law_item_changed" "_law_item_changed" (defArgs s__law_item_changed) (defBody s__law_item_changed) (defScope s__law_item_changed) .none kV__law_item_changed dc__law_item_changed pm__law_item_changed an__law_item_changed cd__law_item_changed ct__law_item_changed), sl__law_item_changed⟩)
    (c__law_item_changed : PySem.W.codeIn K cd__law_item_changed "_law_item_changed" = true)
    (k__law_item_changed : PySem.W.keepIn K (.ref f__law_item_changed) = true)
    (a__law_changed : PySem.W.nsIn K mainGlobals "_law_changed" = some (some (.ref f__law_changed)))
    (l__law_changed : K.lookup f__law_changed = some ⟨oc__law_changed, od__law_changed, .func (PySem.W.fnOf "_law_changed" "_law_changed" (defArgs s__law_changed) (defBody s__law_changed) (defScope s__law_changed) .none kV__law_changed dc__law_changed pm__law_changed an__law_changed cd__law_changed ct__law_changed), sl__law_changed⟩)
    (c__law_changed : PySem.W.codeIn K cd__law_changed "_law_changed" = true)
    (k__law_changed : PySem.W.keepIn K (.ref f__law_changed) = true)
    (a_is_integer : PySem.W.nsIn K mainGlobals "is_integer" = some (some (.ref f_is_integer)))
    (l_is_integer : K.lookup f_is_integer = some ⟨oc_is_integer, od_is_integer, .func (PySem.W.fnOf "is_integer" "is_integer" (defArgs s_is_integer) (defBody s_is_integer) (defScope s_is_integer) .none kV_is_integer dc_is_integer pm_is_integer an_is_integer cd_is_integer ct_is_integer), sl_is_integer⟩)
    (c_is_integer : PySem.W.codeIn K cd_is_integer "is_integer" = true)
    (k_is_integer : PySem.W.keepIn K (.ref f_is_integer) = true)
    (a_is_between : PySem.W.nsIn K mainGlobals "is_between" = some (some (.ref f_is_between)))
    (l_is_between : K.lookup f_is_between = some ⟨oc_is_between, od_is_between, .func (PySem.W.fnOf "is_between" "is_between" (defArgs s_is_between) (defBody s_is_between) (defScope s_is_between) .none kV_is_between dc_is_between pm_is_between an_is_between cd_is_between ct_is_between), sl_is_between⟩)
    (c_is_between : PySem.W.codeIn K cd_is_between "is_between" = true)
    (k_is_between : PySem.W.keepIn K (.ref f_is_between) = true)
    (a_is_tuple_of : PySem.W.nsIn K mainGlobals "is_tuple_of" = some (some (.ref f_is_tuple_of)))
    (l_is_tuple_of : K.lookup f_is_tuple_of = some ⟨oc_is_tuple_of, od_is_tuple_of, .func (PySem.W.fnOf "is_tuple_of" "is_tuple_of" (defArgs s_is_tuple_of) (defBody s_is_tuple_of) (defScope s_is_tuple_of) .none kV_is_tuple_of dc_is_tuple_of pm_is_tuple_of an_is_tuple_of cd_is_tuple_of ct_is_tuple_of), sl_is_tuple_of⟩)
    (c_is_tuple_of : PySem.W.codeIn K cd_is_tuple_of "is_tuple_of" = true)
    (k_is_tuple_of : PySem.W.keepIn K (.ref f_is_tuple_of) = true)
    (a_is_dealing : PySem.W.nsIn K mainGlobals "is_dealing" = some (some (.ref f_is_dealing)))
    (l_is_dealing : K.lookup f_is_dealing = some ⟨oc_is_dealing, od_is_dealing, .func (PySem.W.fnOf "is_dealing" "is_dealing" (defArgs s_is_dealing) (defBody s_is_dealing) (defScope s_is_dealing) .none kV_is_dealing dc_is_dealing pm_is_dealing an_is_dealing cd_is_dealing ct_is_dealing), sl_is_dealing⟩)
    (c_is_dealing : PySem.W.codeIn K cd_is_dealing "is_dealing" = true)
    (k_is_dealing : PySem.W.keepIn K (.ref f_is_dealing) = true)
    (a_is_depth : PySem.W.nsIn K mainGlobals "is_depth" = some (some (.ref f_is_depth)))
    (l_is_depth : K.lookup f_is_depth = some ⟨oc_is_depth, od_is_depth, .func (PySem.W.fnOf "is_depth" "is_depth" (defArgs s_is_depth) (defBody s_is_depth) (defScope s_is_depth) .none kV_is_depth dc_is_depth pm_is_depth an_is_depth cd_is_depth ct_is_depth), sl_is_depth⟩)
    (c_is_depth : PySem.W.codeIn K cd_is_depth "is_depth" = true)
    (k_is_depth : PySem.W.keepIn K (.ref f_is_depth) = true)
    (a_is_table : PySem.W.nsIn K mainGlobals "is_table" = some (some (.ref f_is_table)))
    (l_is_table : K.lookup f_is_table = some ⟨oc_is_table, od_is_table, .func (PySem.W.fnOf "is_table" "is_table" (defArgs s_is_table) (defBody s_is_table) (defScope s_is_table) .none kV_is_table dc_is_table pm_is_table an_is_table cd_is_table ct_is_table), sl_is_table⟩)
    (c_is_table : PySem.W.codeIn K cd_is_table "is_table" = true)
    (k_is_table : PySem.W.keepIn K (.ref f_is_table) = true)
    (a_is_item : PySem.W.nsIn K mainGlobals "is_item" = some (some (.ref f_is_item)))
    (l_is_item : K.lookup f_is_item = some ⟨oc_is_item, od_is_item, .func (PySem.W.fnOf "is_item" "is_item" (defArgs s_is_item) (defBody s_is_item) (defScope s_is_item) .none kV_is_item dc_is_item pm_is_item an_is_item cd_is_item ct_is_item), sl_is_item⟩)
    (c_is_item : PySem.W.codeIn K cd_is_item "is_item" = true)
    (k_is_item : PySem.W.keepIn K (.ref f_is_item) = true)
    (a_is_nexts : PySem.W.nsIn K mainGlobals "is_nexts" = some (some (.ref f_is_nexts)))
    (l_is_nexts : K.lookup f_is_nexts = some ⟨oc_is_nexts, od_is_nexts, .func (PySem.W.fnOf "is_nexts" "is_nexts" (defArgs s_is_nexts) (defBody s_is_nexts) (defScope s_is_nexts) .none kV_is_nexts dc_is_nexts pm_is_nexts an_is_nexts cd_is_nexts ct_is_nexts), sl_is_nexts⟩)
    (c_is_nexts : PySem.W.codeIn K cd_is_nexts "is_nexts" = true)
    (k_is_nexts : PySem.W.keepIn K (.ref f_is_nexts) = true)
    (a_is_numbered : PySem.W.nsIn K mainGlobals "is_numbered" = some (some (.ref f_is_numbered)))
    (l_is_numbered : K.lookup f_is_numbered = some ⟨oc_is_numbered, od_is_numbered, .func (PySem.W.fnOf "is_numbered" "is_numbered" (defArgs s_is_numbered) (defBody s_is_numbered) (defScope s_is_numbered) .none kV_is_numbered dc_is_numbered pm_is_numbered an_is_numbered cd_is_numbered ct_is_numbered), sl_is_numbered⟩)
    (c_is_numbered : PySem.W.codeIn K cd_is_numbered "is_numbered" = true)
    (k_is_numbered : PySem.W.keepIn K (.ref f_is_numbered) = true)
    (a_is_leave : PySem.W.nsIn K mainGlobals "is_leave" = some (some (.ref f_is_leave)))
    (l_is_leave : K.lookup f_is_leave = some ⟨oc_is_leave, od_is_leave, .func (PySem.W.fnOf "is_leave" "is_leave" (defArgs s_is_leave) (defBody s_is_leave) (defScope s_is_leave) .none kV_is_leave dc_is_leave pm_is_leave an_is_leave cd_is_leave ct_is_leave), sl_is_leave⟩)
    (c_is_leave : PySem.W.codeIn K cd_is_leave "is_leave" = true)
    (k_is_leave : PySem.W.keepIn K (.ref f_is_leave) = true)
    (a_is_word : PySem.W.nsIn K mainGlobals "is_word" = some (some (.ref f_is_word)))
    (l_is_word : K.lookup f_is_word = some ⟨oc_is_word, od_is_word, .func (PySem.W.fnOf "is_word" "is_word" (defArgs s_is_word) (defBody s_is_word) (defScope s_is_word) .none kV_is_word dc_is_word pm_is_word an_is_word cd_is_word ct_is_word), sl_is_word⟩)
    (c_is_word : PySem.W.codeIn K cd_is_word "is_word" = true)
    (k_is_word : PySem.W.keepIn K (.ref f_is_word) = true)
    (a_is_say : PySem.W.nsIn K mainGlobals "is_say" = some (some (.ref f_is_say)))
    (l_is_say : K.lookup f_is_say = some ⟨oc_is_say, od_is_say, .func (PySem.W.fnOf "is_say" "is_say" (defArgs s_is_say) (defBody s_is_say) (defScope s_is_say) .none kV_is_say dc_is_say pm_is_say an_is_say cd_is_say ct_is_say), sl_is_say⟩)
    (c_is_say : PySem.W.codeIn K cd_is_say "is_say" = true)
    (k_is_say : PySem.W.keepIn K (.ref f_is_say) = true)
    (a_is_stop : PySem.W.nsIn K mainGlobals "is_stop" = some (some (.ref f_is_stop)))
    (l_is_stop : K.lookup f_is_stop = some ⟨oc_is_stop, od_is_stop, .func (PySem.W.fnOf "is_stop" "is_stop" (defArgs s_is_stop) (defBody s_is_stop) (defScope s_is_stop) .none kV_is_stop dc_is_stop pm_is_stop an_is_stop cd_is_stop ct_is_stop), sl_is_stop⟩)
    (c_is_stop : PySem.W.codeIn K cd_is_stop "is_stop" = true)
    (k_is_stop : PySem.W.keepIn K (.ref f_is_stop) = true)
    (a_is_program_table : PySem.W.nsIn K mainGlobals "is_program_table" = some (some (.ref f_is_program_table)))
    (l_is_program_table : K.lookup f_is_program_table = some ⟨oc_is_program_table, od_is_program_table, .func (PySem.W.fnOf "is_program_table" "is_program_table" (defArgs s_is_program_table) (defBody s_is_program_table) (defScope s_is_program_table) .none kV_is_program_table dc_is_program_table pm_is_program_table an_is_program_table cd_is_program_table ct_is_program_table), sl_is_program_table⟩)
    (c_is_program_table : PySem.W.codeIn K cd_is_program_table "is_program_table" = true)
    (k_is_program_table : PySem.W.keepIn K (.ref f_is_program_table) = true)
    (a_Program_M___init__ : PySem.W.findIn K (.ref A_Program) "__init__" = some (some (.ref f_Program_M___init__)))
    (isf_Program_M___init__ : PySem.W.isFn K (.ref f_Program_M___init__) = true)
    (l_Program_M___init__ : K.lookup f_Program_M___init__ = some ⟨oc_Program_M___init__, od_Program_M___init__, .func (PySem.W.fnOf "__init__" "Program.__init__" (defArgs s_Program_M___init__) (defBody s_Program_M___init__) (defScope s_Program_M___init__) .none kV_Program_M___init__ dc_Program_M___init__ pm_Program_M___init__ an_Program_M___init__ cd_Program_M___init__ ct_Program_M___init__), sl_Program_M___init__⟩)
    (c_Program_M___init__ : PySem.W.codeIn K cd_Program_M___init__ "Program.__init__" = true)
    (k_Program_M___init__ : PySem.W.keepIn K (.ref f_Program_M___init__) = true)
    (a__law_refused : PySem.W.nsIn K mainGlobals "_law_refused" = some (some (.ref f__law_refused)))
    (l__law_refused : K.lookup f__law_refused = some ⟨oc__law_refused, od__law_refused, .func (PySem.W.fnOf "_law_refused" "_law_refused" (defArgs s__law_refused) (defBody s__law_refused) (defScope s__law_refused) .none kV__law_refused dc__law_refused pm__law_refused an__law_refused cd__law_refused ct__law_refused), sl__law_refused⟩)
    (c__law_refused : PySem.W.codeIn K cd__law_refused "_law_refused" = true)
    (k__law_refused : PySem.W.keepIn K (.ref f__law_refused) = true)
    (a_law : PySem.W.nsIn K mainGlobals "law" = some (some (.ref f_law)))
    (l_law : K.lookup f_law = some ⟨oc_law, od_law, .func (PySem.W.fnOf "law" "law" (defArgs s_law) (defBody s_law) (defScope s_law) .none kV_law dc_law pm_law an_law cd_law ct_law), sl_law⟩)
    (c_law : PySem.W.codeIn K cd_law "law" = true)
    (k_law : PySem.W.keepIn K (.ref f_law) = true)
    : ∃ fd : FuncData, (∀ (s : Shared) (v : Value), BindsTo s fd ⟨[v], []⟩ [("script", v)]) ∧ ∀ base : Heap, K.In base → base.Ns mainGlobals mg → FnOk l.prog w K mg base (L2.CX l.prog w) 9 fa fd ["script"] (spLawD K w) := by
  rw [hP]
  have e := hfa.symm.trans (PySem.W.mg_of X G a_law)
  cases e
  have T : Txt PySem.Challenge.pw_wholewalks_k16_programs_judged K mg ⟨A_WalkError, A_BadProgram, A_Program, 0⟩ := ⟨PySem.W.mg_none_of X G z_ValueError,
    PySem.W.mg_none_of X G z_abs,
    PySem.W.mg_none_of X G z_all,
    PySem.W.mg_none_of X G z_bool,
    PySem.W.mg_none_of X G z_int,
    PySem.W.mg_none_of X G z_isinstance,
    PySem.W.mg_none_of X G z_len,
    PySem.W.mg_none_of X G z_list,
    PySem.W.mg_none_of X G z_max,
    PySem.W.mg_none_of X G z_range,
    PySem.W.mg_none_of X G z_set,
    PySem.W.mg_none_of X G z_sorted,
    PySem.W.mg_none_of X G z_str,
    PySem.W.mg_none_of X G z_tuple,
    PySem.W.mg_of X G n_WalkError,
    PySem.W.mg_of X G n_Program,
    ⟨pg_Program, hd_Program, po_Program, sa_Program⟩,
    na_Program_rows,
    na_Program_letters,
    na_Program_dealing,
    na_Program_depth,
    na_Program_table,
    ⟨_, PySem.W.mg_of X G g_ALPHABET⟩,
    ⟨_, PySem.W.mg_of X G g_MOST_ROWS⟩,
    ⟨_, PySem.W.mg_of X G g_MOST_LETTERS⟩,
    ⟨_, PySem.W.mg_of X G g_MOST_DEPTH⟩,
    ⟨_, PySem.W.mg_of X G g_MOST_STANDINGS⟩⟩
  have PT : PureT K ⟨A_WalkError, A_BadProgram, A_Program, 0⟩ := ⟨exm_by ex_WalkError ic_WalkError ty_WalkError p_BadProgram_WalkError,
    kit_by ic_BadProgram ty_BadProgram p_BadProgram_BadProgram p_BadProgram_BadProgram,
    kit_ve ve_BadProgram,
    ⟨ga_BadProgram, gg_BadProgram, ex_BadProgram, hd_BadProgram, ca_BadProgram, spc, tkc, mo_BadProgram⟩⟩
  have F__law_dice := fun_mk (st := s__law_dice) l__law_dice c__law_dice k__law_dice
  have b__law_dice := F__law_dice.binds (ps := ["script"]) fun _ _ _ _ _ _ us hl => match us, hl with | [_], _ => rfl
  have F__law_draw := fun_mk (st := s__law_draw) l__law_draw c__law_draw k__law_draw
  have b__law_draw := F__law_draw.binds (ps := ["dice", "sides"]) fun _ _ _ _ _ _ us hl => match us, hl with | [_, _], _ => rfl
  have F__law_shuffled := fun_mk (st := s__law_shuffled) l__law_shuffled c__law_shuffled k__law_shuffled
  have b__law_shuffled := F__law_shuffled.binds (ps := ["dice", "items"]) fun _ _ _ _ _ _ us hl => match us, hl with | [_, _], _ => rfl
  have F__law_dealing := fun_mk (st := s__law_dealing) l__law_dealing c__law_dealing k__law_dealing
  have b__law_dealing := F__law_dealing.binds (ps := ["dice", "rows"]) fun _ _ _ _ _ _ us hl => match us, hl with | [_, _], _ => rfl
  have F__law_item := fun_mk (st := s__law_item) l__law_item c__law_item k__law_item
  have b__law_item := F__law_item.binds (ps := ["dice", "rows", "letters", "hands", "size", "kind"]) fun _ _ _ _ _ _ us hl => match us, hl with | [_, _, _, _, _, _], _ => rfl
  have F__law_program := fun_mk (st := s__law_program) l__law_program c__law_program k__law_program
  have b__law_program := F__law_program.binds (ps := ["dice", "most"]) fun _ _ _ _ _ _ us hl => match us, hl with | [_, _], _ => rfl
  have F__law_is_number := fun_mk (st := s__law_is_number) l__law_is_number c__law_is_number k__law_is_number
  have b__law_is_number := F__law_is_number.binds (ps := ["thing", "least", "most"]) fun _ _ _ _ _ _ us hl => match us, hl with | [_, _, _], _ => rfl
  have F__law_is_dealing := fun_mk (st := s__law_is_dealing) l__law_is_dealing c__law_is_dealing k__law_is_dealing
  have b__law_is_dealing := F__law_is_dealing.binds (ps := ["thing", "rows"]) fun _ _ _ _ _ _ us hl => match us, hl with | [_, _], _ => rfl
  have F__law_is_word := fun_mk (st := s__law_is_word) l__law_is_word c__law_is_word k__law_is_word
  have b__law_is_word := F__law_is_word.binds (ps := ["thing"]) fun _ _ _ _ _ _ us hl => match us, hl with | [_], _ => rfl
  have F__law_are_nexts := fun_mk (st := s__law_are_nexts) l__law_are_nexts c__law_are_nexts k__law_are_nexts
  have b__law_are_nexts := F__law_are_nexts.binds (ps := ["thing", "letters", "many"]) fun _ _ _ _ _ _ us hl => match us, hl with | [_, _, _], _ => rfl
  have F__law_is_item := fun_mk (st := s__law_is_item) l__law_is_item c__law_is_item k__law_is_item
  have b__law_is_item := F__law_is_item.binds (ps := ["thing", "dealing", "letters", "many"]) fun _ _ _ _ _ _ us hl => match us, hl with | [_, _, _, _], _ => rfl
  have F__law_wrong := fun_mk (st := s__law_wrong) l__law_wrong c__law_wrong k__law_wrong
  have b__law_wrong := F__law_wrong.binds (ps := ["spec"]) fun _ _ _ _ _ _ us hl => match us, hl with | [_], _ => rfl
  have F__law_odd := fun_mk (st := s__law_odd) l__law_odd c__law_odd k__law_odd
  have b__law_odd := F__law_odd.binds (ps := ["dice", "near"]) fun _ _ _ _ _ _ us hl => match us, hl with | [_, _], _ => rfl
  have F__law_item_changed := fun_mk (st := s__law_item_changed) l__law_item_changed c__law_item_changed k__law_item_changed
  have b__law_item_changed := F__law_item_changed.binds (ps := ["dice", "item"]) fun _ _ _ _ _ _ us hl => match us, hl with | [_, _], _ => rfl
  have F__law_changed := fun_mk (st := s__law_changed) l__law_changed c__law_changed k__law_changed
  have b__law_changed := F__law_changed.binds (ps := ["dice", "spec"]) fun _ _ _ _ _ _ us hl => match us, hl with | [_, _], _ => rfl
  have F_is_integer := fun_mk (st := s_is_integer) l_is_integer c_is_integer k_is_integer
  have b_is_integer := F_is_integer.binds (ps := ["thing"]) fun _ _ _ _ _ _ us hl => match us, hl with | [_], _ => rfl
  have F_is_between := fun_mk (st := s_is_between) l_is_between c_is_between k_is_between
  have b_is_between := F_is_between.binds (ps := ["low", "high", "thing"]) fun _ _ _ _ _ _ us hl => match us, hl with | [_, _, _], _ => rfl
  have F_is_tuple_of := fun_mk (st := s_is_tuple_of) l_is_tuple_of c_is_tuple_of k_is_tuple_of
  have b_is_tuple_of := F_is_tuple_of.binds (ps := ["many", "thing"]) fun _ _ _ _ _ _ us hl => match us, hl with | [_, _], _ => rfl
  have F_is_dealing := fun_mk (st := s_is_dealing) l_is_dealing c_is_dealing k_is_dealing
  have b_is_dealing := F_is_dealing.binds (ps := ["rows", "thing"]) fun _ _ _ _ _ _ us hl => match us, hl with | [_, _], _ => rfl
  have F_is_depth := fun_mk (st := s_is_depth) l_is_depth c_is_depth k_is_depth
  have b_is_depth := F_is_depth.binds (ps := ["hands", "thing"]) fun _ _ _ _ _ _ us hl => match us, hl with | [_, _], _ => rfl
  have F_is_table := fun_mk (st := s_is_table) l_is_table c_is_table k_is_table
  have b_is_table := F_is_table.binds (ps := ["most", "thing"]) fun _ _ _ _ _ _ us hl => match us, hl with | [_, _], _ => rfl
  have F_is_item := fun_mk (st := s_is_item) l_is_item c_is_item k_is_item
  have b_is_item := F_is_item.binds (ps := ["kind", "size", "thing"]) fun _ _ _ _ _ _ us hl => match us, hl with | [_, _, _], _ => rfl
  have F_is_nexts := fun_mk (st := s_is_nexts) l_is_nexts c_is_nexts k_is_nexts
  have b_is_nexts := F_is_nexts.binds (ps := ["letters", "many", "thing"]) fun _ _ _ _ _ _ us hl => match us, hl with | [_, _, _], _ => rfl
  have F_is_numbered := fun_mk (st := s_is_numbered) l_is_numbered c_is_numbered k_is_numbered
  have b_is_numbered := F_is_numbered.binds (ps := ["kind", "below", "letters", "many", "thing"]) fun _ _ _ _ _ _ us hl => match us, hl with | [_, _, _, _, _], _ => rfl
  have F_is_leave := fun_mk (st := s_is_leave) l_is_leave c_is_leave k_is_leave
  have b_is_leave := F_is_leave.binds (ps := ["hands", "many", "thing"]) fun _ _ _ _ _ _ us hl => match us, hl with | [_, _, _], _ => rfl
  have F_is_word := fun_mk (st := s_is_word) l_is_word c_is_word k_is_word
  have b_is_word := F_is_word.binds (ps := ["thing"]) fun _ _ _ _ _ _ us hl => match us, hl with | [_], _ => rfl
  have F_is_say := fun_mk (st := s_is_say) l_is_say c_is_say k_is_say
  have b_is_say := F_is_say.binds (ps := ["many", "thing"]) fun _ _ _ _ _ _ us hl => match us, hl with | [_, _], _ => rfl
  have F_is_stop := fun_mk (st := s_is_stop) l_is_stop c_is_stop k_is_stop
  have b_is_stop := F_is_stop.binds (ps := ["thing"]) fun _ _ _ _ _ _ us hl => match us, hl with | [_], _ => rfl
  have F_is_program_table := fun_mk (st := s_is_program_table) l_is_program_table c_is_program_table k_is_program_table
  have b_is_program_table := F_is_program_table.binds (ps := ["rows", "letters", "hands", "thing"]) fun _ _ _ _ _ _ us hl => match us, hl with | [_, _, _, _], _ => rfl
  have F_Program_M___init__ := fun_mk (st := s_Program_M___init__) l_Program_M___init__ c_Program_M___init__ k_Program_M___init__
  have b_Program_M___init__ := F_Program_M___init__.binds (ps := ["self", "rows", "letters", "dealing", "depth", "table"]) fun _ _ _ _ _ _ us hl => match us, hl with | [_, _, _, _, _, _], _ => rfl
  have F__law_refused := fun_mk (st := s__law_refused) l__law_refused c__law_refused k__law_refused
  have b__law_refused := F__law_refused.binds (ps := ["spec"]) fun _ _ _ _ _ _ us hl => match us, hl with | [_], _ => rfl
  have F_law := fun_mk (st := s_law) l_law c_law k_law
  have FI_BadProgram := fun_mk (st := s_BadProgram_init) il_BadProgram icd_BadProgram ikp_BadProgram
  have bI_BadProgram := FI_BadProgram.binds (ps := ["self", "part"]) fun _ _ _ _ _ _ us hl => match us, hl with | [_, _], _ => rfl
  refine ⟨PySem.W.fnOf "law" "law" (defArgs s_law) (defBody s_law) (defScope s_law) .none kV_law dc_law pm_law an_law cd_law ct_law, fun s v => .of_eq rfl, fun base _ _ => ?_⟩
  have X_BadProgram : FexOk PySem.Challenge.pw_wholewalks_k16_programs_judged w K mg base "BadProgram" A_BadProgram "part" := ⟨⟨PySem.W.mg_of X G n_BadProgram, ⟨⟨_, _, _, _, _, _, _, _, _, _, _, _, _, _, _, x_BadProgram, r_BadProgram⟩, sa_BadProgram, ex_BadProgram, ty_BadProgram, kp_BadProgram⟩, fl_BadProgram, ⟨fI_BadProgram, _, "part", i_BadProgram, it_BadProgram, bI_BadProgram, ok_BadProgram_init FI_BadProgram⟩⟩, ⟨ga_BadProgram, gg_BadProgram, ex_BadProgram, hd_BadProgram⟩⟩
  have G__law_dice := defOk_of (base := base) (w := w) (PySem.W.mg_of X G a__law_dice) k__law_dice b__law_dice (ok__law_dice F__law_dice T)
  have G__law_draw := defOk_of (base := base) (w := w) (PySem.W.mg_of X G a__law_draw) k__law_draw b__law_draw (ok__law_draw F__law_draw T)
  have G__law_shuffled := defOk_of (base := base) (w := w) (PySem.W.mg_of X G a__law_shuffled) k__law_shuffled b__law_shuffled (ok__law_shuffled F__law_shuffled T G__law_draw)
  have G__law_dealing := defOk_of (base := base) (w := w) (PySem.W.mg_of X G a__law_dealing) k__law_dealing b__law_dealing (ok__law_dealing F__law_dealing T G__law_shuffled G__law_draw)
  have G__law_item := defOk_of (base := base) (w := w) (PySem.W.mg_of X G a__law_item) k__law_item b__law_item (ok__law_item F__law_item T G__law_draw)
  have G__law_program := defOk_of (base := base) (w := w) (PySem.W.mg_of X G a__law_program) k__law_program b__law_program (ok__law_program F__law_program T G__law_dealing G__law_draw G__law_item)
  have G__law_is_number := defOk_of (base := base) (w := w) (PySem.W.mg_of X G a__law_is_number) k__law_is_number b__law_is_number (ok__law_is_number F__law_is_number T)
  have G__law_is_dealing := defOk_of (base := base) (w := w) (PySem.W.mg_of X G a__law_is_dealing) k__law_is_dealing b__law_is_dealing (ok__law_is_dealing F__law_is_dealing T G__law_is_number)
  have G__law_is_word := defOk_of (base := base) (w := w) (PySem.W.mg_of X G a__law_is_word) k__law_is_word b__law_is_word (ok__law_is_word F__law_is_word T)
  have G__law_are_nexts := defOk_of (base := base) (w := w) (PySem.W.mg_of X G a__law_are_nexts) k__law_are_nexts b__law_are_nexts (ok__law_are_nexts F__law_are_nexts T G__law_is_number)
  have G__law_is_item := defOk_of (base := base) (w := w) (PySem.W.mg_of X G a__law_is_item) k__law_is_item b__law_is_item (ok__law_is_item F__law_is_item T G__law_is_word G__law_is_number G__law_are_nexts)
  have G__law_wrong := defOk_of (base := base) (w := w) (PySem.W.mg_of X G a__law_wrong) k__law_wrong b__law_wrong (ok__law_wrong F__law_wrong T G__law_is_number G__law_is_dealing G__law_is_item)
  have G__law_odd := defOk_of (base := base) (w := w) (PySem.W.mg_of X G a__law_odd) k__law_odd b__law_odd (ok__law_odd F__law_odd T G__law_draw)
  have G__law_item_changed := defOk_of (base := base) (w := w) (PySem.W.mg_of X G a__law_item_changed) k__law_item_changed b__law_item_changed (ok__law_item_changed F__law_item_changed T G__law_draw G__law_odd)
  have G__law_changed := defOk_of (base := base) (w := w) (PySem.W.mg_of X G a__law_changed) k__law_changed b__law_changed (ok__law_changed F__law_changed T G__law_draw G__law_odd G__law_item_changed)
  have G_is_integer := defOk_of (base := base) (w := w) (PySem.W.mg_of X G a_is_integer) k_is_integer b_is_integer (ok_is_integer F_is_integer T)
  have G_is_between := defOk_of (base := base) (w := w) (PySem.W.mg_of X G a_is_between) k_is_between b_is_between (ok_is_between F_is_between T G_is_integer)
  have G_is_tuple_of := defOk_of (base := base) (w := w) (PySem.W.mg_of X G a_is_tuple_of) k_is_tuple_of b_is_tuple_of (ok_is_tuple_of F_is_tuple_of T)
  have G_is_dealing := defOk_of (base := base) (w := w) (PySem.W.mg_of X G a_is_dealing) k_is_dealing b_is_dealing (ok_is_dealing F_is_dealing T G_is_tuple_of G_is_between)
  have G_is_depth := defOk_of (base := base) (w := w) (PySem.W.mg_of X G a_is_depth) k_is_depth b_is_depth (ok_is_depth F_is_depth T G_is_between)
  have G_is_table := defOk_of (base := base) (w := w) (PySem.W.mg_of X G a_is_table) k_is_table b_is_table (ok_is_table F_is_table T)
  have G_is_item := defOk_of (base := base) (w := w) (PySem.W.mg_of X G a_is_item) k_is_item b_is_item (ok_is_item F_is_item T G_is_tuple_of)
  have G_is_nexts := defOk_of (base := base) (w := w) (PySem.W.mg_of X G a_is_nexts) k_is_nexts b_is_nexts (ok_is_nexts F_is_nexts T G_is_tuple_of G_is_between)
  have G_is_numbered := defOk_of (base := base) (w := w) (PySem.W.mg_of X G a_is_numbered) k_is_numbered b_is_numbered (ok_is_numbered F_is_numbered T G_is_item G_is_between G_is_nexts)
  have G_is_leave := defOk_of (base := base) (w := w) (PySem.W.mg_of X G a_is_leave) k_is_leave b_is_leave (ok_is_leave F_is_leave T G_is_item G_is_between)
  have G_is_word := defOk_of (base := base) (w := w) (PySem.W.mg_of X G a_is_word) k_is_word b_is_word (ok_is_word F_is_word T)
  have G_is_say := defOk_of (base := base) (w := w) (PySem.W.mg_of X G a_is_say) k_is_say b_is_say (ok_is_say F_is_say T G_is_item G_is_word G_is_between)
  have G_is_stop := defOk_of (base := base) (w := w) (PySem.W.mg_of X G a_is_stop) k_is_stop b_is_stop (ok_is_stop F_is_stop T G_is_item)
  have G_is_program_table := defOk_of (base := base) (w := w) (PySem.W.mg_of X G a_is_program_table) k_is_program_table b_is_program_table (ok_is_program_table F_is_program_table T G_is_table G_is_numbered G_is_leave G_is_say G_is_stop)
  have M_Program : MakeOk PySem.Challenge.pw_wholewalks_k16_programs_judged w K mg base "Program" A_Program 6 _ _ := ⟨f_Program_M___init__, _, PySem.W.mg_of X G n_Program, ⟨mk_Program, a_Program_M___init__, isf_Program_M___init__, kp_Program⟩, b_Program_M___init__, ok_Program_M___init__ F_Program_M___init__ T X_BadProgram G_is_between G_is_dealing G_is_depth G_is_program_table⟩
  have G__law_refused := defOk_of (base := base) (w := w) (PySem.W.mg_of X G a__law_refused) k__law_refused b__law_refused (ok__law_refused F__law_refused T X_BadProgram M_Program)
  exact (ok_law F_law T G__law_dice G__law_draw G__law_program G__law_wrong G__law_changed G__law_refused).imp (law_imp (main PT))
end Law
open PySem PySem.W PyProof.Rows
set_option maxRecDepth 100000 in
set_option maxHeartbeats 0 in
theorem PySem.Challenge.cw_wholewalks_k16_programs_judged_holds : PySem.Challenge.rw_wholewalks_k16_programs_judged.Holds := by
  w_on; o_law; k_head; (case hw => w_witness2)
  k_fill
  refine L2.walk_of (l := PySem.Challenge.rw_wholewalks_k16_programs_judged) (n := 63) (k := 9) (x := "script") (CX := fun w => L2.CX PySem.Challenge.rw_wholewalks_k16_programs_judged.prog w) (sp := fun w => Dv.spLawD _ w) rfl (by decide) rfl ⟨rfl, by decide, by decide⟩ (fun w h Y => PySem.W.kIn_of Y) ?F (fun _ _ a ns hl hO hS => ⟨a, ns, rfl, Dv.fz_of hO hS, hl, fun _ => rfl⟩) (fun _ _ _ _ _ z => by obtain ⟨_, _, _, _, _, _, _, _, _, _, _, _, z⟩ := z; exact z.elim)
  case F =>
    intro w mg fa h KX G hmg
    refine' Law.all_mk (l := PySem.Challenge.rw_wholewalks_k16_programs_judged) rfl KX G hmg ?z_ValueError ?z_abs ?z_all ?z_bool ?z_int ?z_isinstance ?z_len ?z_list ?z_max ?z_range ?z_set ?z_sorted ?z_str ?z_tuple ?g_ALPHABET ?g_MOST_ROWS ?g_MOST_LETTERS ?g_MOST_DEPTH ?g_MOST_STANDINGS ?spc ?tkc ?n_WalkError ?ex_WalkError ?ty_WalkError ?ic_WalkError ?n_BadProgram ?x_BadProgram ?r_BadProgram ?kp_BadProgram ?ex_BadProgram ?ty_BadProgram ?ve_BadProgram ?ic_BadProgram ?ga_BadProgram ?gg_BadProgram ?hd_BadProgram ?ca_BadProgram ?mo_BadProgram ?sa_BadProgram ?fl_BadProgram ?i_BadProgram ?it_BadProgram ?il_BadProgram ?icd_BadProgram ?ikp_BadProgram ?p_BadProgram_WalkError ?p_BadProgram_BadProgram ?p_WalkError_WalkError ?n_Program ?pg_Program ?hd_Program ?po_Program ?sa_Program ?mk_Program ?kp_Program ?na_Program_rows ?na_Program_letters ?na_Program_dealing ?na_Program_depth ?na_Program_table ?a__law_dice ?l__law_dice ?c__law_dice ?k__law_dice ?a__law_draw ?l__law_draw ?c__law_draw ?k__law_draw ?a__law_shuffled ?l__law_shuffled ?c__law_shuffled ?k__law_shuffled ?a__law_dealing ?l__law_dealing ?c__law_dealing ?k__law_dealing ?a__law_item ?l__law_item ?c__law_item ?k__law_item ?a__law_program ?l__law_program ?c__law_program ?k__law_program ?a__law_is_number ?l__law_is_number ?c__law_is_number ?k__law_is_number ?a__law_is_dealing ?l__law_is_dealing ?c__law_is_dealing ?k__law_is_dealing ?a__law_is_word ?l__law_is_word ?c__law_is_word ?k__law_is_word ?a__law_are_nexts ?l__law_are_nexts ?c__law_are_nexts ?k__law_are_nexts ?a__law_is_item ?l__law_is_item ?c__law_is_item ?k__law_is_item ?a__law_wrong ?l__law_wrong ?c__law_wrong ?k__law_wrong ?a__law_odd ?l__law_odd ?c__law_odd ?k__law_odd ?a__law_item_changed ?l__law_item_changed ?c__law_item_changed ?k__law_item_changed ?a__law_changed ?l__law_changed ?c__law_changed ?k__law_changed ?a_is_integer ?l_is_integer ?c_is_integer ?k_is_integer ?a_is_between ?l_is_between ?c_is_between ?k_is_between ?a_is_tuple_of ?l_is_tuple_of ?c_is_tuple_of ?k_is_tuple_of ?a_is_dealing ?l_is_dealing ?c_is_dealing ?k_is_dealing ?a_is_depth ?l_is_depth ?c_is_depth ?k_is_depth ?a_is_table ?l_is_table ?c_is_table ?k_is_table ?a_is_item ?l_is_item ?c_is_item ?k_is_item ?a_is_nexts ?l_is_nexts ?c_is_nexts ?k_is_nexts ?a_is_numbered ?l_is_numbered ?c_is_numbered ?k_is_numbered ?a_is_leave ?l_is_leave ?c_is_leave ?k_is_leave ?a_is_word ?l_is_word ?c_is_word ?k_is_word ?a_is_say ?l_is_say ?c_is_say ?k_is_say ?a_is_stop ?l_is_stop ?c_is_stop ?k_is_stop ?a_is_program_table ?l_is_program_table ?c_is_program_table ?k_is_program_table ?a_Program_M___init__ ?isf_Program_M___init__ ?l_Program_M___init__ ?c_Program_M___init__ ?k_Program_M___init__ ?a__law_refused ?l__law_refused ?c__law_refused ?k__law_refused ?a_law ?l_law ?c_law ?k_law
    (case z_ValueError => k_is)
    (case z_abs => k_is)
    (case z_all => k_is)
    (case z_bool => k_is)
    (case z_int => k_is)
    (case z_isinstance => k_is)
    (case z_len => k_is)
    (case z_list => k_is)
    (case z_max => k_is)
    (case z_range => k_is)
    (case z_set => k_is)
    (case z_sorted => k_is)
    (case z_str => k_is)
    (case z_tuple => k_is)
    (case g_ALPHABET => k_is)
    (case g_MOST_ROWS => k_is)
    (case g_MOST_LETTERS => k_is)
    (case g_MOST_DEPTH => k_is)
    (case g_MOST_STANDINGS => k_is)
    (case spc => k_is)
    (case tkc => k_is)
    (case n_WalkError => k_is)
    (case ex_WalkError => k_is)
    (case ty_WalkError => k_is)
    (case ic_WalkError => k_is)
    (case n_BadProgram => k_is)
    (case x_BadProgram => k_is)
    (case r_BadProgram => decide +kernel)
    (case kp_BadProgram => k_is)
    (case ex_BadProgram => k_is)
    (case ty_BadProgram => k_is)
    (case ve_BadProgram => k_is)
    (case ic_BadProgram => k_is)
    (case ga_BadProgram => k_is)
    (case gg_BadProgram => k_is)
    (case hd_BadProgram => k_is)
    (case ca_BadProgram => k_is)
    (case mo_BadProgram => k_is)
    (case sa_BadProgram => k_is)
    (case fl_BadProgram => k_is)
    (case i_BadProgram => k_is)
    (case it_BadProgram => k_is)
    (case il_BadProgram => k_is)
    (case icd_BadProgram => k_is)
    (case ikp_BadProgram => k_is)
    (case p_BadProgram_WalkError => first | rfl | k_is)
    (case p_BadProgram_BadProgram => first | rfl | k_is)
    (case p_WalkError_WalkError => first | rfl | k_is)
    (case n_Program => k_is)
    (case pg_Program => k_is)
    (case hd_Program => k_is)
    (case po_Program => k_is)
    (case sa_Program => k_is)
    (case mk_Program => k_is)
    (case kp_Program => k_is)
    (case na_Program_rows => k_is)
    (case na_Program_letters => k_is)
    (case na_Program_dealing => k_is)
    (case na_Program_depth => k_is)
    (case na_Program_table => k_is)
    (case a__law_dice => k_is)
    (case l__law_dice => k_is)
    (case c__law_dice => k_is)
    (case k__law_dice => k_is)
    (case a__law_draw => k_is)
    (case l__law_draw => k_is)
    (case c__law_draw => k_is)
    (case k__law_draw => k_is)
    (case a__law_shuffled => k_is)
    (case l__law_shuffled => k_is)
    (case c__law_shuffled => k_is)
    (case k__law_shuffled => k_is)
    (case a__law_dealing => k_is)
    (case l__law_dealing => k_is)
    (case c__law_dealing => k_is)
    (case k__law_dealing => k_is)
    (case a__law_item => k_is)
    (case l__law_item => k_is)
    (case c__law_item => k_is)
    (case k__law_item => k_is)
    (case a__law_program => k_is)
    (case l__law_program => k_is)
    (case c__law_program => k_is)
    (case k__law_program => k_is)
    (case a__law_is_number => k_is)
    (case l__law_is_number => k_is)
    (case c__law_is_number => k_is)
    (case k__law_is_number => k_is)
    (case a__law_is_dealing => k_is)
    (case l__law_is_dealing => k_is)
    (case c__law_is_dealing => k_is)
    (case k__law_is_dealing => k_is)
    (case a__law_is_word => k_is)
    (case l__law_is_word => k_is)
    (case c__law_is_word => k_is)
    (case k__law_is_word => k_is)
    (case a__law_are_nexts => k_is)
    (case l__law_are_nexts => k_is)
    (case c__law_are_nexts => k_is)
    (case k__law_are_nexts => k_is)
    (case a__law_is_item => k_is)
    (case l__law_is_item => k_is)
    (case c__law_is_item => k_is)
    (case k__law_is_item => k_is)
    (case a__law_wrong => k_is)
    (case l__law_wrong => k_is)
    (case c__law_wrong => k_is)
    (case k__law_wrong => k_is)
    (case a__law_odd => k_is)
    (case l__law_odd => k_is)
    (case c__law_odd => k_is)
    (case k__law_odd => k_is)
    (case a__law_item_changed => k_is)
    (case l__law_item_changed => k_is)
    (case c__law_item_changed => k_is)
    (case k__law_item_changed => k_is)
    (case a__law_changed => k_is)
    (case l__law_changed => k_is)
    (case c__law_changed => k_is)
    (case k__law_changed => k_is)
    (case a_is_integer => k_is)
    (case l_is_integer => k_is)
    (case c_is_integer => k_is)
    (case k_is_integer => k_is)
    (case a_is_between => k_is)
    (case l_is_between => k_is)
    (case c_is_between => k_is)
    (case k_is_between => k_is)
    (case a_is_tuple_of => k_is)
    (case l_is_tuple_of => k_is)
    (case c_is_tuple_of => k_is)
    (case k_is_tuple_of => k_is)
    (case a_is_dealing => k_is)
    (case l_is_dealing => k_is)
    (case c_is_dealing => k_is)
    (case k_is_dealing => k_is)
    (case a_is_depth => k_is)
    (case l_is_depth => k_is)
    (case c_is_depth => k_is)
    (case k_is_depth => k_is)
    (case a_is_table => k_is)
    (case l_is_table => k_is)
    (case c_is_table => k_is)
    (case k_is_table => k_is)
    (case a_is_item => k_is)
    (case l_is_item => k_is)
    (case c_is_item => k_is)
    (case k_is_item => k_is)
    (case a_is_nexts => k_is)
    (case l_is_nexts => k_is)
    (case c_is_nexts => k_is)
    (case k_is_nexts => k_is)
    (case a_is_numbered => k_is)
    (case l_is_numbered => k_is)
    (case c_is_numbered => k_is)
    (case k_is_numbered => k_is)
    (case a_is_leave => k_is)
    (case l_is_leave => k_is)
    (case c_is_leave => k_is)
    (case k_is_leave => k_is)
    (case a_is_word => k_is)
    (case l_is_word => k_is)
    (case c_is_word => k_is)
    (case k_is_word => k_is)
    (case a_is_say => k_is)
    (case l_is_say => k_is)
    (case c_is_say => k_is)
    (case k_is_say => k_is)
    (case a_is_stop => k_is)
    (case l_is_stop => k_is)
    (case c_is_stop => k_is)
    (case k_is_stop => k_is)
    (case a_is_program_table => k_is)
    (case l_is_program_table => k_is)
    (case c_is_program_table => k_is)
    (case k_is_program_table => k_is)
    (case a_Program_M___init__ => k_is)
    (case isf_Program_M___init__ => k_is)
    (case l_Program_M___init__ => k_is)
    (case c_Program_M___init__ => k_is)
    (case k_Program_M___init__ => k_is)
    (case a__law_refused => k_is)
    (case l__law_refused => k_is)
    (case c__law_refused => k_is)
    (case k__law_refused => k_is)
    (case a_law => k_is)
    (case l_law => k_is)
    (case c_law => k_is)
    (case k_law => k_is)

