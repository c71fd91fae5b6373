import PyProof.Rows.All
import Wide.All
import OpenK.AllK
import Wide.FinOn
import HandS.ForSpec
import HandS.TryMany
import HandS.ExcBuiltin
import KE.KExcSuper
import HandS.ForMost
import HandS.ForExc
import HandS.IsInst
import HandS.StrMore
import HandS.TupAny
import HandS.Style
import HandS.Evl
import HandS.Conv
import HandS.More
import HandS.SetFor
import HandS.Strs
import KE.DatumOrd
import HandS.ExcInit
import HandS.ExcField
import HandS.ExcIs
import KE.KExcIs
import HandS.TupMul
import HandS.Zip
import PySem.Challenge.RW_wholewalks_k75_whole_answers
set_option Elab.async false
set_option linter.all false
set_option maxRecDepth 100000
set_option maxHeartbeats 4000000
set_option maxRecDepth 100000
set_option maxHeartbeats 4000000
/-! ### an own exception over ValueError whose __init__ takes nothing and says super().__init__() -/
namespace PySem
namespace NoX
open PySem.W PySem.Calls PyProof.Rows PySem.HandSPX
def nA (p : Pos) : Arguments := { posonlyargs := [], args := [{ arg := "self", annotation := none, pos := p }], vararg := none, kwonlyargs := [], kw_defaults := [], kwarg := none, defaults := [] }
def nB (q1 q2 q3 q4 q5 : Pos) : List Stmt := [.Expr (.Call (.Attribute (.Call (.Name "super" q1) [] [] q2) "__init__" q3) [] [] q4) q5]
def nS : Scope := { kind := .function, names := [(PySem.Str.ofString "self", .local), (PySem.Str.ofString "__class__", .free), (PySem.Str.ofString "super", .globalImplicit)], isGenerator := false, isCoroutine := false, more := [] }
/-- super().__init__() is a method's call (at its written places) -/
def SupEq (q1 q2 q3 q4 : Pos) : Prop := ∃ pl : Env → Sem Bool, ∀ env : Env, eval (.Call (.Attribute (.Call (.Name "super" q1) [] [] q2) "__init__" q3) [] [] q4) env = (do
      let ov ← attributeBase (.Call (.Name "super" q1) [] [] q2) "__init__" env (eval (.Call (.Name "super" q1) [] [] q2) env)
      standAt q3.atName
      let (f, first) ← holding [ov] (getMethod ov "__init__" (pl env))
      callWith q4 f first (backTo q4 (starEach [] env)) [])
structure NoTxt (P : Program) (K : Frag) (mg : Str → Option Value) (x : Str) (C : Addr) : Prop where
  gC : mg x = some (.ref C)
  cls : ∃ nm q N bs bm sn sub ab col dd k0 k1 k2 k3 k5, K.lookup C = some (excClassObj nm q C N bs bm true sn sub ab col dd k0 k1 k2 k3 k5 "ValueError.__new__") ∧ refsVE bm = true
  kC : keepIn K (.ref C) = true
  exC : subIn K (.ref C) (.type "BaseException") = some true
  tyC : typeIn K (.ref C) = some (.type "type")
  hm : ks_superIn K C C "__init__" = some (some (.builtin "ValueError.__init__"))
  veC : subIn K (.ref C) (.type "ValueError") = some true
  sub : mroIn K C (.ref C) = some true
  sup : mg "super" = none
  top : (P.main.scope.names.lookup ("super" : Str)).isSome = false
  any : nsIn K cStatics "thirdparty.any" = some none
  fn : ∃ (fI : Addr) (oc : Value) (od : Option Addr) (qn : Str) (kV doc pm : Value) (an : Option Addr) (cda : Addr) (ct : Value) (cc : Addr) (osl : Array (Option Value)) (p0 q1 q2 q3 q4 q5 : Pos),
    findIn K (.ref C) "__init__" = some (some (.ref fI)) ∧ typeIn K (.ref fI) = some (.type "function") ∧
    K.lookup fI = some ⟨oc, od, .func (ksFn "__init__" qn (nA p0) (nB q1 q2 q3 q4 q5) nS .none kV doc pm an (.ref cda) ct cc), osl⟩ ∧ codeIn K (.ref cda) qn = true ∧
    (∃ (ccl : Value) (cdd : Option Addr) (vs : Array Value) (ccs : Array (Option Value)) (file : Str) (tf : Tok), K.lookup cda = some ⟨ccl, cdd, .fields vs, ccs⟩ ∧ vs[2]? = some (.str file tf) ∧ ((P.main.file : Str) == file) = true) ∧
    (∃ (cl : Value) (cld : Option Addr) (csl : Array (Option Value)), K.lookup cc = some ⟨cl, cld, .cell (some (.ref C)), csl⟩) ∧ SupEq q1 q2 q3 q4
section
variable {prog : Program} {w : World} {M : Model} {A : Around} {E : Value → Shared → Prop} {h : Heap} {g : Array GenState} {d : Drawn} {t : Nat} {os : OsState}
variable {nm q : Str} {C N : Addr} {bs bm : List Value} {hdct : Bool} {sn : List Str} {sub : List Value} {ab : Bool} {col : Option Bool} {dd : Option Addr} {k0 k1 k2 k3 k5 : Option Value}
theorem call_bwV {u e t0 : Addr} {Q : Value → Shared → Prop}
    (hC : h.get? C = some (excClassObj nm q C N bs bm hdct sn sub ab col dd k0 k1 k2 k3 k5 "ValueError.__new__")) (he : h.get? e = some (excO C t0)) (hu : h.get? u = some (kxs_mw "ValueError.__init__" e))
    (hq : ∀ h' t1, (∀ b o, b ≠ e → h.get? b = some o → h'.get? b = some o) → h'.get? e = some (excO C t1) → Q .none ⟨h', g, d, t, os⟩) :
    wpAny (model prog w) A (call (.ref u) []) Q E ⟨h, g, d, t, os⟩ := by
  refine wpAny_call (codeAny_of_tree ?_)
  show wpAny _ A.in1 (callAny (.ref u) ⟨[], []⟩) _ _ _
  simp only [callAny]
  refine wpAny_bind (wpAny_load hu ?_)
  simp only [kxs_mw, show (Value.type "method-wrapper" == Value.type "method" || Value.type "method-wrapper" == Value.type "builtin_function_or_method" || Value.type "method-wrapper" == Value.type "method-wrapper") = true by decide, if_true]
  refine W.KFB.if_so (by decide) ?_
  refine wpAny_bind (check_bound_init F.excBase_ValueError.toExcCallFacts hC he rfl ?_)
  refine wpAny_bind (wpAny_pure (wpAny_pure ?_))
  refine ⟨Code.quiet_builtin _ (by decide +kernel), codeAny_builtin F.excBase_ValueError.initEntry ?_⟩
  rw [Around.under_plainId F.excBase_ValueError.init.plain _]
  wp_walk
  refine hq _ h.objs.size (fun b o hb ho => ?_) ?_
  · rw [Heap.get?_update_other _ _ (Ne.symm hb)]
    exact Heap.get?_push_of_some _ ho
  · rw [Heap.get?_update_self _ (Heap.get?_push_of_some _ he) rfl]
    rfl
end
section
variable {prog : Program} {w : World} {A : Around} {E : Value → Shared → Prop} {R : Result → Shared → Prop} {s : Shared} {K : Frag} {mg : Str → Option Value} {base : Heap} {x : Str} {C : Addr}
theorem no_init (T : NoTxt prog K mg x C) (hM : L2.Mod K mg base) (kb : ∀ b o, base.get? b = some o → s.heap.get? b = some o) {fI e t0 : Addr} (hi : findIn K (.ref C) "__init__" = some (some (.ref fI))) (hx : s.heap.get? e = some (excO C t0)) (hroom : A.depth < recursionLimit)
    (hq : ∀ h' tk t1, (∀ b o, b ≠ e → s.heap.get? b = some o → h'.get? b = some o) → h'.get? e = some (excO C t1) → R (.ok (.ret .none)) { s with heap := h', toks := tk }) :
    codeAny (model prog w) A (.call (.ref fI) ⟨[.ref e], []⟩) R s := by
  obtain ⟨nm, q, N, bs, bm, sn, sub, ab, col, dd, k0, k1, k2, k3, k5, hC, hbm⟩ := T.cls
  obtain ⟨fI', oc, od, qn, kV, doc, pm, an, cda, ct, cc, osl, p0, q1, q2, q3, q4, q5, hi', tI, lk, hcd, ⟨ccl, cdd, vs, ccs, file, tf, hcode, hvs, hfile⟩, ⟨cl, cld, csl, hcell⟩, pl, hpl⟩ := T.fn
  have e1 : fI' = fI := by
    rw [hi'] at hi
    injection hi with hi
    injection hi with hi
    injection hi
  subst e1
  have X : K.In s.heap := hM.kin.keeps kb
  have hcl : clsIn K C = some { name := nm, bases := bs, mro := .ref C :: bm, ns := N, qualname := q, hasDict := true, slotNames := sn, subclasses := sub, abstract := ab, collection := col, hasDel := false } := by unfold clsIn; rw [hC] <;> rfl
  refine ks_codeAny_call_defAt (fd := ksFn "__init__" qn (nA p0) (nB q1 q2 q3 q4 q5) nS .none kV doc pm an (.ref cda) ct cc) (body := nB q1 q2 q3 q4 q5) (binds := [("self", .ref e)]) hroom (X _ _ lk) rfl (hM.nolimit.keeps kb) (codeRec_of X hcd) rfl (BindsTo.of_eq rfl) (show ∀ x ∈ nS.names, x.2 ≠ .cell by decide) (locs rfl) (fun h₁ hns hk₁ => ?_) rfl rfl rfl
  have X₁ : K.In h₁ := X.keeps hk₁
  have kb₁ : ∀ b o, base.get? b = some o → h₁.get? b = some o := fun b o z => hk₁ b o (kb b o z)
  have hx₁ := hk₁ _ _ hx
  obtain ⟨oD, hD1, hD2⟩ : ∃ oD, h₁.get? C = some oD ∧ oD.data = .cls { name := nm, bases := bs, mro := .ref C :: bm, ns := N, qualname := q, hasDict := true, slotNames := sn, subclasses := sub, abstract := ab, collection := col, hasDel := false } := ⟨_, X₁ _ _ hC, rfl⟩
  obtain ⟨mb, hb1, hb2⟩ := hM.blt
  have I : InstAt h₁ e (excO C t0) C none := ⟨hx₁, rfl, rfl, trivial⟩
  refine ks_wpAt_execs_cons (ks_wpAt_Expr_any (ks_wpAt_MethodCall ?_ (hpl _)))
  refine ks_wpAt_super_base (env := callEnv (ksFn "__init__" qn (nA p0) (nB q1 q2 q3 q4 q5) nS .none kV doc pm an (.ref cda) ct cc) s.heap.objs.size fI') rfl rfl rfl rfl (X₁ _ _ lk) rfl rfl rfl (X₁ _ _ hcode) rfl hvs hfile T.top ?_
  refine ks_loadName_global rfl rfl (loadGlobal_builtin (hM.glob.keeps kb₁) T.sup (hb1.keeps kb₁) ((hb2 _ (by decide +kernel)).trans (by first | boot_by_name | rfl | kernel_rfl)) ⟨rfl, ?_⟩)
  refine wpAny_loadName_free rfl rfl rfl ⟨_, X₁ _ _ hcell, rfl⟩ ?_
  refine wpAny_loadName_local rfl rfl hns (v := .ref e) rfl ?_
  refine ks_wpAny_isType_cls hD1 hD2 ⟨rfl, ?_⟩
  refine ks_wpAny_call_super hD1 hD2 I.at_ I.cls (fun c z => ?_) (looks_mroIn X₁ T.sub) (fun h₂ e₂ k₂ => ?_)
  · have := I.no
    unfold notCls at this
    rw [z] at this
    exact Bool.noConfusion this
  have X₂ : K.In h₂ := X₁.keeps k₂
  have hx₂ := k₂ _ _ hx₁
  have I₂ : InstAt h₂ e (excO C t0) C none := ⟨hx₂, rfl, rfl, trivial⟩
  have hm := T.hm
  unfold ks_superIn at hm
  rw [hcl] at hm
  refine kxs_getMethod kxs_ValueError e₂ (looks_opaque X₂ T.any) (l₀ := .ref C :: bm) ?_ rfl X₂ hm (I₂.type.andThen (looks_subIn X₂ T.veC)) (ks_ne X₂ I₂ hcl) rfl ?_
  · exact fun A Q E s k q => wpAny_bind ((looks_clsIn X₂ hcl) A _ E s k (wpAny_pure q))
  have k₃ : ∀ b o, h₂.get? b = some o → (h₂.push (kxs_mw "ValueError.__init__" e)).get? b = some o := fun b o z => Heap.get?_push_of_some _ z
  refine kxs_callWith (i := "ValueError.__init__") (x := e) rfl (evalArgs_empty ⟨Heap.get?_push_at rfl rfl, ?_⟩)
  refine call_bwV (k₃ _ _ (X₂ _ _ hC)) (k₃ _ _ hx₂) (Heap.get?_push_at rfl rfl) fun h' t1 k' hx' => ?_
  refine wpAt_of_wpAny (wpAny_execs_nil ?_)
  exact hq h' _ t1 (fun b o hb z => k' b o hb (k₃ b o (k₂ b o (hk₁ b o z)))) hx'
end
end NoX
end PySem

set_option maxRecDepth 100000
set_option maxHeartbeats 4000000
namespace L2
open PySem PySem.Spec PyProof.Rows
section
variable {X : Cx} {x : Str} {C : Addr}
/-- X() of a class of NoX -/
theorem pmk_no {p pos : Pos} {k : Nat} (T : PySem.NoX.NoTxt X.prog X.K X.mg x C) (hr : Room k X.A) (hg : Gl X x := by rfl) (hd : (x == ("__debug__" : Str)) = false := by decide) :
    PMk X (.Call (.Name x p) [] [] pos) (fun _ H Q => Q (.ref C) none H) := by
  intro pins s σ H Q I h
  obtain ⟨nm, q, N, bs, bm, sn, sub, ab, col, dd, k0, k1, k2, k3, k5, hC, hbm⟩ := T.cls
  obtain ⟨fI, _, _, _, _, _, _, _, _, _, _, _, _, _, _, _, _, _, hi, tI, _⟩ := T.fn
  refine wpAny_Call_Name_kw (ld_glob I hg T.gC ?_ hd)
  refine PySem.W.callWith_K0 I.kIn T.kC ?_
  show wpAny _ _ (call (.ref C) []) _ _ _
  have kb := I.bk
  have X0 := I.kIn
  obtain ⟨hp, g, dr, tk, os⟩ := s
  have kk : ∀ b o, hp.get? b = some o → ((hp.push (PySem.W.kdv_tup [])).push (PySem.HandSPX.excO C hp.objs.size)).get? b = some o := fun b o e => Heap.get?_push_of_some _ (Heap.get?_push_of_some _ e)
  have hget : ((hp.push (PySem.W.kdv_tup [])).push (PySem.HandSPX.excO C hp.objs.size)).get? (hp.objs.size + 1) = some (PySem.HandSPX.excO C hp.objs.size) := by heap_get
  refine wpAny_call (PySem.HandSPX.call_own F.excBase_ValueError (fun Y => PySem.HandSPX.refsVE_contains Y bm hbm) (X0 _ _ hC) (PySem.W.looks_findIn X0 hi) (fun self => PySem.W.bind_fn X0 self tI) (Nat.zero_le _) ?_)
  refine PySem.NoX.no_init (s := ⟨(hp.push (PySem.W.kdv_tup [])).push (PySem.HandSPX.excO C hp.objs.size), g, dr, tk, os⟩) T I.ok.mod (fun b o z => kk b o (kb b o z)) hi hget ?_ fun h' tk' t1 k' hx => ⟨rfl, ?_⟩
  · have := hr.dp
    show X.A.depth + 1 < recursionLimit
    omega
  · obtain ⟨G', g1, g2⟩ := restrict h' fun b => decide (b ≠ hp.objs.size + 1)
    have gk : ∀ b, b ≠ hp.objs.size + 1 → G'.get? b = h'.get? b := fun b hb => g1 b (decide_eq_true hb)
    have ge : G'.get? (hp.objs.size + 1) = none := g2 _ (by simp)
    have old : ∀ b o, hp.get? b = some o → G'.get? b = some o := fun b o z => by
      have hb : b ≠ hp.objs.size + 1 := Nat.ne_of_lt (Nat.lt_succ_of_lt (Heap.lt_size z))
      exact (gk b hb).trans (k' b o hb (kk b o z))
    have J : Inv X pins σ H ⟨G', g, dr, tk', os⟩ := I.kept (t' := tk') old
    refine ⟨hp.objs.size + 1, _, _, ⟨G', g, dr, tk', os⟩, H, .ref C, none, rfl, J, fun b o z => ?_, ge, hx, ⟨rfl, rfl⟩, rfl, rfl, I.hok.fresh (Nat.le_succ _), rfl, I.bare, raises_own T.exC T.tyC, h⟩
    by_cases hb : b = hp.objs.size + 1
    · have z' : G'.get? b = some o := z
      rw [hb, ge] at z'; cases z'
    · exact (gk b hb).symm.trans z
/-- raise X() -/
theorem ps_no {W : WX} {p pos pos' : Pos} {k : Nat} (hc : X.calm = true) (tk : Takes X W) (T : PySem.NoX.NoTxt X.prog X.K X.mg x C) (hr : Room k X.A) (hg : Gl X x := by rfl) (hd : (x == ("__debug__" : Str)) = false := by decide) :
    PS X (.Raise (some (.Call (.Name x p) [] [] pos)) none pos') (fun _ σ H => W (.ref C) none σ H) := ps_raise hc tk (pmk_no T hr hg hd)
end

/-! ### defs, bundled -/
structure DefOk (P : Program) (w : World) (K : PySem.W.Frag) (mg : Str → Option Value) (base : Heap) (x : Str) (k : Nat) (ps : List Str) (sp : Sp) : Prop where
  ex : ∃ (f : Addr) (fd : FuncData), mg x = some (.ref f) ∧ PySem.W.keepIn K (.ref f) = true ∧ Binds K fd ps [] ∧ FnOk P w K mg base (L2.CX P w) k f fd ps sp
theorem pass0S {X : Cx} (σ : St) : PassesAt (L2.CX X.prog X.w) X σ E0 := fun _ _ _ _ _ _ h => by
  obtain ⟨_, _, _, _, _, _, _, _, _, _, _, _, z⟩ := h
  exact z.elim
def tD (sp : Sp) (t : TA) : TE := fun σ H Q => t σ H fun vs H1 => sp vs H1 Q E0
theorem pe_d {X : Cx} {x : Str} {k j : Nat} {ps : List Str} {sp : Sp} {e : Expr} {es : List Expr} {p pos : Pos} {ta : TA} (G : DefOk X.prog X.w X.K X.mg X.base x k ps sp) (hr : Room j X.A) (hg : Gl X x) (ha : PA X (e :: es) ta) (hj : k ≤ j := by decide)
    (hdb : (x == ("__debug__" : Str)) = false := by decide) (he : starEach (e :: es) X.env = (false, eval e X.env) :: starEach es X.env := by rfl) (hpl : (backTo pos (starEach es X.env)).any (·.1) = false := by rfl) :
    PE X (.Call (.Name x p) (e :: es) [] pos) (tD sp ta) := by
  obtain ⟨f, fd, hm, hk, hb, F⟩ := G.ex
  exact pe_callS F (hr.mono hj) hg hm hk hb (fun σ => pass0S σ) ha hdb he hpl
def tDX (sp : Sp) (W : WX) (t : TA) : TE := fun σ H Q => t σ H fun vs H1 => sp vs H1 Q fun cls d H2 => W cls d σ H2
theorem pe_dX {X : Cx} {x : Str} {k j : Nat} {ps : List Str} {sp : Sp} {e : Expr} {es : List Expr} {p pos : Pos} {ta : TA} {W : WX} (tk : Takes X W) (G : DefOk X.prog X.w X.K X.mg X.base x k ps sp) (hr : Room j X.A) (hg : Gl X x) (ha : PA X (e :: es) ta) (hj : k ≤ j := by decide)
    (hdb : (x == ("__debug__" : Str)) = false := by decide) (he : starEach (e :: es) X.env = (false, eval e X.env) :: starEach es X.env := by rfl) (hpl : (backTo pos (starEach es X.env)).any (·.1) = false := by rfl) :
    PE X (.Call (.Name x p) (e :: es) [] pos) (tDX sp W ta) := by
  obtain ⟨f, fd, hm, hk, hb, F⟩ := G.ex
  exact pe_callS F (hr.mono hj) hg hm hk hb (fun σ => passAt tk σ) ha hdb he hpl
/-- from what the head finds of a def -/
theorem defOk_of {P : Program} {w : World} {K : PySem.W.Frag} {mg : Str → Option Value} {base : Heap} {x : Str} {f : Addr} {fd : FuncData} {k : Nat} {ps : List Str} {sp : Sp} (g : mg x = some (.ref f)) (kp : PySem.W.keepIn K (.ref f) = true) (b : Binds K fd ps []) (F : FnOk P w K mg base (L2.CX P w) k f fd ps sp) : DefOk P w K mg base x k ps sp := ⟨f, fd, g, kp, b, F⟩

/-! ### what stays -/
/-- all that was tracked, but at p and g, is as it was -/
def Sb (p g : Addr) (H H' : Hp) : Prop := ∀ b o, H b = some o → b ≠ p → b ≠ g → H' b = some o
theorem Sb.refl {p g : Addr} (H : Hp) : Sb p g H H := fun _ _ h _ _ => h
theorem Sb.trans {p g : Addr} {H H1 H2 : Hp} (a : Sb p g H H1) (b : Sb p g H1 H2) : Sb p g H H2 := fun c o h h1 h2 => b c o (a c o h h1 h2) h1 h2
theorem Same.sb {p g : Addr} {H H' : Hp} (a : Same H H') : Sb p g H H' := fun b o h _ _ => a b o h
theorem Sb.new {p g : Addr} {H : Hp} {a : Addr} {o : HO} (h : H a = none) : Sb p g H (upd H a o) := fun b u e _ _ => by
  rw [upd_ne (ne_of_none e h)]
  exact e
/-- an address that was free ahead of all this may be written -/
theorem Sb.mut {p g : Addr} {H H' : Hp} {a : Addr} {o : HO} (e : Sb p g H H') (h : H a = none) : Sb p g H (upd H' a o) := fun b u z h1 h2 => by
  rw [upd_ne (ne_of_none z h)]
  exact e b u z h1 h2
theorem Same.new {H : Hp} {a : Addr} {o : HO} (h : H a = none) : Same H (upd H a o) := fun b u e => by
  rw [upd_ne (ne_of_none e h)]
  exact e
theorem Same.mut {H H' : Hp} {a : Addr} {o : HO} (e : Same H H') (h : H a = none) : Same H (upd H' a o) := fun b u z => by
  rw [upd_ne (ne_of_none z h)]
  exact e b u z
end L2

set_option maxRecDepth 100000
set_option maxHeartbeats 4000000
namespace L2
open PySem PySem.Spec PyProof.Rows
/-! ### what the laws draw from -/
def potL (g s : Addr) (t c : Int) : List V := [.ref g, .ref s, .int t, .int c]
structure PotAt (H : Hp) (p g s : Addr) : Prop where
  ex : ∃ (t c : Int) (gs ss : List Int), H p = some (.lst (potL g s t c)) ∧ H g = some (.lst (gs.map V.int)) ∧ H s = some (.lst (ss.map V.int)) ∧ ss ≠ [] ∧ p ≠ g ∧ p ≠ s ∧ g ≠ s ∧ ss.length ≤ 100
theorem PotAt.same {H H' : Hp} {p g s : Addr} (P : PotAt H p g s) (e1 : ∀ o, H p = some o → H' p = some o) (e2 : ∀ o, H g = some o → H' g = some o) (e3 : ∀ o, H s = some o → H' s = some o) : PotAt H' p g s := by
  obtain ⟨t, c, gs, ss, h1, h2, h3, r⟩ := P.ex
  exact ⟨t, c, gs, ss, e1 _ h1, e2 _ h2, e3 _ h3, r⟩
theorem PotAt.keep {H H' : Hp} {p g s : Addr} (P : PotAt H p g s) (e : Same H H') : PotAt H' p g s := P.same (fun _ h => e _ _ h) (fun _ h => e _ _ h) (fun _ h => e _ _ h)
/-- an object that is not the pot's may change -/
theorem PotAt.upd {H : Hp} {p g s a : Addr} {o : HO} (P : PotAt H p g s) (ha : H a = none) : PotAt (upd H a o) p g s := P.keep (Same.new ha)
theorem PotAt.put {H : Hp} {p g s a : Addr} {o : HO} (P : PotAt H p g s) (ha : p ≠ a ∧ g ≠ a ∧ s ≠ a) : PotAt (L2.upd H a o) p g s :=
  P.same (fun _ h => by rw [upd_ne ha.1]; exact h) (fun _ h => by rw [upd_ne ha.2.1]; exact h) (fun _ h => by rw [upd_ne ha.2.2]; exact h)
theorem PotAt.ne {H : Hp} {p g s a : Addr} (P : PotAt H p g s) (ha : H a = none) : p ≠ a ∧ g ≠ a ∧ s ≠ a := by
  obtain ⟨t, c, gs, ss, h1, h2, h3, r⟩ := P.ex
  exact ⟨ne_of_none h1 ha, ne_of_none h2 ha, ne_of_none h3 ha⟩
theorem PotAt.tup {H : Hp} {p g s a : Addr} {xs : List V} (P : PotAt H p g s) (ha : H a = some (.tup xs)) : a ≠ p ∧ a ≠ g := by
  obtain ⟨t, c, gs, ss, h1, h2, h3, r⟩ := P.ex
  exact ⟨ne_of ha h1 (by intro z; cases z), ne_of ha h2 (by intro z; cases z)⟩
theorem Sb.tup {H H' : Hp} {p g s a : Addr} {xs : List V} (e : Sb p g H H') (P : PotAt H p g s) (ha : H a = some (.tup xs)) : H' a = some (.tup xs) := e a _ ha (P.tup ha).1 (P.tup ha).2
/-- what was free behind is free ahead -/
theorem Sb.free {H H' : Hp} {p g s a : Addr} (e : Sb p g H H') (P' : PotAt H' p g s) (h : H' a = none) : H a = none := by
  cases q : H a with
  | none => rfl
  | some o =>
    have := e a o q (P'.ne h).1.symm (P'.ne h).2.1.symm
    rw [h] at this; cases this
theorem pot_set {g s : Addr} {t c t' : Int} : (potL g s t c).set 2 (.int t') = potL g s t' c := rfl
theorem fmod_lt {x m : Int} (h : 0 < m) : 0 ≤ x.fmod m ∧ x.fmod m < m := ⟨Int.fmod_nonneg_of_pos _ h, Int.fmod_lt_of_pos _ h⟩
theorem at_mod {α : Type} {xs : List α} (x : Int) (h : xs ≠ []) : ∃ v, atI xs (x.fmod xs.length) = some v ∧ v ∈ xs := by
  have hl : 0 < xs.length := List.length_pos_iff.mpr h
  obtain ⟨h0, h1⟩ := fmod_lt (x := x) (m := (xs.length : Int)) (by omega)
  obtain ⟨j, hj⟩ : ∃ j : Nat, x.fmod xs.length = (j : Int) := ⟨(x.fmod xs.length).toNat, by omega⟩
  have hj2 : j < xs.length := by omega
  refine ⟨xs[j], ?_, List.getElem_mem hj2⟩
  rw [hj]
  exact atI_nat (List.getElem?_eq_getElem hj2)
theorem at0 {α : Type} {v : α} {r : List α} : atI (v :: r) 0 = some v := atI_nat (xs := v :: r) (j := 0) rfl
theorem ixN0 {n : Nat} (h : 0 < n) : ixN n 0 = some 0 := by
  unfold ixN
  rw [if_pos (by decide), if_pos (by omega)]; rfl
theorem seqIx0 {n : Nat} (h : 0 < n) : seqIndex? 0 n = some 0 := (ixN_seq (ixN0 h)).1
theorem mem_int {ss : List Int} {v : V} (h : v ∈ ss.map V.int) : ∃ z, v = V.int z := by
  obtain ⟨z, _, e⟩ := List.mem_map.mp h
  exact ⟨z, e.symm⟩
/-- the pot is made of the script -/
def spPot (K : PySem.W.Frag) : Sp := fun vs H Q _ => ∃ (a : Addr) (ns : List Int), vs = [.ref a] ∧ SqL K H a (ns.map V.int) ∧ ns.length ≤ 63 ∧ ∀ p g s H', H p = none → H g = none → H s = none → PotAt H' p g s → Same H H' → Q (.ref p) H'
/-- a number is drawn -/
def spDraw : Sp := fun vs H Q _ => ∃ (p g s : Addr) (many : Int), vs = [.ref p, .int many] ∧ PotAt H p g s ∧ 0 < many ∧ many < 1073741824 ∧ ∀ r H', 0 ≤ r → r < many → PotAt H' p g s → Sb p g H H' → Q (.int r) H'
end L2

set_option maxRecDepth 100000
set_option maxHeartbeats 4000000
namespace L2
open PySem PySem.Spec PyProof.Rows
/-! ### strings stripped -/
theorem str_eq {a b : Str} : a = b ↔ a.cps.toList = b.cps.toList := by
  obtain ⟨a⟩ := a
  obtain ⟨b⟩ := b
  constructor
  · intro h; rw [h]
  · intro h
    have : a = b := Array.toList_inj.mp h
    rw [this]
theorem takeWhile_lt {α : Type} {p : α → Bool} : ∀ {l : List α}, l.all p = false → (l.takeWhile p).length < l.length
  | [], h => by simp at h
  | a :: r, h => by
    cases q : p a with
    | true =>
      rw [List.takeWhile_cons_of_pos q]
      have h' : r.all p = false := by simpa [q] using h
      have := takeWhile_lt h'
      simp only [List.length_cons]
      omega
    | false =>
      rw [List.takeWhile_cons_of_neg (by simp [q])]
      simp
theorem drop_not_all {α : Type} {p : α → Bool} : ∀ {l : List α}, l.all p = false → (l.drop (l.takeWhile p).length).all p = false
  | [], h => by simp at h
  | a :: r, h => by
    cases q : p a with
    | true =>
      rw [List.takeWhile_cons_of_pos q]
      have h' : r.all p = false := by simpa [q] using h
      simpa using drop_not_all h'
    | false =>
      rw [List.takeWhile_cons_of_neg (by simp [q])]
      simpa using h
theorem strip_empty (p : Nat → Bool) (x : Str) : Txt.stripBy p true true x = ("" : Str) ↔ x.cps.toList.all p = true := by
  have e0 : (("" : Str)).cps.toList = [] := by decide +kernel
  constructor
  · intro h
    cases q : x.cps.toList.all p with
    | true => rfl
    | false =>
      exfalso
      unfold Txt.stripBy at h
      have hlo := takeWhile_lt q
      have hd := drop_not_all q
      have hrev : ((x.cps.toList.drop (x.cps.toList.takeWhile p).length).reverse).all p = false := by rw [List.all_reverse]; exact hd
      have hk := takeWhile_lt hrev
      rw [List.length_reverse, List.length_drop] at hk
      split at h
      · rw [h, e0] at q
        simp at q
      · rw [str_eq, e0] at h
        have h2 := congrArg List.length h
        unfold PySem.stripped Builtin.Str.strSub PySem.stripHi PySem.stripLo at h2
        simp only [if_true, Array.toList_extract, List.extract_eq_drop_take, List.length_take, List.length_drop, List.length_nil, Str.length] at h2
        simp only [Array.length_toList] at *
        omega
  · intro h
    unfold Txt.stripBy
    have hlo : x.cps.toList.takeWhile p = x.cps.toList := by
      have key : ∀ l : List Nat, l.all p = true → l.takeWhile p = l := by
        intro l
        induction l with
        | nil => intro _; rfl
        | cons a r ih =>
          intro h
          simp only [List.all_cons, Bool.and_eq_true] at h
          rw [List.takeWhile_cons_of_pos h.1, ih h.2]
      exact key _ h
    split
    · rename_i hs
      unfold PySem.stripSame PySem.stripLo at hs
      simp only [if_true, hlo, Bool.and_eq_true, beq_iff_eq] at hs
      rw [str_eq, e0]
      exact List.length_eq_zero_iff.mp hs.1
    · rw [str_eq, e0]
      unfold PySem.stripped Builtin.Str.strSub PySem.stripHi PySem.stripLo
      simp only [if_true, hlo, Array.toList_extract, List.extract_eq_drop_take, Str.length]
      apply List.length_eq_zero_iff.mp
      simp only [List.length_take, List.length_drop, Array.length_toList]
      omega
end L2

set_option maxRecDepth 100000
set_option maxHeartbeats 4000000
namespace L2
open PySem PySem.Spec PyProof.Rows
/-! ### what kind a thing is -/
def TyIs (K : PySem.W.Frag) (H : Hp) (x : V) (s : String) (b : Bool) : Prop := ∃ t, TyX K H x (.type t) ∧ kitB t s = some b
section
variable {K : PySem.W.Frag} {H H' : Hp} {s : String} {b : Bool}
theorem tyis_non (h : kitB "NoneType" s = some b := by decide +kernel) : TyIs K H .non s b := ⟨_, .base .non, h⟩
theorem tyis_bl {c : Bool} (h : kitB "bool" s = some b := by decide +kernel) : TyIs K H (.bl c) s b := ⟨_, .base (.bl c), h⟩
theorem tyis_int {i : Int} (h : kitB "int" s = some b := by decide +kernel) : TyIs K H (.int i) s b := ⟨_, .base (.int i), h⟩
theorem tyis_str {x : Str} (h : kitB "str" s = some b := by decide +kernel) : TyIs K H (.str x) s b := ⟨_, .base (.str x), h⟩
theorem tyis_lst {a : Addr} {xs : List V} (e : H a = some (.lst xs)) (h : kitB "list" s = some b := by decide +kernel) : TyIs K H (.ref a) s b := ⟨_, .base (.lst e), h⟩
theorem tyis_tup {a : Addr} {xs : List V} (e : H a = some (.tup xs)) (h : kitB "tuple" s = some b := by decide +kernel) : TyIs K H (.ref a) s b := ⟨_, .base (.tup e), h⟩
theorem tyis_dK {a : Addr} {kvs : List (Key × V)} (e : H a = some (.dK kvs)) (h : kitB "dict" s = some b := by decide +kernel) : TyIs K H (.ref a) s b := ⟨_, .base (.dK e), h⟩
def IntIs (K : PySem.W.Frag) (H : Hp) (x : V) : Option Int → Prop
  | some i => x = .int i
  | none => ∃ b, TyIs K H x "int" b ∧ (b = true → TyIs K H x "bool" true)
def StrIs (K : PySem.W.Frag) (H : Hp) (x : V) : Option Str → Prop
  | some y => x = .str y ∧ y.length ≤ sizeLine
  | none => TyIs K H x "str" false
def TupIs (K : PySem.W.Frag) (H : Hp) (x : V) : Option (List V) → Prop
  | some xs => ∃ a, x = .ref a ∧ H a = some (.tup xs)
  | none => TyIs K H x "tuple" false
end
/-- letters of the first so many alone -/
def lettB (n : Int) (s : Str) : Bool := s.cps.toList.all fun c => decide (97 ≤ c ∧ (c : Int) < 97 + n)
def lettO (n : Int) : Option Str → Bool
  | some s => lettB n s
  | none => false
theorem cut_abc {n : Int} (h0 : 0 ≤ n) (h3 : n ≤ 3) (c : Nat) : (cutS ("abc" : Str) none (some n)).cps.contains c = decide (97 ≤ c ∧ (c : Int) < 97 + n) := by
  have q : n = 0 ∨ n = 1 ∨ n = 2 ∨ n = 3 := by omega
  rcases q with rfl | rfl | rfl | rfl
  · have e : cutS ("abc" : Str) none (some 0) = ⟨#[]⟩ := by decide +kernel
    rw [e]
    have : ¬ (97 ≤ c ∧ (c : Int) < 97 + 0) := by omega
    simp
    omega
  · have e : cutS ("abc" : Str) none (some 1) = ⟨#[97]⟩ := by decide +kernel
    rw [e]
    rw [Bool.eq_iff_iff]
    simp
    omega
  · have e : cutS ("abc" : Str) none (some 2) = ⟨#[97, 98]⟩ := by decide +kernel
    rw [e]
    rw [Bool.eq_iff_iff]
    simp
    omega
  · have e : cutS ("abc" : Str) none (some 3) = ⟨#[97, 98, 99]⟩ := by decide +kernel
    rw [e]
    rw [Bool.eq_iff_iff]
    simp
    omega
theorem strip_abc {n : Int} (h0 : 0 ≤ n) (h3 : n ≤ 3) (s : Str) : decide (V.str (Txt.stripChars s (cutS ("abc" : Str) none (some n))) = V.str "") = lettB n s := by
  unfold Txt.stripChars lettB
  rw [Bool.eq_iff_iff, decide_eq_true_iff]
  rw [show (V.str (Txt.stripBy (cutS ("abc" : Str) none (some n)).cps.contains true true s) = V.str "") ↔ Txt.stripBy (cutS ("abc" : Str) none (some n)).cps.contains true true s = "" from ⟨fun h => V.str.inj h, fun h => by rw [h]⟩]
  rw [strip_empty, List.all_eq_true, List.all_eq_true]
  constructor
  · intro h c hc
    rw [← cut_abc h0 h3]
    exact h c hc
  · intro h c hc
    rw [cut_abc h0 h3]
    exact h c hc
/-- a content's shape: b tells whether it is one of the first n letters -/
def ConIs (K : PySem.W.Frag) (H : Hp) (n : Int) (x : V) (b : Bool) : Prop :=
  ∃ o, TupIs K H x o ∧ match o with
    | none => b = false
    | some [y, z] => ∃ oy oz, StrIs K H y oy ∧ StrIs K H z oz ∧ b = (lettO n oy && lettO n oz)
    | some _ => b = false
/-! ### the sign at a place -/
def signS (h r : Str) (p : Int) : Str :=
  if p < (h.length : Int) then ⟨#[h.cps.toList.getD p.toNat 0]⟩ else if r.length = 0 then "end" else ⟨#[r.cps.toList.getD ((p - (h.length : Int)).fmod (r.length : Int)).toNat 0]⟩

/-! ### error classes by name in except clauses -/
theorem exm_by {K : PySem.W.Frag} {S : Value} {C : Addr} {b : Bool} (h1 : PySem.W.subIn K (.ref C) (.type "BaseException") = some true) (h2 : PySem.W.isClsIn K C = true) (h3 : PySem.W.typeIn K (.ref C) = some (.type "type")) (h4 : PySem.W.subIn K S (.ref C) = some b) :
    PySem.W.exmOne K S (.ref C) = some b := by
  have e1 : (PySem.W.subIn K (.ref C) (.type "BaseException") == some true) = true := by rw [h1] <;> rfl
  have e2 : ((PySem.W.clsIn K C).isSome && PySem.W.typeIn K (.ref C) == some (.type "type")) = true := by
    have h2' : (PySem.W.clsIn K C).isSome = true := h2
    rw [h2', h3] <;> rfl
  show (if (PySem.W.subIn K (.ref C) (.type "BaseException") == some true) = true then (if ((PySem.W.clsIn K C).isSome && PySem.W.typeIn K (.ref C) == some (.type "type")) = true then PySem.W.subIn K S (.ref C) else none) else none) = some b
  rw [if_pos e1, if_pos e2]
  exact h4
end L2

set_option maxRecDepth 100000
set_option maxHeartbeats 4000000
namespace L2
open PySem PySem.Spec PyProof.Rows
theorem decI {a b : Int} : decide (V.int a = V.int b) = decide (a = b) := by
  rw [dec_int, Bool.eq_iff_iff]
  simp
theorem decS {a b : Str} : decide (V.str a = V.str b) = decide (a = b) := by
  rw [dec_str, Bool.eq_iff_iff]
  simp
theorem getD_app {l r : List Nat} {i : Nat} (h : i < l.length) : (l ++ r).getD i 0 = l.getD i 0 := by
  rw [List.getD_eq_getElem?_getD, List.getD_eq_getElem?_getD, List.getElem?_append_left h]
theorem getD_app2 {l r : List Nat} {i : Nat} (h : l.length ≤ i) : (l ++ r).getD i 0 = r.getD (i - l.length) 0 := by
  rw [List.getD_eq_getElem?_getD, List.getD_eq_getElem?_getD, List.getElem?_append_right h]
theorem at_some {α : Type} {xs : List α} {i : Int} (h0 : 0 ≤ i) (h1 : i < (xs.length : Int)) : ∃ v, atI xs i = some v ∧ v ∈ xs := by
  obtain ⟨j, rfl⟩ : ∃ j : Nat, i = (j : Int) := ⟨i.toNat, by omega⟩
  have hj : j < xs.length := by omega
  exact ⟨xs[j], atI_nat (List.getElem?_eq_getElem hj), List.getElem_mem hj⟩
theorem at_getD {z : Str} {i : Int} (h0 : 0 ≤ i) (h1 : i < (z.length : Int)) : atI z.cps.toList i = some (z.cps.toList.getD i.toNat 0) := by
  obtain ⟨j, rfl⟩ : ∃ j : Nat, i = (j : Int) := ⟨i.toNat, by omega⟩
  have hl : z.length = z.cps.toList.length := by simp [Str.length]
  have hj : j < z.cps.toList.length := by omega
  refine atI_nat ?_
  rw [List.getElem?_eq_getElem hj, Int.toNat_natCast, List.getD_eq_getElem?_getD, List.getElem?_eq_getElem hj]
  rfl
theorem str_len (z : Str) : z.length = z.cps.toList.length := by simp [Str.length]
theorem str_empty {r : Str} : V.str r = V.str "" ↔ r.length = 0 := by
  have e0 : (("" : Str)).cps.toList = [] := by decide +kernel
  constructor
  · intro h
    have := V.str.inj h
    rw [str_len, this, e0]
    rfl
  · intro h
    rw [str_len] at h
    have : r = "" := str_eq.mpr (by rw [e0]; exact List.length_eq_zero_iff.mp h)
    rw [this]
section
variable {X : Cx}
/-- a text times a number -/
theorem op_mulS : OpR X (binaryOp .Mult) (fun x y H Q => ∃ (z : Str) (n : Int), x = .str z ∧ y = .int n ∧ MulOk z n ∧ Q (.str (Txt.mul z n)) H) := by
  intro pins s σ H x y v u Q I rx ry h
  obtain ⟨z, n, rfl, rfl, hz, q⟩ := h
  obtain ⟨t, rfl⟩ := rx
  obtain ⟨t', rfl⟩ := ry
  exact SB.mul hz fun t' k => ⟨.str _, H, I.tok _, ⟨_, rfl⟩, q⟩
end
theorem mulOk_small {z : Str} {n : Int} (h0 : 0 ≤ n) (h1 : n ≤ 1000) (hz : z.length ≤ 10000) : MulOk z n := by
  refine ⟨?_, fun h _ => ?_, fun h _ => ?_⟩
  · rw [Bool.or_eq_false_iff]
    exact ⟨decide_eq_false (by omega), decide_eq_false (by omega)⟩
  · have e : (2 ^ 63 - 1 : Int) = 9223372036854775807 := by decide
    rw [e]
    have hn : 0 < n := by omega
    have : (10000 : Int) ≤ 9223372036854775807 / n := (Int.le_ediv_iff_mul_le hn).mpr (by have : 10000 * n ≤ 10000 * 1000 := Int.mul_le_mul_of_nonneg_left h1 (by decide); omega)
    omega
  · have q : z.length * n.toNat ≤ 10000 * 1000 := Nat.mul_le_mul hz (by omega)
    unfold Builtin.Str.tooLong
    rw [decide_eq_false_iff_not, sizeLine_eq]
    omega
theorem tl_mul (z : Str) {n : Int} (h : 0 ≤ n) : (Txt.mul z n).cps.toList = (List.replicate n.toNat z.cps.toList).flatten := by
  have key : ∀ (k : Nat) (acc : Array Nat), ((List.replicate k z.cps).foldl (· ++ ·) acc).toList = acc.toList ++ (List.replicate k z.cps.toList).flatten := by
    intro k
    induction k with
    | zero => intro acc; simp
    | succ k ih =>
      intro acc
      rw [List.replicate_succ, List.foldl_cons, ih, List.replicate_succ, List.flatten_cons, Array.toList_append, List.append_assoc]
  unfold Txt.mul
  split
  · have : n.toNat = 0 := by omega
    rw [this]; rfl
  split
  · rename_i h1 h2
    rw [Bool.or_eq_true] at h2
    rcases h2 with h2 | h2
    · have : n = 1 := by simpa using h2
      subst this
      simp
    · have : z.length = 0 := by simpa using h2
      rw [str_len] at this
      have e := List.length_eq_zero_iff.mp this
      rw [e]
      simp
  · rw [key]; simp
/-- an item of a list again and again -/
theorem get_rep {l : List Nat} (hl : 0 < l.length) : ∀ (k i : Nat), i < k * l.length → ((List.replicate k l).flatten).getD i 0 = l.getD (i % l.length) 0
  | 0, i, h => by omega
  | k + 1, i, h => by
    rw [List.replicate_succ, List.flatten_cons]
    by_cases hi : i < l.length
    · rw [getD_app hi, Nat.mod_eq_of_lt hi]
    · have hi : l.length ≤ i := by omega
      rw [getD_app2 hi, get_rep hl k (i - l.length) (by rw [Nat.add_mul] at h; omega), Nat.mod_eq_sub_mod hi]
theorem len_rep (l : List Nat) (k : Nat) : ((List.replicate k l).flatten).length = k * l.length := by
  simp
theorem tl_app (a b : Str) : (a ++ b).cps.toList = a.cps.toList ++ b.cps.toList := by
  obtain ⟨a⟩ := a; obtain ⟨b⟩ := b
  show (a ++ b).toList = _
  simp
/-- the head, and the round twelve times -/
theorem sign_whole {u r : Str} {p : Int} {n : Nat} (hp : 0 ≤ p) (h : p < ((u ++ Txt.mul r (n : Int)).length : Int)) : (⟨#[(u ++ Txt.mul r (n : Int)).cps.toList.getD p.toNat 0]⟩ : Str) = signS u r p := by
  rw [str_len, tl_app, List.length_append, tl_mul r (by omega), len_rep, Int.toNat_natCast] at h
  rw [tl_app, tl_mul r (by omega), Int.toNat_natCast]
  unfold signS
  split
  · rename_i h1
    rw [str_len] at h1
    rw [getD_app (by omega)]
  · rename_i h1
    rw [str_len] at h1
    have h1 : u.cps.toList.length ≤ p.toNat := by omega
    have hr : ¬ r.length = 0 := by
      rw [str_len]
      intro z
      rw [z] at h
      omega
    rw [if_neg hr, getD_app2 h1]
    rw [str_len] at hr
    have hr2 : 0 < r.cps.toList.length := by omega
    rw [get_rep hr2 n _ (by omega)]
    have e : ((p - (u.length : Int)).fmod (r.length : Int)).toNat = (p.toNat - u.cps.toList.length) % r.cps.toList.length := by
      rw [str_len, str_len, Int.fmod_eq_emod_of_nonneg _ (by omega)]
      have e2 : p - (u.cps.toList.length : Int) = ((p.toNat - u.cps.toList.length : Nat) : Int) := by omega
      rw [e2]
      omega
    rw [e]
theorem tl_join0 (ys : List Str) : (Txt.join "" ys).cps.toList = (ys.map (·.cps.toList)).flatten := by
  have e0 : TL.tl ("" : Str) = [] := by decide +kernel
  have key : ∀ l : List (List Nat), TL.joinL [] l = l.flatten := by
    intro l
    induction l with
    | nil => rfl
    | cons a r ih =>
      cases r with
      | nil => simp [TL.joinL]
      | cons b q =>
        show a ++ ([] ++ TL.joinL [] (b :: q)) = _
        rw [ih]; simp
  show TL.tl (Txt.join "" ys) = _
  rw [TL.join_eq, TL.tl_join, e0, key]
/-- a right content at an address -/
def ConAt (H : Hp) (x : V) (h r : Str) : Prop := ∃ a, x = .ref a ∧ H a = some (.tup [.str h, .str r]) ∧ h.length ≤ 100000 ∧ r.length ≤ 100000 ∧ lettB 3 h = true ∧ lettB 3 r = true
theorem ConAt.is {K : PySem.W.Frag} {H : Hp} {x : V} {h r : Str} (c : ConAt H x h r) : ConIs K H 3 x true := by
  obtain ⟨a, rfl, ha, h1, h2, h3, h4⟩ := c
  exact ⟨some [.str h, .str r], ⟨a, rfl, ha⟩, some h, some r, ⟨rfl, Nat.le_trans h1 (by decide)⟩, ⟨rfl, Nat.le_trans h2 (by decide)⟩, by show true = (lettB 3 h && lettB 3 r); rw [h3, h4]; rfl⟩
section
variable {X : Cx}
/-- a word between an expression and what comes behind: shown once -/
def tMid (te : TE) : TE := fun σ H Q => ∃ Mid : V → Hp → Prop, te σ H Mid ∧ ∀ v H', Mid v H' → Q v H'
theorem pe_mid {e : Expr} {te : TE} (h : PE X e te) : PE X e (tMid te) := by
  refine ⟨fun pins s σ H Q I hq => ?_⟩
  obtain ⟨Mid, h1, h2⟩ := hq
  exact thn (h.run pins s σ H _ I h1) fun u s1 ⟨v, H', I', r, q⟩ => ⟨v, H', I', r, h2 v H' q⟩
/-- the same for a statement -/
def tMidS (t : TS) : TS := fun D σ H => ∃ Mid : St → Hp → Prop, t { D with nx := Mid } σ H ∧ ∀ σ' H', Mid σ' H' → D.nx σ' H'
theorem ps_mid {st : Stmt} {t : TS} (h : PS X st t) : PS X st (tMidS t) := by
  refine ⟨fun pins s σ H D I hq => ?_⟩
  obtain ⟨Mid, h1, h2⟩ := hq
  refine thn (h.run pins s σ H { D with nx := Mid } I h1) fun f s1 q => ?_
  cases f with
  | next =>
    obtain ⟨σ', H', I', q⟩ := q
    exact ⟨σ', H', I', h2 σ' H' q⟩
  | ret v => exact q
  | brk => exact q
  | cont => exact q
end
theorem signS_end {h r : Str} {p : Int} (h1 : (h.length : Int) ≤ p) (h2 : r.length = 0) : signS h r p = "end" := by
  unfold signS
  rw [if_neg (by omega), if_pos h2]
theorem lett_mono {n m : Int} {s : Str} (h : n ≤ m) (hs : lettB n s = true) : lettB m s = true := by
  unfold lettB at *
  rw [List.all_eq_true] at *
  intro c hc
  have := of_decide_eq_true (hs c hc)
  exact decide_eq_true ⟨this.1, by omega⟩
theorem lett_empty {n : Int} : lettB n "" = true := by
  have e0 : (("" : Str)).cps.toList = [] := by decide +kernel
  unfold lettB
  rw [e0]; rfl
theorem cutS_len (z : Str) (lo hi : Option Int) : (cutS z lo hi).length ≤ z.length := by
  rw [str_len, str_len]
  unfold cutS
  show (List.take _ (List.drop _ _)).length ≤ _
  rw [List.length_take, List.length_drop]
  omega
theorem tl_cut_from {z : Str} {c : Nat} : (cutS z (some (c : Int)) none).cps.toList = z.cps.toList.drop c := by
  unfold cutS
  show List.take _ (List.drop _ _) = _
  rw [HT.sIx_nat, HT.sIx_none, str_len]
  by_cases h : c ≤ z.cps.toList.length
  · rw [Nat.min_eq_left h, List.take_of_length_le (by rw [List.length_drop]; exact Nat.le_refl _)]
  · rw [List.drop_eq_nil_of_le (by omega : z.cps.toList.length ≤ c), List.drop_eq_nil_of_le (by omega), List.take_nil]
theorem tl_cut_to {z : Str} {c : Nat} : (cutS z none (some (c : Int))).cps.toList = z.cps.toList.take c := by
  unfold cutS
  show List.take _ (List.drop _ _) = _
  rw [HT.sIx_nat, HT.sIx_none, str_len, List.drop_zero, Nat.sub_zero]
  by_cases h : c ≤ z.cps.toList.length
  · rw [Nat.min_eq_left h]
  · rw [Nat.min_eq_right (by omega), List.take_of_length_le (Nat.le_refl _), List.take_of_length_le (by omega)]
theorem ConAt.keep {H H' : Hp} {x : V} {h r : Str} (c : ConAt H x h r) (s : Same H H') : ConAt H' x h r := by
  obtain ⟨a, rfl, ha, q⟩ := c
  exact ⟨a, rfl, s _ _ ha, q⟩
theorem ConAt.of {H : Hp} {a : Addr} {u v : Str} (h : H a = some (.tup [.str u, .str v])) (hu : u.length ≤ 100000) (hv : v.length ≤ 100000) (lu : lettB 3 u = true) (lv : lettB 3 v = true) : ConAt H (.ref a) u v := ⟨a, rfl, h, hu, hv, lu, lv⟩
end L2

set_option maxRecDepth 100000
set_option maxHeartbeats 4000000
namespace L2
open PySem PySem.Spec PyProof.Rows
/-! ### the dice -/
def diceL (q : Addr) (a b c d : Int) : List V := [.ref q, .int a, .int b, .int c, .int d]
structure DiceAt (H : Hp) (p q : Addr) : Prop where
  ex : ∃ (a b c d : Int) (ns : List Int), H p = some (.lst (diceL q a b c d)) ∧ H q = some (.lst (ns.map V.int)) ∧ p ≠ q ∧ 0 ≤ a
theorem DiceAt.same {H H' : Hp} {p q : Addr} (P : DiceAt H p q) (e1 : ∀ o, H p = some o → H' p = some o) (e2 : ∀ o, H q = some o → H' q = some o) : DiceAt H' p q := by
  obtain ⟨a, b, c, d, ns, h1, h2, r⟩ := P.ex
  exact ⟨a, b, c, d, ns, e1 _ h1, e2 _ h2, r⟩
theorem DiceAt.keep {H H' : Hp} {p q : Addr} (P : DiceAt H p q) (e : Same H H') : DiceAt H' p q := P.same (fun _ h => e _ _ h) (fun _ h => e _ _ h)
theorem DiceAt.upd {H : Hp} {p q a : Addr} {o : HO} (P : DiceAt H p q) (ha : H a = none) : DiceAt (upd H a o) p q := P.keep (Same.new ha)
theorem DiceAt.put {H : Hp} {p q a : Addr} {o : HO} (P : DiceAt H p q) (ha : p ≠ a ∧ q ≠ a) : DiceAt (L2.upd H a o) p q := P.same (fun _ h => by rw [upd_ne ha.1]; exact h) (fun _ h => by rw [upd_ne ha.2]; exact h)
theorem DiceAt.ne {H : Hp} {p q a : Addr} (P : DiceAt H p q) (ha : H a = none) : p ≠ a ∧ q ≠ a := by
  obtain ⟨a, b, c, d, ns, h1, h2, r⟩ := P.ex
  exact ⟨ne_of_none h1 ha, ne_of_none h2 ha⟩
theorem DiceAt.tup {H : Hp} {p q a : Addr} {xs : List V} (P : DiceAt H p q) (ha : H a = some (.tup xs)) : a ≠ p := by
  obtain ⟨a, b, c, d, ns, h1, h2, r⟩ := P.ex
  exact ne_of ha h1 (by intro z; cases z)
theorem Sb.tupD {H H' : Hp} {p q a : Addr} {xs : List V} (e : Sb p p H H') (P : DiceAt H p q) (ha : H a = some (.tup xs)) : H' a = some (.tup xs) := e a _ ha (P.tup ha) (P.tup ha)
theorem Sb.freeD {H H' : Hp} {p q a : Addr} (e : Sb p p H H') (P' : DiceAt H' p q) (h : H' a = none) : H a = none := by
  cases z : H a with
  | none => rfl
  | some o =>
    have := e a o z (P'.ne h).1.symm (P'.ne h).1.symm
    rw [h] at this; cases this
theorem dice_set {q : Addr} {a b c d z : Int} : (diceL q a b c d).set 1 (.int z) = diceL q z b c d ∧ (diceL q a b c d).set 2 (.int z) = diceL q a z c d ∧ (diceL q a b c d).set 3 (.int z) = diceL q a b z d ∧ (diceL q a b c d).set 4 (.int z) = diceL q a b c z := ⟨rfl, rfl, rfl, rfl⟩
def spDice (K : PySem.W.Frag) : Sp := fun vs H Q _ => ∃ (a : Addr) (ns : List Int), vs = [.ref a] ∧ SqL K H a (ns.map V.int) ∧ ns.length ≤ 63 ∧ ∀ p q H', H p = none → H q = none → DiceAt H' p q → Same H H' → Q (.ref p) H'
def spDrawD : Sp := fun vs H Q _ => ∃ (p q : Addr) (many : Int), vs = [.ref p, .int many] ∧ DiceAt H p q ∧ 0 < many ∧ many < 1073741824 ∧ ∀ r H', 0 ≤ r → r < many → DiceAt H' p q → Sb p p H H' → Q (.int r) H'
theorem cut63 {ns : List Int} (hl : ns.length ≤ 63) : cutV (ns.map V.int) none (some 63) = ns.map V.int := by
  unfold cutV
  rw [HT.sIx_none, show (63 : Int) = ((63 : Nat) : Int) from rfl, HT.sIx_nat, List.length_map, List.drop_zero, Nat.min_eq_right hl, Nat.sub_zero]
  exact List.take_of_length_le (by rw [List.length_map]; exact Nat.le_refl _)
theorem at_int {ns : List Int} {i : Int} (h0 : 0 ≤ i) (h1 : i < (ns.length : Int)) : ∃ z, atI (ns.map V.int) i = some (.int z) := by
  obtain ⟨v, hv, hm⟩ := at_some (xs := ns.map V.int) h0 (by rw [List.length_map]; exact h1)
  obtain ⟨z, rfl⟩ := mem_int hm
  exact ⟨z, hv⟩
end L2

set_option maxRecDepth 100000
set_option maxHeartbeats 4000000
namespace L2
open PySem PySem.Spec PyProof.Rows
/-! ### a built-in's method within a comprehension: the fragment is the def's own -/
theorem pe_bmF {X : Cx} {K : PySem.W.Frag} (hK : X.K = K) {c : Expr} {to : TE} {t : TA} {T : String} {r : V → List V → Hp → VK → Prop} (h : PE X c (tBM X.K T r to t)) : PE X c (tBM K T r to t) := by
  subst hK
  exact h
section
variable {X : Cx} {K : PySem.W.Frag} (hK : X.K = K)
include hK
theorem len_seqF : CallR X (.builtin "len") (fun xs H Q => ∃ p ys, xs = [.ref p] ∧ (SqL K H p ys ∨ SqT K H p ys) ∧ Q (.int ys.length) H) := by subst hK; exact call_len_seq
theorem list_ofF : CallR X (.type "list") (fun xs H Q => ∃ p ys, xs = [.ref p] ∧ (SqL K H p ys ∨ SqT K H p ys) ∧ ∀ l, H l = none → Q (.ref l) (upd H l (.lst ys))) := by subst hK; exact call_list_of
theorem tuple_ofF : CallR X (.type "tuple") (fun xs H Q => ∃ p ys, xs = [.ref p] ∧ ((SqL K H p ys ∧ ∀ l, H l = none → Q (.ref l) (upd H l (.tup ys))) ∨ (SqT K H p ys ∧ Q (.ref p) H))) := by subst hK; exact call_tuple_of
theorem isiF : CallR X (.builtin "isinstance") (rIsi K) := by subst hK; exact call_isi
theorem all_F (hc : X.calm = true) : CallR X (.builtin "all") (rAll K) := by subst hK; exact cr_all hc
theorem ix_listF : IxR X (rIxL K) := by subst hK; exact ix_list
theorem ix_tupF : IxR X (rIxT K) := by subst hK; exact ix_tup
theorem ix_seqF : IxR X (rIx K) := by subst hK; exact ix_seq
theorem pe_fldF {e : Expr} {f : Str} {pos : Pos} {ta : TE} (h : PE X e ta) (hb : attributeBase e f X.env (eval e X.env) = eval e X.env) : PE X (e.Attribute f pos) (tFld K ta f) := by subst hK; exact pe_fld h hb
theorem pi_tupF {tg l : Expr} {tl : TE} (h : PE X l tl) : PI X tg l (iTup K tl) := by subst hK; exact pi_tup h
theorem pi_listF {tg l : Expr} {tl : TE} (h : PE X l tl) : PI X tg l (iList K tl) := by subst hK; exact pi_list h
end
/-! ### programs drawn -/
/-- each hand from 0 to the greatest one stands there -/
def Dealing (rows : Nat) (dl : List Int) (hands : Nat) : Prop := dl.length = rows ∧ 0 < hands ∧ hands ≤ rows ∧ (∀ h, h ∈ dl → 0 ≤ h ∧ h < (hands : Int)) ∧ ∀ k : Nat, k < hands → (k : Int) ∈ dl
theorem Dealing.max {rows : Nat} {dl : List Int} {hands : Nat} {m : Int} (d : Dealing rows dl hands) (h1 : m ∈ dl) (h2 : ∀ y, y ∈ dl → y ≤ m) : m = (hands : Int) - 1 := by
  obtain ⟨_, h0, _, hr, hs⟩ := d
  have a := hr m h1
  have b := h2 _ (hs (hands - 1) (by omega))
  omega
/-- a standing of a program -/
inductive Item where
  | begin (row : Nat) (nexts : List Nat)
  | on (hand : Nat) (nexts : List Nat)
  | leave (hand next : Nat)
  | say (w : Str) (next : Nat)
  | stop
def natV (n : Nat) : V := .int (n : Int)
def ItemAt (H : Hp) (v : V) : Item → Prop
  | .begin r ns => ∃ a n, v = .ref a ∧ H a = some (.tup [.str "begin", natV r, .ref n]) ∧ H n = some (.tup (ns.map natV))
  | .on r ns => ∃ a n, v = .ref a ∧ H a = some (.tup [.str "on", natV r, .ref n]) ∧ H n = some (.tup (ns.map natV))
  | .leave h n => ∃ a, v = .ref a ∧ H a = some (.tup [.str "leave", natV h, natV n])
  | .say w n => ∃ a, v = .ref a ∧ H a = some (.tup [.str "say", .str w, natV n])
  | .stop => ∃ a, v = .ref a ∧ H a = some (.tup [.str "stop"])
/-- tuples stay -/
def TupSame (H H' : Hp) : Prop := ∀ a xs, H a = some (.tup xs) → H' a = some (.tup xs)
theorem TupSame.refl (H : Hp) : TupSame H H := fun _ _ h => h
theorem TupSame.trans {H H1 H2 : Hp} (a : TupSame H H1) (b : TupSame H1 H2) : TupSame H H2 := fun c x h => b c x (a c x h)
theorem Same.tups {H H' : Hp} (s : Same H H') : TupSame H H' := fun a xs h => s a _ h
theorem Sb.tups {H H' : Hp} {p q : Addr} (e : Sb p p H H') (P : DiceAt H p q) : TupSame H H' := fun a xs h => e.tupD P h
theorem ItemAt.keep {H H' : Hp} {v : V} {i : Item} (h : ItemAt H v i) (s : TupSame H H') : ItemAt H' v i := by
  cases i with
  | begin r ns => obtain ⟨a, n, e, h1, h2⟩ := h; exact ⟨a, n, e, s _ _ h1, s _ _ h2⟩
  | on r ns => obtain ⟨a, n, e, h1, h2⟩ := h; exact ⟨a, n, e, s _ _ h1, s _ _ h2⟩
  | leave h' n => obtain ⟨a, e, h1⟩ := h; exact ⟨a, e, s _ _ h1⟩
  | say w n => obtain ⟨a, e, h1⟩ := h; exact ⟨a, e, s _ _ h1⟩
  | stop => obtain ⟨a, e, h1⟩ := h; exact ⟨a, e, s _ _ h1⟩
/-- what is right of a standing -/
def ItemOk (rows letters hands size : Nat) : Item → Prop
  | .begin r ns => r < rows ∧ ns.length = letters + 1 ∧ ∀ n ∈ ns, n < size
  | .on h ns => h < hands ∧ ns.length = letters + 1 ∧ ∀ n ∈ ns, n < size
  | .leave h n => h < hands ∧ n < size
  | .say w n => 0 < w.length ∧ w.length ≤ 8 ∧ lettB 26 w = true ∧ n < size
  | .stop => True
inductive All2 {α β : Type} (R : α → β → Prop) : List α → List β → Prop
  | nil : All2 R [] []
  | cons {a : α} {b : β} {l : List α} {m : List β} : R a b → All2 R l m → All2 R (a :: l) (b :: m)
theorem All2.imp {α β : Type} {R S : α → β → Prop} {l : List α} {m : List β} (h : All2 R l m) (i : ∀ a b, R a b → S a b) : All2 S l m := by
  induction h with
  | nil => exact .nil
  | cons a _ ih => exact .cons (i _ _ a) ih
theorem All2.len {α β : Type} {R : α → β → Prop} {l : List α} {m : List β} (h : All2 R l m) : l.length = m.length := by
  induction h with
  | nil => rfl
  | cons _ _ ih => simp [ih]
theorem All2.snoc {α β : Type} {R : α → β → Prop} {l : List α} {m : List β} {a : α} {b : β} (h : All2 R l m) (r : R a b) : All2 R (l ++ [a]) (m ++ [b]) := by
  induction h with
  | nil => exact .cons r .nil
  | cons x _ ih => exact .cons x ih
theorem All2.get {α β : Type} {R : α → β → Prop} {l : List α} {m : List β} (h : All2 R l m) : ∀ {i : Nat} {a : α}, l[i]? = some a → ∃ b, m[i]? = some b ∧ R a b := by
  induction h with
  | nil => intro i a e; simp at e
  | cons x _ ih =>
    intro i a e
    cases i with
    | zero => simp at e; subst e; exact ⟨_, rfl, x⟩
    | succ i => simpa using ih (by simpa using e)
theorem All2.get2 {α β : Type} {R : α → β → Prop} {l : List α} {m : List β} (h : All2 R l m) : ∀ {i : Nat} {b : β}, m[i]? = some b → ∃ a, l[i]? = some a ∧ R a b := by
  induction h with
  | nil => intro i a e; simp at e
  | cons x _ ih =>
    intro i a e
    cases i with
    | zero => simp at e; subst e; exact ⟨_, rfl, x⟩
    | succ i => simpa using ih (by simpa using e)
def TableAt (H : Hp) (t : Addr) (items : List Item) : Prop := ∃ vs, H t = some (.tup vs) ∧ All2 (ItemAt H) vs items
theorem TableAt.keep {H H' : Hp} {t : Addr} {items : List Item} (h : TableAt H t items) (s : TupSame H H') : TableAt H' t items := by
  obtain ⟨vs, h1, h2⟩ := h
  exact ⟨vs, s _ _ h1, h2.imp fun _ _ r => r.keep s⟩
/-- a right program's parts -/
structure PSpec where
  rows : Nat
  letters : Nat
  dealing : List Int
  hands : Nat
  depth : Option Nat
  table : List Item
structure PSpec.Ok (s : PSpec) : Prop where
  r1 : 1 ≤ s.rows
  r3 : s.rows ≤ 6
  l1 : 1 ≤ s.letters
  l3 : s.letters ≤ 3
  dl : Dealing s.rows s.dealing s.hands
  dp : ∀ d, s.depth = some d → 1 ≤ d ∧ d ≤ 60
  dn : s.depth = none → s.hands = 1
  tb : 1 ≤ s.table.length ∧ s.table.length ≤ 1000
  it : ∀ i ∈ s.table, ItemOk s.rows s.letters s.hands s.table.length i
def depthV : Option Nat → V
  | some d => natV d
  | none => .non
/-- the five parts in a tuple -/
def SpecAt (H : Hp) (a : Addr) (s : PSpec) : Prop := ∃ d t, H a = some (.tup [natV s.rows, natV s.letters, .ref d, depthV s.depth, .ref t]) ∧ H d = some (.tup (s.dealing.map V.int)) ∧ TableAt H t s.table
theorem SpecAt.keep {H H' : Hp} {a : Addr} {s : PSpec} (h : SpecAt H a s) (e : TupSame H H') : SpecAt H' a s := by
  obtain ⟨d, t, h1, h2, h3⟩ := h
  exact ⟨d, t, e _ _ h1, e _ _ h2, h3.keep e⟩
theorem map_natV (ns : List Nat) : ns.map natV = (ns.map fun n : Nat => (n : Int)).map V.int := by
  rw [List.map_map]; rfl
theorem nat_of {z : Int} (h : 0 ≤ z) : ∃ n : Nat, z = (n : Int) := ⟨z.toNat, by omega⟩
theorem mem_of_perm_pop {α : Type} {xs : List α} {k : Nat} {y : α} (h : xs[k]? = some y) : (y :: xs.eraseIdx k).Perm xs := by
  induction xs generalizing k with
  | nil => simp at h
  | cons a r ih =>
    cases k with
    | zero =>
      have : a = y := by simpa using h
      subst this
      exact List.Perm.refl _
    | succ k =>
      have := ih (by simpa using h)
      exact (List.Perm.swap a y _).trans (List.Perm.cons a this)
theorem pop_at {xs : List V} {i : Int} (h0 : 0 ≤ i) (h1 : i < (xs.length : Int)) : ∃ k y, seqIndex? i xs.length = some k ∧ xs[k]? = some y ∧ k < xs.length := by
  obtain ⟨j, rfl⟩ := nat_of h0
  have hj : j < xs.length := by omega
  refine ⟨j, xs[j], (ixN_seq (j := j) ?_).1, List.getElem?_eq_getElem hj, hj⟩
  unfold ixN
  rw [if_pos (by omega), if_pos (by omega)]
  simp
end L2

set_option maxRecDepth 100000
set_option maxHeartbeats 4000000
namespace L2
open PySem PySem.Spec PyProof.Rows
theorem op_in_seqF {X : Cx} {K : PySem.W.Frag} (hK : X.K = K) : OpR X (compareOp .In) (rIn K false) := by subst hK; exact op_in_seq
theorem maxF {X : Cx} {K : PySem.W.Frag} (hK : X.K = K) (hc : X.calm = true) : CallR X (.builtin "max") (rMax K) := by subst hK; exact cr_max hc
theorem minF {X : Cx} {K : PySem.W.Frag} (hK : X.K = K) (hc : X.calm = true) : CallR X (.builtin "min") (rMin K) := by subst hK; exact cr_min hc
theorem sumF {X : Cx} {K : PySem.W.Frag} (hK : X.K = K) (hc : X.calm = true) : CallR X (.builtin "sum") (rSum K) := by subst hK; exact cr_sum hc
theorem TupSame.putL {H : Hp} {c : Addr} {xs : List V} {o : HO} (h : H c = some (.lst xs)) : TupSame H (upd H c o) := fun a ys ha => by
  rw [upd_ne (fun e => by rw [e, h] at ha; cases ha)]
  exact ha
/-! ### a dealing drawn -/
/-- the values are just those below c -/
def Seg (fs : List Int) (c : Nat) : Prop := (∀ f, f ∈ fs → 0 ≤ f ∧ f < (c : Int)) ∧ ∀ k : Nat, k < c → (k : Int) ∈ fs
theorem Seg.nil : Seg [] 0 := ⟨by simp, by simp⟩
theorem Seg.snoc {fs : List Int} {c : Nat} {r : Int} (h : Seg fs c) (r0 : 0 ≤ r) (r1 : r < (c : Int) + 1) : ∃ c', Seg (fs ++ [r]) c' ∧ c ≤ c' ∧ c' ≤ c + 1 ∧ 0 < c' := by
  obtain ⟨n, rfl⟩ := nat_of r0
  by_cases hn : n < c
  · refine ⟨c, ⟨fun f hf => ?_, fun k hk => List.mem_append_left _ (h.2 k hk)⟩, Nat.le_refl _, by omega, by omega⟩
    rcases List.mem_append.mp hf with hf | hf
    · exact h.1 f hf
    · rw [List.mem_singleton] at hf; subst hf; omega
  · have : n = c := by omega
    subst this
    refine ⟨n + 1, ⟨fun f hf => ?_, fun k hk => ?_⟩, by omega, by omega, by omega⟩
    · rcases List.mem_append.mp hf with hf | hf
      · have := h.1 f hf; omega
      · rw [List.mem_singleton] at hf; subst hf; omega
    · by_cases hk2 : k < n
      · exact List.mem_append_left _ (h.2 k hk2)
      · have : k = n := by omega
        subst this
        exact List.mem_append_right _ (List.mem_singleton.mpr rfl)
theorem Seg.mem {fs : List Int} {c k : Nat} (h : Seg fs c) : ((k : Int) ∈ fs) ↔ k < c := ⟨fun m => by have := h.1 _ m; omega, h.2 k⟩
theorem inV_int {fs : List Int} {i : Int} : inV (.int i) (fs.map V.int) = decide (i ∈ fs) := by
  unfold inV
  induction fs with
  | nil => rfl
  | cons a r ih =>
    rw [List.map_cons, List.any_cons, ih]
    show (a == i || decide (i ∈ r)) = _
    by_cases e : a = i
    · subst e; simp
    · have : (a == i) = false := by simpa using e
      rw [this, Bool.false_or]
      have e2 : i ≠ a := fun h => e h.symm
      simp [e2]
theorem flat_int {fs : List Int} : (fs.map V.int).all flatV = true := by
  rw [List.all_map, List.all_eq_true]; intro x _; rfl
theorem perm_ints {L : List Int} {ys : List V} (h : ys.Perm (L.map V.int)) : ∃ zs : List Int, ys = zs.map V.int ∧ zs.Perm L := by
  let g : V → Int := fun v => match v with | .int i => i | _ => 0
  refine ⟨ys.map g, ?_, ?_⟩
  · rw [List.map_map]
    have : ∀ y, y ∈ ys → (V.int ∘ g) y = y := fun y hy => by
      obtain ⟨i, _, rfl⟩ := List.mem_map.mp (h.mem_iff.mp hy)
      rfl
    rw [List.map_congr_left this, List.map_id']
  · have := h.map g
    rw [List.map_map] at this
    have e : (L.map (g ∘ V.int)) = L := by rw [show (g ∘ V.int) = id from rfl, List.map_id]
    rw [e] at this
    exact this
theorem rgV_nat (n : Nat) : rgV 0 (n : Int) = ((List.range n).map fun i : Nat => (i : Int)).map V.int := by
  unfold rgV
  rw [List.map_map, show ((n : Int) - 0).toNat = n by omega]
  refine List.map_congr_left fun i _ => ?_
  simp
theorem cell_mem {zs : List Int} {j : Nat} (h : j < zs.length) : cellOf zs j ∈ zs ∧ zs[j]? = some (cellOf zs j) := by
  have e : cellOf zs j = zs[j] := by unfold cellOf; simp [h]
  rw [e]
  exact ⟨List.getElem_mem h, List.getElem?_eq_getElem h⟩
theorem dealing_of {rows c : Nat} {fs zs : List Int} (hl : fs.length = rows) (hs : Seg fs c) (h0 : 0 < c) (hc : c ≤ rows) (hp : zs.Perm ((List.range c).map fun i : Nat => (i : Int))) : Dealing rows (fs.map fun f => cellOf zs f.toNat) c := by
  have hz : zs.length = c := by rw [hp.length_eq, List.length_map, List.length_range]
  refine ⟨by rw [List.length_map, hl], h0, hc, fun x hx => ?_, fun k hk => ?_⟩
  · obtain ⟨f, hf, rfl⟩ := List.mem_map.mp hx
    have b := hs.1 f hf
    have m := hp.mem_iff.mp (cell_mem (zs := zs) (j := f.toNat) (by omega)).1
    obtain ⟨n, hn, e⟩ := List.mem_map.mp m
    rw [← e]
    have := List.mem_range.mp hn
    omega
  · have m : (k : Int) ∈ zs := hp.mem_iff.mpr (List.mem_map.mpr ⟨k, List.mem_range.mpr hk, rfl⟩)
    obtain ⟨j, hj, e⟩ := List.getElem_of_mem m
    refine List.mem_map.mpr ⟨(j : Int), hs.2 j (by omega), ?_⟩
    have := (cell_mem hj).2
    rw [List.getElem?_eq_getElem hj, e] at this
    simpa using this.symm
theorem seg_max {fs : List Int} {c : Nat} {m : Int} (h : Seg fs c) (h1 : m ∈ fs) (h2 : ∀ y, y ∈ fs → y ≤ m) : m = (c : Int) - 1 := by
  have a := h.1 m h1
  have b := h2 _ (h.2 (c - 1) (by omega))
  omega
/-! ### contents drawn -/
def ConsAt (H : Hp) (a : Addr) (n : Nat) (hs : List (Str × Str)) : Prop := ∃ vs, H a = some (.tup vs) ∧ All2 (fun v (h : Str × Str) => ConAt H v h.1 h.2 ∧ lettB n h.1 = true ∧ lettB n h.2 = true) vs hs
theorem ConAt.keepT {H H' : Hp} {x : V} {h r : Str} (c : ConAt H x h r) (s : TupSame H H') : ConAt H' x h r := by
  obtain ⟨a, e, ha, rest⟩ := c
  exact ⟨a, e, s _ _ ha, rest⟩
theorem ConsAt.keep {H H' : Hp} {a : Addr} {n : Nat} {hs : List (Str × Str)} (c : ConsAt H a n hs) (s : TupSame H H') : ConsAt H' a n hs := by
  obtain ⟨vs, h1, h2⟩ := c
  exact ⟨vs, s _ _ h1, h2.imp fun _ _ r => ⟨r.1.keepT s, r.2⟩⟩
theorem lettB_up {n m : Int} {z : Str} (h : lettB n z = true) (e : n ≤ m) : lettB m z = true := by
  unfold lettB at h ⊢
  rw [List.all_eq_true] at h ⊢
  intro c hc
  have := h c hc
  simp at this ⊢
  omega
end L2

set_option maxRecDepth 100000
set_option maxHeartbeats 4000000
namespace L2
open PySem PySem.Spec PyProof.Rows
/-! ### things of all kinds that a law makes -/
inductive Th where
  | non | bl (b : Bool) | int (i : Int) | str (z : Str) | tup (xs : List Th) | lst (xs : List Th) | dct
mutual
/-- the thing stands at v; its lists and dicts are neither p nor g, which alone change -/
inductive ThAt (p g : Addr) (H : Hp) : V → Th → Prop where
  | non : ThAt p g H .non .non
  | bl (b : Bool) : ThAt p g H (.bl b) (.bl b)
  | int (i : Int) : ThAt p g H (.int i) (.int i)
  | str {z : Str} (h : z.length ≤ 100000) : ThAt p g H (.str z) (.str z)
  | tup {a : Addr} {vs : List V} {xs : List Th} (h : H a = some (.tup vs)) (n : a ≠ p ∧ a ≠ g) (r : ThAts p g H vs xs) : ThAt p g H (.ref a) (.tup xs)
  | lst {a : Addr} {vs : List V} {xs : List Th} (h : H a = some (.lst vs)) (n : a ≠ p ∧ a ≠ g) (r : ThAts p g H vs xs) : ThAt p g H (.ref a) (.lst xs)
  | dct {a : Addr} (h : H a = some (.dK [])) (n : a ≠ p ∧ a ≠ g) : ThAt p g H (.ref a) .dct
inductive ThAts (p g : Addr) (H : Hp) : List V → List Th → Prop where
  | nil : ThAts p g H [] []
  | cons {v : V} {x : Th} {vs : List V} {xs : List Th} (h : ThAt p g H v x) (r : ThAts p g H vs xs) : ThAts p g H (v :: vs) (x :: xs)
end
section
variable {p g : Addr} {H H' : Hp}
mutual
theorem ThAt.keep {v : V} {x : Th} (h : ThAt p g H v x) (s : Sb p g H H') : ThAt p g H' v x := by
  cases h with
  | non => exact .non
  | bl b => exact .bl b
  | int i => exact .int i
  | str h => exact .str h
  | tup h n r => exact .tup (s _ _ h n.1 n.2) n (r.keep s)
  | lst h n r => exact .lst (s _ _ h n.1 n.2) n (r.keep s)
  | dct h n => exact .dct (s _ _ h n.1 n.2) n
theorem ThAts.keep {vs : List V} {xs : List Th} (h : ThAts p g H vs xs) (s : Sb p g H H') : ThAts p g H' vs xs := by
  cases h with
  | nil => exact .nil
  | cons a r => exact .cons (a.keep s) (r.keep s)
end
theorem ThAts.len {vs : List V} {xs : List Th} (h : ThAts p g H vs xs) : vs.length = xs.length := by
  induction vs generalizing xs with
  | nil => cases h; rfl
  | cons a r ih => cases h with | cons x y => simp [ih y]
theorem ThAts.get {vs : List V} {xs : List Th} (h : ThAts p g H vs xs) : ∀ {i : Nat} {v : V}, vs[i]? = some v → ∃ x, xs[i]? = some x ∧ ThAt p g H v x := by
  induction vs generalizing xs with
  | nil => intro i v e; simp at e
  | cons a r ih =>
    cases h with
    | cons x y =>
      intro i v e
      cases i with
      | zero => simp at e; subst e; exact ⟨_, rfl, x⟩
      | succ i => simpa using ih y (by simpa using e)
theorem ThAts.get2 {vs : List V} {xs : List Th} (h : ThAts p g H vs xs) : ∀ {i : Nat} {x : Th}, xs[i]? = some x → ∃ v, vs[i]? = some v ∧ ThAt p g H v x := by
  induction vs generalizing xs with
  | nil => cases h; intro i x e; simp at e
  | cons a r ih =>
    cases h with
    | cons x y =>
      intro i z e
      cases i with
      | zero => simp at e; subst e; exact ⟨_, rfl, x⟩
      | succ i => simpa using ih y (by simpa using e)
theorem ThAts.app {vs ws : List V} {xs ys : List Th} (h : ThAts p g H vs xs) (k : ThAts p g H ws ys) : ThAts p g H (vs ++ ws) (xs ++ ys) := by
  induction vs generalizing xs with
  | nil => cases h; exact k
  | cons a r ih => cases h with | cons x y => exact .cons x (ih y)
theorem ThAts.take {vs : List V} {xs : List Th} (h : ThAts p g H vs xs) (n : Nat) : ThAts p g H (vs.take n) (xs.take n) := by
  induction vs generalizing xs n with
  | nil => cases h; simp; exact .nil
  | cons a r ih =>
    cases h with
    | cons x y =>
      cases n with
      | zero => simp; exact .nil
      | succ n => simp; exact .cons x (ih y n)
theorem ThAts.drop {vs : List V} {xs : List Th} (h : ThAts p g H vs xs) (n : Nat) : ThAts p g H (vs.drop n) (xs.drop n) := by
  induction vs generalizing xs n with
  | nil => cases h; simp; exact .nil
  | cons a r ih =>
    cases h with
    | cons x y =>
      cases n with
      | zero => exact .cons x y
      | succ n => simp; exact ih y n
end

/-! ### kinds of such things -/
def Th.int? : Th → Option Int
  | .int i => some i
  | _ => none
def Th.str? : Th → Option Str
  | .str z => some z
  | _ => none
def Th.tup? : Th → Option (List Th)
  | .tup xs => some xs
  | _ => none
section
variable {p g : Addr} {H : Hp} {K : PySem.W.Frag} {v : V} {x : Th}
theorem ThAt.isInt (h : ThAt p g H v x) : IntIs K H v x.int? := by
  cases h with
  | non => exact ⟨false, tyis_non, fun h => (by cases h)⟩
  | bl b => exact ⟨true, tyis_bl, fun _ => tyis_bl⟩
  | int i => rfl
  | str h => exact ⟨false, tyis_str, fun h => (by cases h)⟩
  | tup h n r => exact ⟨false, tyis_tup h, fun h => (by cases h)⟩
  | lst h n r => exact ⟨false, tyis_lst h, fun h => (by cases h)⟩
  | dct h n => exact ⟨false, tyis_dK h, fun h => (by cases h)⟩
theorem ThAt.isStr (h : ThAt p g H v x) : StrIs K H v x.str? := by
  cases h with
  | non => exact tyis_non
  | bl b => exact tyis_bl
  | int i => exact tyis_int
  | str h => exact ⟨rfl, Nat.le_trans h (by decide)⟩
  | tup h n r => exact tyis_tup h
  | lst h n r => exact tyis_lst h
  | dct h n => exact tyis_dK h
theorem ThAt.isTup (h : ThAt p g H v x) : ∃ o, TupIs K H v o ∧ match x.tup?, o with
    | some xs, some vs => ThAts p g H vs xs
    | none, none => True
    | _, _ => False := by
  cases h with
  | non => exact ⟨none, tyis_non, trivial⟩
  | bl b => exact ⟨none, tyis_bl, trivial⟩
  | int i => exact ⟨none, tyis_int, trivial⟩
  | str h => exact ⟨none, tyis_str, trivial⟩
  | @tup a vs xs h n r => exact ⟨some vs, ⟨a, rfl, h⟩, r⟩
  | lst h n r => exact ⟨none, tyis_lst h, trivial⟩
  | dct h n => exact ⟨none, tyis_dK h, trivial⟩
theorem ThAt.tupAt {xs : List Th} (h : ThAt p g H v (.tup xs)) : ∃ a vs, v = .ref a ∧ H a = some (.tup vs) ∧ ThAts p g H vs xs := by
  cases h with
  | tup h n r => exact ⟨_, _, rfl, h, r⟩
theorem ThAt.notTup (h : ThAt p g H v x) (n : x.tup? = none) : TyIs K H v "tuple" false := by
  cases h with
  | non => exact tyis_non
  | bl b => exact tyis_bl
  | int i => exact tyis_int
  | str h => exact tyis_str
  | tup h m r => cases n
  | lst h m r => exact tyis_lst h
  | dct h m => exact tyis_dK h
theorem Th.tup_of {x : Th} : (∃ xs, x = .tup xs) ∨ x.tup? = none := by
  cases x with
  | tup xs => exact .inl ⟨xs, rfl⟩
  | _ => exact .inr rfl
end
/-! ### what is right of a program's parts -/
def btwO (lo hi : Int) : Option Int → Bool
  | some i => decide (lo ≤ i) && decide (i ≤ hi)
  | none => false
def btwT (lo hi : Int) (x : Th) : Bool := btwO lo hi x.int?
def wordO : Option Str → Bool
  | some z => decide (1 ≤ z.length ∧ z.length ≤ 8) && lettB 26 z
  | none => false
def nextsT (letters many : Int) (x : Th) : Bool := match x.tup? with
  | some xs => decide ((xs.length : Int) = letters + 1) && xs.all (btwT 0 (many - 1))
  | none => false
def headT (kind : Str) (xs : List Th) : Bool := match xs.head? with
  | some y => decide (y.str? = some kind)
  | none => false
def itemT (kind : Str) (size : Int) (x : Th) : Bool := match x.tup? with
  | some xs => decide ((xs.length : Int) = size) && headT kind xs
  | none => false
def Th.nth (x : Th) (i : Nat) : Th := match x.tup? with
  | some xs => xs.getD i .non
  | none => .non
def numberedT (kind : Str) (below letters many : Int) (x : Th) : Bool := itemT kind 3 x && btwT 0 (below - 1) (x.nth 1) && nextsT letters many (x.nth 2)
def leaveT (hands many : Int) (x : Th) : Bool := itemT "leave" 3 x && btwT 0 (hands - 1) (x.nth 1) && btwT 0 (many - 1) (x.nth 2)
def sayT (many : Int) (x : Th) : Bool := itemT "say" 3 x && wordO (x.nth 1).str? && btwT 0 (many - 1) (x.nth 2)
def stopT (x : Th) : Bool := itemT "stop" 1 x
def okItemT (rows letters hands many : Int) (x : Th) : Bool := numberedT "begin" rows letters many x || numberedT "on" hands letters many x || leaveT hands many x || sayT many x || stopT x
def tableT (rows letters hands : Int) (x : Th) : Bool := match x.tup? with
  | some xs => decide (1 ≤ xs.length ∧ xs.length ≤ 20000) && xs.all (okItemT rows letters hands xs.length)
  | none => false
def depthT (hands : Int) : Th → Bool
  | .non => decide (hands = 1)
  | x => btwT 1 60 x
theorem ThAt.three {p g : Addr} {H : Hp} {v : V} {x : Th} {kind : Str} {n : Nat} (h : ThAt p g H v x) (_ : 0 < 1) (e : itemT kind (n : Int) x = true) : ∃ a vs, v = .ref a ∧ H a = some (.tup vs) ∧ vs.length = n ∧ ∀ i : Nat, i < n → ∃ w, atI vs (i : Int) = some w ∧ ThAt p g H w (x.nth i) := by
  cases h with
  | @tup a vs xs h m r =>
    have e : (decide ((xs.length : Int) = n) && headT kind xs) = true := e
    rw [Bool.and_eq_true] at e
    have el := of_decide_eq_true e.1
    have hl := r.len
    refine ⟨a, vs, rfl, h, by omega, fun i hi => ?_⟩
    have hv : vs[i]? = some (vs[i]'(by omega)) := List.getElem?_eq_getElem _
    obtain ⟨y, hy, hh⟩ := r.get hv
    refine ⟨_, atI_nat hv, ?_⟩
    have : (Th.tup xs).nth i = y := by show xs.getD i .non = y; rw [List.getD_eq_getElem?_getD, hy]; rfl
    rw [this]
    exact hh
  | _ => cases e
theorem all_false {α : Type} {xs : List α} {f : α → Bool} {i : Nat} {x : α} (h : xs[i]? = some x) (n : f x = false) : xs.all f = false := by
  rw [Bool.eq_false_iff]
  intro a
  have := List.all_eq_true.mp a x (List.mem_of_getElem? h)
  rw [n] at this
  cases this
theorem all_of {α : Type} {xs : List α} {f : α → Bool} (h : ∀ i x, i < xs.length → xs[i]? = some x → f x = true) : xs.all f = true := by
  rw [List.all_eq_true]
  intro x hx
  obtain ⟨i, hi, e⟩ := List.getElem_of_mem hx
  exact h i x hi (by rw [List.getElem?_eq_getElem hi, e])
theorem str_letters {z : Str} : decide (V.str (Txt.stripChars z "abcdefghijklmnopqrstuvwxyz") = V.str "") = lettB 26 z := by
  have cut (c : Nat) : ("abcdefghijklmnopqrstuvwxyz" : Str).cps.contains c = decide (97 ≤ c ∧ (c : Int) < 97 + 26) := by
    have e : ("abcdefghijklmnopqrstuvwxyz" : Str) = ⟨#[97, 98, 99, 100, 101, 102, 103, 104, 105, 106, 107, 108, 109, 110, 111, 112, 113, 114, 115, 116, 117, 118, 119, 120, 121, 122]⟩ := by decide +kernel
    rw [e, Bool.eq_iff_iff]
    simp
    omega
  unfold Txt.stripChars lettB
  rw [Bool.eq_iff_iff, decide_eq_true_iff]
  rw [show (V.str (Txt.stripBy ("abcdefghijklmnopqrstuvwxyz" : Str).cps.contains true true z) = V.str "") ↔ Txt.stripBy ("abcdefghijklmnopqrstuvwxyz" : Str).cps.contains true true z = "" from ⟨fun h => V.str.inj h, fun h => by rw [h]⟩]
  rw [strip_empty, List.all_eq_true, List.all_eq_true]
  constructor
  · intro h c hc
    rw [← cut]
    exact h c hc
  · intro h c hc
    rw [cut]
    exact h c hc
end L2

set_option maxRecDepth 100000
set_option maxHeartbeats 4000000
namespace L2
open PySem PySem.Spec PyProof.Rows
/-! ### set(t) of a tuple of ints; its len -/
def Card (S : Int → Bool) (c : Nat) : Prop := ∃ ks : List Int, ks.Nodup ∧ ks.length = c ∧ ∀ k, S k = true ↔ k ∈ ks
section
variable {X : Cx}
def rSetI (K : PySem.W.Frag) (w : World) : List V → Hp → VK → Prop := fun xs H Q => ∃ (a : Addr) (ns : List Int), xs = [.ref a] ∧ SqT K H a (ns.map V.int) ∧ ns.length + 1 < scanBound ∧
  ∀ (p : Addr) (S : Int → Bool) (c : Nat), H p = none → (∀ k, S k = decide (k ∈ ns)) → Card S c → c ≤ ns.length → Q (.ref p) (upd H p (SetO w p S c))
theorem cr_setI (hc : X.calm = true) : CallR X (.type "set") (rSetI X.K X.w) := by
  intro pins s σ H xs us Q I r h
  obtain ⟨l, ns, rfl, hl, hb, q⟩ := h
  rw [Vals.ref1 r]
  obtain ⟨its, rv, pl, hz⟩ := I.tuple hl
  have hn : H s.heap.objs.size = none := I.hok.fresh (Nat.le_refl _)
  refine call_set_tupI (P := X.prog) (w := X.w) ns (I.ok.hd hc) pl (by simpa using ints_of_vals rv) hb fun h' tk c R hcl k => ?_
  refine ⟨.ref s.heap.objs.size, upd H s.heap.objs.size (SetO X.w s.heap.objs.size _ c), I.laid (t' := tk) k (Nat.le_refl _) (setO_new R), rfl, q _ _ c hn (fun _ => rfl) ?_ hcl⟩
  obtain ⟨o, es, ep, t, _, _, _, _, nd, mem, _, _, sz, _⟩ := R
  exact ⟨es.toList.map keyOf, nd, by rw [List.length_map, Array.length_toList, sz], mem⟩
def rLenSet (w : World) : List V → Hp → VK → Prop := fun xs H Q => ∃ (a : Addr) (S : Int → Bool) (n : Nat), xs = [.ref a] ∧ H a = some (SetO w a S n) ∧ Q (.int n) H
theorem cr_lenSet : CallR X (.builtin "len") (rLenSet X.w) := by
  intro pins s σ H xs us Q I r h
  obtain ⟨a, S, n, rfl, ha, q⟩ := h
  have R := setO_get I ha
  rw [Vals.ref1 r]
  obtain ⟨o, es, ep, t, ho, ex, hd, _, _, _, hsz, fits, sz, _⟩ := R
  have hb : scanBound < 2 ^ 63 := by decide
  refine call_len_set ho ex hd fits (by omega) ?_
  rw [sz]
  exact ⟨.int n, H, I.tok _, ⟨_, rfl⟩, q⟩
end
/-! ### a dealing -/
theorem nodup_len : ∀ (xs ys : List Int), xs.Nodup → (∀ k, k ∈ xs → k ∈ ys) → xs.length ≤ ys.length
  | [], _, _, _ => Nat.zero_le _
  | a :: r, ys, nd, s => by
    have ha : a ∈ ys := s a (List.mem_cons_self ..)
    have nd2 := List.nodup_cons.mp nd
    have := nodup_len r (ys.erase a) nd2.2 fun k hk => (List.mem_erase_of_ne (fun e => nd2.1 (by rw [← e]; exact hk))).mpr (s k (List.mem_cons_of_mem _ hk))
    rw [List.length_erase_of_mem ha] at this
    have : 0 < ys.length := List.length_pos_of_mem ha
    rw [List.length_cons]
    omega
def uptoI (n : Nat) : List Int := (List.range n).map fun i : Nat => (i : Int)
theorem mem_uptoI {n : Nat} {k : Int} : k ∈ uptoI n ↔ 0 ≤ k ∧ k < n := by
  unfold uptoI
  rw [List.mem_map]
  constructor
  · rintro ⟨i, hi, rfl⟩
    have := List.mem_range.mp hi
    omega
  · rintro ⟨h0, h1⟩
    exact ⟨k.toNat, List.mem_range.mpr (by omega), by omega⟩
theorem uptoI_len {n : Nat} : (uptoI n).length = n := by unfold uptoI; rw [List.length_map, List.length_range]
theorem uptoI_nodup : ∀ {n : Nat}, (uptoI n).Nodup
  | 0 => List.nodup_nil
  | n + 1 => by
    have e : uptoI (n + 1) = uptoI n ++ [(n : Int)] := by unfold uptoI; rw [List.range_succ, List.map_append]; rfl
    rw [e, List.nodup_append]
    refine ⟨uptoI_nodup, by simp, fun a ha b hb => ?_⟩
    rw [List.mem_singleton] at hb
    have := mem_uptoI.mp ha
    omega
/-- as many as there are numbers from 0 to the greatest: they are just these -/
theorem card_seg {ns : List Int} {m : Int} {S : Int → Bool} {c : Nat} (h0 : ∀ f, f ∈ ns → 0 ≤ f) (hm : m ∈ ns) (hx : ∀ y, y ∈ ns → y ≤ m) (hS : ∀ k, S k = decide (k ∈ ns)) (hc : Card S c) : (c : Int) = m + 1 ↔ ∃ n, Seg ns n := by
  obtain ⟨ks, nd, hl, hk⟩ := hc
  have hk2 : ∀ k, k ∈ ks ↔ k ∈ ns := fun k => by rw [← hk k, hS k, decide_eq_true_iff]
  have m0 := h0 m hm
  constructor
  · intro e
    refine ⟨c, fun f hf => ⟨h0 f hf, by have := hx f hf; omega⟩, fun k hk3 => ?_⟩
    by_cases hin : (k : Int) ∈ ns
    · exact hin
    · have nd2 : ((k : Int) :: ks).Nodup := List.nodup_cons.mpr ⟨fun h => hin ((hk2 _).mp h), nd⟩
      have := nodup_len _ (uptoI c) nd2 fun j hj => by
        rw [mem_uptoI]
        rcases List.mem_cons.mp hj with rfl | hj
        · omega
        · have a := h0 j ((hk2 j).mp hj)
          have b := hx j ((hk2 j).mp hj)
          omega
      rw [uptoI_len, List.length_cons] at this
      omega
  · rintro ⟨n, hr, ha⟩
    have e := seg_max ⟨hr, ha⟩ hm hx
    have l1 := nodup_len ks (uptoI n) nd fun j hj => mem_uptoI.mpr (hr j ((hk2 j).mp hj))
    have l2 := nodup_len (uptoI n) ks uptoI_nodup fun j hj => by
      have := mem_uptoI.mp hj
      have q := ha j.toNat (by omega)
      rw [Int.toNat_of_nonneg this.1] at q
      exact (hk2 j).mpr q
    rw [uptoI_len] at l1 l2
    omega
/-- a dealing of so many rows -/
def DealT (rows : Int) (x : Th) : Prop := ∃ ns : List Int, x = .tup (ns.map .int) ∧ (ns.length : Int) = rows ∧ (∀ f, f ∈ ns → 0 ≤ f ∧ f < rows) ∧ ∃ c, Seg ns c
theorem ints_of_btw {lo hi : Int} : ∀ {xs : List Th}, (∀ j y, j < xs.length → xs[j]? = some y → btwT lo hi y = true) → ∃ ns : List Int, xs = ns.map .int ∧ ∀ f, f ∈ ns → lo ≤ f ∧ f ≤ hi
  | [], _ => ⟨[], rfl, fun f h => (by cases h)⟩
  | x :: r, h => by
    obtain ⟨ns, e, hb⟩ := ints_of_btw (xs := r) fun j y hj hy => h (j + 1) y (by simp; omega) (by simpa using hy)
    have hx := h 0 x (by simp) rfl
    cases x with
    | int i =>
      have hx : (decide (lo ≤ i) && decide (i ≤ hi)) = true := hx
      rw [Bool.and_eq_true] at hx
      refine ⟨i :: ns, by rw [e]; rfl, fun f hf => ?_⟩
      rcases List.mem_cons.mp hf with rfl | hf
      · exact ⟨of_decide_eq_true hx.1, of_decide_eq_true hx.2⟩
      · exact hb f hf
    | _ => cases hx
theorem ThAts.ints {p g : Addr} {H : Hp} : ∀ {vs : List V} {ns : List Int}, ThAts p g H vs (ns.map .int) → vs = ns.map V.int
  | _, [], h => by cases h; rfl
  | _, n :: r, h => by
    cases h with
    | cons a b =>
      cases a
      rw [ThAts.ints b]
      rfl
theorem th_ints {ns ms : List Int} (h : ns.map Th.int = ms.map Th.int) : ns = ms := by
  induction ns generalizing ms with
  | nil => cases ms with | nil => rfl | cons a r => cases h
  | cons a r ih =>
    cases ms with
    | nil => cases h
    | cons b t =>
      rw [List.map_cons, List.map_cons] at h
      injection h with h1 h2
      injection h1 with h1
      rw [h1, ih h2]
/-! ### a comprehension over a text -/
theorem lc_str {z : Str} {g : TG} {tt : TT} {te : TE} {vs : List Nat} {σ : St} {H1 : Hp} {D : Addr} {Qd : Hp → Prop} (Pv : Nat → Hp → Prop) (h0 : Pv 0 (upd H1 D (.lst [])))
    (hs : ∀ i c H, z.cps[i]? = some c → Pv i H → g (.str ⟨#[c]⟩) (wipe σ vs) H fun σ2 H2 => wipe σ2 vs = wipe σ vs ∧ tt σ2 H2 fun b H3 =>
      if b = true then te σ2 H3 fun y H4 => ∃ acc, H4 D = some (.lst acc) ∧ acc.length < sizeLine ∧ Pv (i + 1) (upd H4 D (.lst (acc ++ [y]))) else Pv (i + 1) H3) (hd : ∀ H, Pv z.cps.size H → Qd H) :
    ∃ W : Nat → Nat → Hp → Prop, (∃ m, W 0 m (upd H1 D (.lst []))) ∧ ∀ i m H, W i m H →
      ((Its z).stop i H ∧ Qd H) ∨ ((Its z).go i H ∧ ∃ Nx : Hp → Prop, (∀ H', Nx H' → ∃ m', m' < m ∧ W (i + 1) m' H') ∧ ∀ x H', (Its z).yld i H x H' → g x (wipe σ vs) H' fun σ2 H2 => wipe σ2 vs = wipe σ vs ∧ tt σ2 H2 fun b H3 =>
        if b = true then te σ2 H3 fun y H4 => ∃ acc, H4 D = some (.lst acc) ∧ acc.length < sizeLine ∧ Nx (upd H4 D (.lst (acc ++ [y]))) else Nx H3) := by
  refine ⟨fun i m H => m = z.cps.size - i ∧ i ≤ z.cps.size ∧ Pv i H, ⟨z.cps.size, by simp, Nat.zero_le _, h0⟩, ?_⟩
  rintro i m H ⟨rfl, hi, p⟩
  by_cases hlt : i < z.cps.size
  · refine .inr ⟨hlt, Pv (i + 1), fun H' p' => ⟨z.cps.size - (i + 1), by omega, rfl, hlt, p'⟩, fun x H' y => ?_⟩
    obtain ⟨rfl, c, hc, rfl⟩ := y
    exact hs i c H' hc p
  · have e : i = z.cps.size := by omega
    subst e
    exact .inl ⟨Nat.le_refl _, hd H p⟩
theorem all_id_map {α : Type} {xs : List α} {f : α → Bool} : (xs.map f).all id = xs.all f := by rw [List.all_map]; rfl
/-! ### t == (w,) -/
section
variable {X : Cx} {pins : List (Addr × Obj)} {σ : St} {H : Hp} {s : Shared} {p g : Addr}
theorem str_dec {y z : Str} : (y == z) = decide (some y = some z) := by
  rw [Bool.eq_iff_iff, decide_eq_true_iff, beq_iff_eq]
  exact ⟨fun e => by rw [e], fun e => Option.some.inj e⟩
theorem eqAt_head {A : Around} {v : V} {u : Value} {x : Th} {w : Str} {t : Tok} (I : Inv X pins σ H s) (r : RelV v u) (h : ThAt p g H v x) (nd : x ≠ .dct) (hu : A.units < cLine) : SeqAt.EqAt A s u (.str w t) (decide (x.str? = some w)) := by
  cases h with
  | non => cases r; exact SeqAt.EqAt.none_str w t
  | bl b => cases r; exact SeqAt.EqAt.bool_str b w t
  | int i => obtain ⟨t', rfl⟩ := r; exact SeqAt.EqAt.int_str i t' w t
  | @str z hz =>
    obtain ⟨t', rfl⟩ := r
    have e : decide ((Th.str z).str? = some w) = (z == w) := str_dec.symm
    rw [e]
    exact SeqAt.EqAt.str_str z t' w t
  | @tup a vs xs h n r2 =>
    cases r
    obtain ⟨its, rv, pl, hz⟩ := I.tuple (SqT.of h)
    exact SeqAt.EqAt.tuple_str w t pl hu
  | @lst a vs xs h n r2 =>
    cases r
    obtain ⟨its, rv, pl, hz⟩ := I.list (SqL.of h)
    exact SeqAt.EqAt.list_str w t pl.isList hu
  | dct h n => exact (nd rfl).elim
end
def rEqOne : R2 := fun x y H Q => ∃ (p g a b : Addr) (vs : List V) (x0 : Th) (xs : List Th) (w : Str), x = .ref a ∧ y = .ref b ∧ H a = some (.tup vs) ∧ ThAts p g H vs (x0 :: xs) ∧ x0 ≠ .dct ∧ H b = some (.tup [.str w]) ∧ Q (.bl (decide (x0.str? = some w) && decide (xs.length = 0))) H
theorem op_eqStop {X : Cx} (hu : X.A.units + 64 < cLine) : OpR X (compareOp .Eq) rEqOne := by
  intro pins s σ H x y v u Q I rx ry h
  obtain ⟨p, g, a, b, vs, x0, xs, w, rfl, rfl, ha, r, nd, hb, q⟩ := h
  cases rx
  cases ry
  obtain ⟨its, rv, pl, hz⟩ := I.tuple (SqT.of ha)
  obtain ⟨its2, rv2, pl2, hz2⟩ := I.tuple (SqT.of hb)
  have hu1 : X.A.in1.units < cLine := by
    show X.A.units + 1 < cLine
    omega
  cases r with
  | @cons v0 _ vr _ h0 r0 =>
    have hl := r0.len
    cases rv with
    | @cons _ u0 _ ur ru rur =>
      cases rv2 with
      | @cons _ u1 _ ur1 ru1 rur1 =>
        cases rur1
        obtain ⟨t, rfl⟩ := ru1
        have hlr := rur.length
        refine SeqAt.eq_tupleAt (e := fun _ => decide (x0.str? = some w)) pl pl2 (by omega) (fun j h1 h2 => ?_) ?_
        · have hj : j = 0 := by simp at h2; exact h2
          subst hj
          exact eqAt_head I ru h0 nd hu1
        · have hm : min (u0 :: ur).toArray.size [Value.str w t].toArray.size = 1 := by simp
          rw [hm]
          have e : ((List.range 1).all (fun _ => decide (x0.str? = some w)) && (u0 :: ur).toArray.size == [Value.str w t].toArray.size) = (decide (x0.str? = some w) && decide (xs.length = 0)) := by
            have e1 : (List.range 1).all (fun _ => decide (x0.str? = some w)) = decide (x0.str? = some w) := by simp [List.range_succ]
            rw [e1]
            have e2 : ((u0 :: ur).toArray.size == [Value.str w t].toArray.size) = decide (xs.length = 0) := by
              rw [Bool.eq_iff_iff, decide_eq_true_iff, beq_iff_eq]
              simp
              rw [← List.length_eq_zero_iff, ← List.length_eq_zero_iff]
              omega
            rw [e2]
          rw [e]
          exact ⟨.bl _, H, I, rfl, q⟩
/-! ### a standing is right, by its head -/
def head0 (x : Th) : Prop := match x.tup? with
  | some (y :: _) => y ≠ .dct
  | _ => True
theorem ok_none {R L Hd M : Int} {x : Th} (h : x.tup? = none) : okItemT R L Hd M x = false := by
  unfold okItemT numberedT leaveT sayT stopT itemT
  rw [h]
  rfl
theorem ok_nil {R L Hd M : Int} : okItemT R L Hd M (.tup []) = false := rfl
theorem ok_stop {R L Hd M : Int} {x0 : Th} (h : x0.str? = some "stop") : okItemT R L Hd M (.tup [x0]) = true := by
  have e : stopT (.tup [x0]) = true := by
    show (decide (((1 : Nat) : Int) = 1) && decide (x0.str? = some "stop")) = true
    rw [h]
    rfl
  unfold okItemT
  rw [e, Bool.or_true]
theorem item_len {k : Str} {n : Int} {xs : List Th} (h : (xs.length : Int) ≠ n) : itemT k n (.tup xs) = false := by
  show (decide ((xs.length : Int) = n) && headT k xs) = false
  rw [decide_eq_false h, Bool.false_and]
theorem item_head {k : Str} {n : Int} {x0 : Th} {xs : List Th} (h : x0.str? ≠ some k) : itemT k n (.tup (x0 :: xs)) = false := by
  show (decide _ && decide (x0.str? = some k)) = false
  rw [decide_eq_false h, Bool.and_false]
theorem ok_len {R L Hd M : Int} {x0 : Th} {xs : List Th} (h : ¬ (x0.str? = some "stop" ∧ xs.length = 0)) (l : xs.length ≠ 2) : okItemT R L Hd M (.tup (x0 :: xs)) = false := by
  have e3 : ∀ k, itemT k 3 (.tup (x0 :: xs)) = false := fun k => item_len (by rw [List.length_cons]; omega)
  have e1 : itemT "stop" 1 (.tup (x0 :: xs)) = false := by
    by_cases e : xs.length = 0
    · exact item_head fun z => h ⟨z, e⟩
    · exact item_len (by rw [List.length_cons]; omega)
  unfold okItemT numberedT leaveT sayT stopT
  rw [e3, e3, e3, e3, e1]
  rfl
theorem ok_nostr {R L Hd M : Int} {x0 : Th} {xs : List Th} (h : x0.str? = none) : okItemT R L Hd M (.tup (x0 :: xs)) = false := by
  have e : ∀ k n, itemT k n (.tup (x0 :: xs)) = false := fun k n => item_head (by rw [h]; exact fun z => nomatch z)
  unfold okItemT numberedT leaveT sayT stopT
  rw [e, e, e, e, e]
  rfl
theorem ok_three {R L Hd M : Int} {x0 x1 x2 : Th} {z : Str} (h : x0.str? = some z) : okItemT R L Hd M (.tup [x0, x1, x2]) =
    if z = "begin" then btwT 0 (R - 1) x1 && nextsT L M x2 else if z = "on" then btwT 0 (Hd - 1) x1 && nextsT L M x2 else if z = "leave" then btwT 0 (Hd - 1) x1 && btwT 0 (M - 1) x2 else decide (z = "say") && (wordO x1.str? && btwT 0 (M - 1) x2) := by
  have e : ∀ k, itemT k 3 (.tup [x0, x1, x2]) = decide (z = k) := fun k => by
    show (decide (((3 : Nat) : Int) = 3) && decide (x0.str? = some k)) = _
    rw [h, Bool.eq_iff_iff, decide_eq_true_iff]
    simp
  have e1 : itemT "stop" 1 (.tup [x0, x1, x2]) = false := item_len (by simp)
  unfold okItemT numberedT leaveT sayT stopT
  rw [e, e, e, e, e1]
  show (decide (z = "begin") && btwT 0 (R - 1) x1 && nextsT L M x2 || decide (z = "on") && btwT 0 (Hd - 1) x1 && nextsT L M x2 || decide (z = "leave") && btwT 0 (Hd - 1) x1 && btwT 0 (M - 1) x2 || decide (z = "say") && wordO x1.str? && btwT 0 (M - 1) x2 || false) = _
  have n1 : ("begin" : Str) ≠ "on" := by decide
  have n2 : ("begin" : Str) ≠ "leave" := by decide
  have n3 : ("begin" : Str) ≠ "say" := by decide
  have n4 : ("on" : Str) ≠ "leave" := by decide
  have n5 : ("on" : Str) ≠ "say" := by decide
  have n6 : ("leave" : Str) ≠ "say" := by decide
  by_cases c1 : z = "begin"
  · subst c1
    rw [if_pos rfl, decide_eq_true rfl, decide_eq_false n1, decide_eq_false n2, decide_eq_false n3]
    simp
  rw [if_neg c1, decide_eq_false c1]
  by_cases c2 : z = "on"
  · subst c2
    rw [if_pos rfl, decide_eq_true rfl, decide_eq_false n4, decide_eq_false n5]
    simp
  rw [if_neg c2, decide_eq_false c2]
  by_cases c3 : z = "leave"
  · subst c3
    rw [if_pos rfl, decide_eq_true rfl, decide_eq_false n6]
    simp
  rw [if_neg c3, decide_eq_false c3]
  simp [Bool.and_assoc]
/-! ### two lists of ints, == -/
def rEqLI : R2 := fun x y H Q => ∃ (a b : Addr) (ns ms : List Int), x = .ref a ∧ y = .ref b ∧ H a = some (.lst (ns.map V.int)) ∧ H b = some (.lst (ms.map V.int)) ∧ Q (.bl (decide (ns = ms))) H
theorem all_same {ns ms : List Int} (h : ns.length = ms.length) : ((List.range ns.length).all fun j => decide (ns[j]? = ms[j]?)) = decide (ns = ms) := by
  rw [Bool.eq_iff_iff, List.all_eq_true, decide_eq_true_iff]
  constructor
  · intro a
    apply List.ext_getElem?
    intro j
    by_cases hj : j < ns.length
    · exact of_decide_eq_true (a j (List.mem_range.mpr hj))
    · rw [List.getElem?_eq_none (by omega), List.getElem?_eq_none (by omega)]
  · rintro rfl j _
    exact decide_eq_true rfl
theorem op_eqLI {X : Cx} (hu : X.A.units + 64 < cLine) : OpR X (compareOp .Eq) rEqLI := by
  intro pins s σ H x y v u Q I rx ry h
  obtain ⟨a, b, ns, ms, rfl, rfl, ha, hb, q⟩ := h
  cases rx
  cases ry
  obtain ⟨its, rv, pl, hz⟩ := I.list (SqL.of ha)
  obtain ⟨its2, rv2, pl2, hz2⟩ := I.list (SqL.of hb)
  have i1 := ints_of_vals rv
  have i2 := ints_of_vals rv2
  have l1 : its.length = ns.length := i1.length
  have l2 : its2.length = ms.length := i2.length
  by_cases hl : ns.length = ms.length
  · refine SeqAt.eq_listAt (e := fun j => decide (ns[j]? = ms[j]?)) pl.isList pl2.isList (by rw [List.size_toArray, List.size_toArray]; omega) (by omega) (fun j h1 h2 => ?_) ?_
    · rw [List.size_toArray] at h1 h2
      obtain ⟨t, e1⟩ := i1.get j (ns[j]'(by omega)) (List.getElem?_eq_getElem _)
      obtain ⟨t', e2⟩ := i2.get j (ms[j]'(by omega)) (List.getElem?_eq_getElem _)
      have q1 : its.toArray[j] = .int (ns[j]'(by omega)) t := by
        have := (List.getElem?_eq_some_iff.mp e1).2
        simpa using this
      have q2 : its2.toArray[j] = .int (ms[j]'(by omega)) t' := by
        have := (List.getElem?_eq_some_iff.mp e2).2
        simpa using this
      rw [q1, q2, List.getElem?_eq_getElem (by omega), List.getElem?_eq_getElem (by omega)]
      have e : decide (some (ns[j]'(by omega)) = some (ms[j]'(by omega))) = ((ns[j]'(by omega)) == (ms[j]'(by omega))) := by
        rw [Bool.eq_iff_iff, decide_eq_true_iff, beq_iff_eq]
        exact ⟨fun e => Option.some.inj e, fun e => by rw [e]⟩
      rw [e]
      exact SeqAt.EqAt.int_int _ _ _ _
    · rw [List.size_toArray, l1, all_same hl]
      exact ⟨.bl _, H, I, rfl, q⟩
  · refine SeqAt.eq_list_lengthsAt pl.isList pl2.isList (by rw [List.size_toArray, List.size_toArray, bne_iff_ne]; omega) (by omega) ?_
    rw [decide_eq_false (fun e => hl (by rw [e]))] at q
    exact ⟨.bl false, H, I, rfl, q⟩
/-- a rising list of what a tuple holds is 0, 1, .. to the greatest just where the tuple holds all these -/
theorem sorted_seg {ns ss : List Int} {m : Int} {S : Int → Bool} (h0 : ∀ f, f ∈ ns → 0 ≤ f) (hm : m ∈ ns) (hx : ∀ y, y ∈ ns → y ≤ m) (hS : ∀ k, S k = decide (k ∈ ns)) (hp : ss.Pairwise (· < ·)) (hk : ∀ k : Int, k ∈ ss ↔ S k = true) : ss = uptoI (1 + m).toNat ↔ ∃ n, Seg ns n := by
  have hk2 : ∀ k, k ∈ ss ↔ k ∈ ns := fun k => by rw [hk k, hS k, decide_eq_true_iff]
  have m0 := h0 m hm
  constructor
  · intro e
    refine ⟨(1 + m).toNat, fun f hf => ⟨h0 f hf, by have := hx f hf; omega⟩, fun k hk3 => ?_⟩
    rw [← hk2, e, mem_uptoI]
    omega
  · rintro ⟨n, hr, ha⟩
    have e := seg_max ⟨hr, ha⟩ hm hx
    have en : n = (1 + m).toNat := by omega
    subst en
    have hu : (uptoI (1 + m).toNat).Pairwise (· < ·) := by
      unfold uptoI
      rw [List.pairwise_map]
      exact List.Pairwise.imp (fun h => by omega) List.pairwise_lt_range
    have mem : ∀ k, k ∈ ss ↔ k ∈ uptoI (1 + m).toNat := fun k => by
      rw [hk2, mem_uptoI]
      constructor
      · intro h
        have a := h0 k h
        have b := hx k h
        omega
      · rintro ⟨a, b⟩
        have q := ha k.toNat (by omega)
        rwa [Int.toNat_of_nonneg a] at q
    have lin : ∀ (xs ys : List Int), xs.Pairwise (· < ·) → ys.Pairwise (· < ·) → (∀ k, k ∈ xs ↔ k ∈ ys) → xs = ys := by
      intro xs
      induction xs with
      | nil =>
        intro ys _ _ h
        cases ys with
        | nil => rfl
        | cons b t => exact absurd ((h b).mpr (List.mem_cons_self ..)) (by simp)
      | cons a r ih =>
        intro ys hx hy h
        cases ys with
        | nil => exact absurd ((h a).mp (List.mem_cons_self ..)) (by simp)
        | cons b t =>
          have hx2 := List.pairwise_cons.mp hx
          have hy2 := List.pairwise_cons.mp hy
          have eab : a = b := by
            rcases List.mem_cons.mp ((h a).mp (List.mem_cons_self ..)) with e | e
            · exact e
            · rcases List.mem_cons.mp ((h b).mpr (List.mem_cons_self ..)) with e2 | e2
              · exact e2.symm
              · have := hy2.1 a e
                have := hx2.1 b e2
                omega
          subst eab
          rw [ih t hx2.2 hy2.2 fun k => ?_]
          constructor
          · intro hk
            rcases List.mem_cons.mp ((h k).mp (List.mem_cons_of_mem _ hk)) with e | e
            · have := hx2.1 k hk; omega
            · exact e
          · intro hk
            rcases List.mem_cons.mp ((h k).mpr (List.mem_cons_of_mem _ hk)) with e | e
            · have := hy2.1 k hk; omega
            · exact e
    exact lin _ _ hp hu mem
/-! ### which part of a program is wrong -/
def handsT (d : Th) : Int := match d.tup? with
  | some xs => ((xs.map fun x => x.int?.getD 0).foldl max 0) + 1
  | none => 0
theorem fold_max {m : Int} : ∀ {ns : List Int} {a : Int}, a ≤ m → (∀ y, y ∈ ns → y ≤ m) → (a = m ∨ m ∈ ns) → ns.foldl max a = m
  | [], a, _, _, h => by
    rcases h with h | h
    · exact h
    · cases h
  | b :: r, a, ha, hx, h => by
    rw [List.foldl_cons]
    have hb := hx b (List.mem_cons_self ..)
    refine fold_max (by omega) (fun y hy => hx y (List.mem_cons_of_mem _ hy)) ?_
    rcases h with h | h
    · exact .inl (by omega)
    · rcases List.mem_cons.mp h with h | h
      · exact .inl (by omega)
      · exact .inr h
theorem handsT_of {ns : List Int} {m : Int} (hm : m ∈ ns) (hx : ∀ y, y ∈ ns → y ≤ m) (m0 : 0 ≤ m) : handsT (.tup (ns.map .int)) = m + 1 := by
  show (((ns.map Th.int).map fun x => x.int?.getD 0).foldl max 0) + 1 = m + 1
  have e : ((ns.map Th.int).map fun x => x.int?.getD 0) = ns := by
    rw [List.map_map]
    exact List.map_id'' (fun _ => rfl) ns
  rw [e, fold_max m0 hx (.inr hm)]
open Classical in
noncomputable def wrongT (r l d dp t : Th) : Option Str :=
  if btwT 1 6 r = false then some "rows" else if btwT 1 3 l = false then some "letters" else
  if ¬ DealT (r.int?.getD 0) d then some "dealing" else if depthT (handsT d) dp = false then some "depth" else
  if tableT (r.int?.getD 0) (l.int?.getD 0) (handsT d) t = false then some "table" else none
theorem wrongT_rows {r l d dp t : Th} (h : btwT 1 6 r = false) : wrongT r l d dp t = some ("rows" : Str) := by unfold wrongT; rw [if_pos h]
theorem wrongT_letters {r l d dp t : Th} (h : btwT 1 6 r = true) (h2 : btwT 1 3 l = false) : wrongT r l d dp t = some ("letters" : Str) := by unfold wrongT; rw [if_neg (by rw [h]; decide), if_pos h2]
theorem wrongT_dealing {R L : Int} {d dp t : Th} (h : btwT 1 6 (.int R) = true) (h2 : btwT 1 3 (.int L) = true) (nd : ¬ DealT R d) : wrongT (.int R) (.int L) d dp t = some ("dealing" : Str) := by
  unfold wrongT
  rw [if_neg (by rw [h]; decide), if_neg (by rw [h2]; decide)]
  exact if_pos nd
theorem wrongT_rest {R L c : Int} {d dp t : Th} (h : btwT 1 6 (.int R) = true) (h2 : btwT 1 3 (.int L) = true) (nd : DealT R d) (hc : handsT d = c) : wrongT (.int R) (.int L) d dp t = if depthT c dp = false then some ("depth" : Str) else if tableT R L c t = false then some ("table" : Str) else none := by
  unfold wrongT
  rw [if_neg (by rw [h]; decide), if_neg (by rw [h2]; decide), hc]
  exact if_neg fun z => z nd
def heads0 (t : Th) : Prop := match t.tup? with
  | some xs => ∀ x, x ∈ xs → head0 x
  | none => True
theorem btw_int {lo hi : Int} {x : Th} (h : btwT lo hi x = true) : ∃ i, x = .int i ∧ lo ≤ i ∧ i ≤ hi := by
  cases x with
  | int i =>
    have h : (decide (lo ≤ i) && decide (i ≤ hi)) = true := h
    rw [Bool.and_eq_true] at h
    exact ⟨i, rfl, of_decide_eq_true h.1, of_decide_eq_true h.2⟩
  | _ => cases h
theorem seg_top {ns : List Int} {c : Nat} (h : Seg ns c) (h0 : 0 < ns.length) : 0 < c ∧ ((c : Int) - 1) ∈ ns ∧ ∀ y, y ∈ ns → y ≤ (c : Int) - 1 := by
  cases ns with
  | nil => cases h0
  | cons a r =>
    have := h.1 a (List.mem_cons_self ..)
    have c0 : 0 < c := by omega
    have e : ((c - 1 : Nat) : Int) = (c : Int) - 1 := by omega
    refine ⟨c0, by rw [← e]; exact h.2 (c - 1) (by omega), fun y hy => by have := h.1 y hy; omega⟩
def optV : Option Str → V
  | some s => .str s
  | none => .non
end L2

set_option maxRecDepth 100000
set_option maxHeartbeats 4000000
namespace Dv
open PySem PySem.Spec PyProof.Rows L2
/-! ### values without addresses: tuples are their items, lists and the like are cells of a memory -/
inductive D where
  | non | bl (b : Bool) | int (i : Int) | str (z : Str) | tup (xs : List D) | cell (n : Nat) | scr (ns : List Int) | ty (n : String) | cref (a : Addr)
inductive C where
  | lst (xs : List D) | dK (kvs : List (L2.Key × D)) | ins (c : Addr) (fs : List (Str × D)) | set (ks : List Int)
abbrev Mem := List C
structure Exn where
  c : Addr
  fs : Option (List (Str × D))
/-- the written part, the world; within an except suite: the slot of its name, the exception's address, its dict, what it is -/
structure KW where
  K : PySem.W.Frag
  w : World
  xa : Option (Nat × Addr × Option Addr × Exn) := none
instance : Coe KW PySem.W.Frag := ⟨KW.K⟩
inductive R (α : Type) where
  | ok (a : α) (μ : Mem) | ex (x : Exn) (μ : Mem) | no
def R.bind {α β : Type} (r : R α) (k : α → Mem → R β) : R β := match r with
  | .ok a μ => k a μ
  | .ex x μ => .ex x μ
  | .no => .no
@[simp] theorem bind_ok {α β : Type} {a : α} {μ : Mem} {k : α → Mem → R β} : (R.ok a μ).bind k = k a μ := rfl
@[simp] theorem bind_ex {α β : Type} {x : Exn} {μ : Mem} {k : α → Mem → R β} : (R.ex x μ : R α).bind k = .ex x μ := rfl
@[simp] theorem bind_no {α β : Type} {k : α → Mem → R β} : (R.no : R α).bind k = .no := rfl

/-- a text as it may stand -/
def StrV (z : Str) : Prop := z.length ≤ sizeLine ∧ PyData.canLay0 (.str z) = true
instance (z : Str) : Decidable (StrV z) := by unfold StrV; exact inferInstance
/-- a list that is never written: the script -/
def Fz (K : KW) (H : Hp) (a : Addr) (xs : List V) : Prop := (∃ o, H a = some (.frz o (.lst xs))) ∨
    ∃ (o : Obj) (its : Array Value) (n : Nat), K.K.lookup a = some o ∧ o.cls = .type "list" ∧ o.dict = none ∧ o.data = .seq its n ∧ its.size ≤ sizeLine ∧ Vals xs its.toList
theorem Fz.sq {K : KW} {H : Hp} {a : Addr} {xs : List V} (h : Fz K H a xs) : SqL K H a xs := by
  rcases h with h | h
  · exact .inl (.inr h)
  · exact .inr h
section
variable (K : KW) (ρ : List Addr) (H : Hp)
mutual
inductive RV : V → D → Prop where
  | non : RV .non .non
  | bl (b : Bool) : RV (.bl b) (.bl b)
  | int (i : Int) : RV (.int i) (.int i)
  | str {z : Str} (h : StrV z) : RV (.str z) (.str z)
  | ty (n : String) : RV (.ty n) (.ty n)
  | cref (a : Addr) : RV (.ref a) (.cref a)
  | tup {a : Addr} {vs : List V} {ds : List D} (h : SqT K H a vs) (r : RVs vs ds) : RV (.ref a) (.tup ds)
  | cell {n : Nat} {a : Addr} (h : ρ[n]? = some a) : RV (.ref a) (.cell n)
  | scr {a : Addr} {ns : List Int} (h : Fz K H a (ns.map V.int)) : RV (.ref a) (.scr ns)
inductive RVs : List V → List D → Prop where
  | nil : RVs [] []
  | cons {v : V} {d : D} {vs : List V} {ds : List D} (h : RV v d) (r : RVs vs ds) : RVs (v :: vs) (d :: ds)
end
/-- pairs of a name, or a key, and a value -/
inductive RF {κ : Type} : List (κ × V) → List (κ × D) → Prop where
  | nil : RF [] []
  | cons {k : κ} {v : V} {d : D} {vs : List (κ × V)} {ds : List (κ × D)} (h : RV K ρ H v d) (r : RF vs ds) : RF ((k, v) :: vs) ((k, d) :: ds)
def RC (a : Addr) : C → Prop
  | .lst ds => ∃ vs, H a = some (.lst vs) ∧ RVs K ρ H vs ds
  | .dK kvs => ∃ vs, H a = some (.dK vs) ∧ RF K ρ H vs kvs
  | .ins c fs => ∃ dx vs, H a = some (.ins c dx vs) ∧ RF K ρ H vs fs
  | .set ks => ∃ S, H a = some (SetO K.w a S ks.length) ∧ ks.Nodup ∧ ∀ k, S k = true ↔ k ∈ ks
structure Rep (μ : Mem) : Prop where
  len : ρ.length = μ.length
  nd : ρ.Nodup
  at_ : ∀ (n : Nat) (c : C), μ[n]? = some c → ∃ a, ρ[n]? = some a ∧ RC K ρ H a c
end
structure Ext (K : KW) (ρ : List Addr) (H : Hp) (ρ' : List Addr) (H' : Hp) : Prop where
  pre : ∃ t, ρ' = ρ ++ t
  tup : ∀ a vs, SqT K H a vs → SqT K H' a vs
  fz : ∀ a vs, Fz K H a vs → Fz K H' a vs
  xd : ∀ a vs, H a = some (.xd vs) → H' a = some (.xd vs)
section
variable {K : KW} {ρ ρ' ρ1 : List Addr} {H H' H1 : Hp} {μ : Mem}
theorem Ext.refl : Ext K ρ H ρ H := ⟨⟨[], by simp⟩, fun _ _ h => h, fun _ _ h => h, fun _ _ h => h⟩
theorem Ext.trans (a : Ext K ρ H ρ1 H1) (b : Ext K ρ1 H1 ρ' H') : Ext K ρ H ρ' H' := by
  obtain ⟨s, e1⟩ := a.pre
  obtain ⟨t, e2⟩ := b.pre
  exact ⟨⟨s ++ t, by rw [e2, e1, List.append_assoc]⟩, fun _ _ h => b.tup _ _ (a.tup _ _ h), fun _ _ h => b.fz _ _ (a.fz _ _ h), fun _ _ h => b.xd _ _ (a.xd _ _ h)⟩
theorem Ext.get (e : Ext K ρ H ρ' H') {n : Nat} {a : Addr} (h : ρ[n]? = some a) : ρ'[n]? = some a := by
  obtain ⟨t, rfl⟩ := e.pre
  rw [List.getElem?_append_left (List.getElem?_eq_some_iff.mp h).1]
  exact h
mutual
theorem RV.ext (e : Ext K ρ H ρ' H') {v : V} {d : D} (h : RV K ρ H v d) : RV K ρ' H' v d := by
  cases h with
  | non => exact .non
  | bl b => exact .bl b
  | int i => exact .int i
  | str h => exact .str h
  | tup h r => exact .tup (e.tup _ _ h) (r.ext e)
  | cell h => exact .cell (e.get h)
  | scr h => exact .scr (e.fz _ _ h)
  | ty n => exact .ty n
  | cref a => exact .cref a
theorem RVs.ext (e : Ext K ρ H ρ' H') {vs : List V} {ds : List D} (h : RVs K ρ H vs ds) : RVs K ρ' H' vs ds := by
  cases h with
  | nil => exact .nil
  | cons h r => exact .cons (h.ext e) (r.ext e)
end
theorem RF.ext {κ : Type} (e : Ext K ρ H ρ' H') {vs : List (κ × V)} {ds : List (κ × D)} (h : RF K ρ H vs ds) : RF K ρ' H' vs ds := by
  induction h with
  | nil => exact .nil
  | cons h _ ih => exact .cons (h.ext e) ih
theorem RVs.len {vs : List V} {ds : List D} (h : RVs K ρ H vs ds) : vs.length = ds.length := by
  induction vs generalizing ds with
  | nil => cases h; rfl
  | cons v vs ih => cases h with | cons a r => simp [ih r]
theorem RVs.get {vs : List V} {ds : List D} (h : RVs K ρ H vs ds) : ∀ {i : Nat} {d : D}, ds[i]? = some d → ∃ v, vs[i]? = some v ∧ RV K ρ H v d := by
  induction vs generalizing ds with
  | nil => cases h; intro i d e; simp at e
  | cons v vs ih =>
    cases h with
    | cons a r =>
      intro i d e
      cases i with
      | zero => simp at e; subst e; exact ⟨_, rfl, a⟩
      | succ i => simpa using ih r (by simpa using e)
theorem RVs.get' {vs : List V} {ds : List D} (h : RVs K ρ H vs ds) : ∀ {i : Nat} {v : V}, vs[i]? = some v → ∃ d, ds[i]? = some d ∧ RV K ρ H v d := by
  induction vs generalizing ds with
  | nil => cases h; intro i d e; simp at e
  | cons v vs ih =>
    cases h with
    | cons a r =>
      intro i d e
      cases i with
      | zero => simp at e; subst e; exact ⟨_, rfl, a⟩
      | succ i => simpa using ih r (by simpa using e)
theorem RVs.app {vs ws : List V} {ds es : List D} (h : RVs K ρ H vs ds) (k : RVs K ρ H ws es) : RVs K ρ H (vs ++ ws) (ds ++ es) := by
  induction vs generalizing ds with
  | nil => cases h; exact k
  | cons v vs ih => cases h with | cons a r => exact .cons a (ih r)
theorem RVs.take {vs : List V} {ds : List D} (h : RVs K ρ H vs ds) (n : Nat) : RVs K ρ H (vs.take n) (ds.take n) := by
  induction vs generalizing ds n with
  | nil => cases h; simp; exact .nil
  | cons v vs ih =>
    cases h with
    | cons a r =>
      cases n with
      | zero => simp; exact .nil
      | succ n => simp; exact .cons a (ih r n)
theorem RVs.drop {vs : List V} {ds : List D} (h : RVs K ρ H vs ds) (n : Nat) : RVs K ρ H (vs.drop n) (ds.drop n) := by
  induction vs generalizing ds n with
  | nil => cases h; simp; exact .nil
  | cons v vs ih =>
    cases h with
    | cons a r =>
      cases n with
      | zero => exact .cons a r
      | succ n => simp; exact ih r n
theorem RVs.eraseIdx {vs : List V} {ds : List D} (h : RVs K ρ H vs ds) (n : Nat) : RVs K ρ H (vs.eraseIdx n) (ds.eraseIdx n) := by
  induction vs generalizing ds n with
  | nil => cases h; simp; exact .nil
  | cons v vs ih =>
    cases h with
    | cons a r =>
      cases n with
      | zero => exact r
      | succ n => simp; exact .cons a (ih r n)
theorem RVs.set {vs : List V} {ds : List D} (h : RVs K ρ H vs ds) {v : V} {d : D} (r : RV K ρ H v d) (n : Nat) : RVs K ρ H (vs.set n v) (ds.set n d) := by
  induction vs generalizing ds n with
  | nil => cases h; simp; exact .nil
  | cons v vs ih =>
    cases h with
    | cons a q =>
      cases n with
      | zero => exact .cons r q
      | succ n => simp; exact .cons a (ih q n)
theorem RVs.ints {ns : List Int} : RVs K ρ H (ns.map V.int) (ns.map D.int) := by
  induction ns with
  | nil => exact .nil
  | cons n ns ih => exact .cons (.int n) ih
theorem RVs.intsV {vs : List V} {ns : List Int} (h : RVs K ρ H vs (ns.map D.int)) : vs = ns.map V.int := by
  induction ns generalizing vs with
  | nil => cases h; rfl
  | cons n ns ih => cases h with | cons a r => cases a; rw [ih r]; rfl
theorem RVs.bls {vs : List V} {bs : List Bool} (h : RVs K ρ H vs (bs.map D.bl)) : vs = bs.map V.bl := by
  induction bs generalizing vs with
  | nil => cases h; rfl
  | cons n ns ih => cases h with | cons a r => cases a; rw [ih r]; rfl
theorem RC.ext_same (e : Ext K ρ H ρ' H') {a : Addr} (hs : H' a = H a) {c : C} (h : RC K ρ H a c) : RC K ρ' H' a c := by
  cases c with
  | lst ds => obtain ⟨vs, h1, h2⟩ := h; exact ⟨vs, hs.trans h1, h2.ext e⟩
  | dK kvs => obtain ⟨vs, h1, h2⟩ := h; exact ⟨vs, hs.trans h1, h2.ext e⟩
  | ins c fs => obtain ⟨dx, vs, h1, h2⟩ := h; exact ⟨dx, vs, hs.trans h1, h2.ext e⟩
  | set ks => obtain ⟨S, h1, h2⟩ := h; exact ⟨S, hs.trans h1, h2⟩
theorem RC.there {a : Addr} {c : C} (h : RC K ρ H a c) : H a ≠ none := by
  intro z
  cases c with
  | lst ds => obtain ⟨vs, h1, h2⟩ := h; rw [z] at h1; cases h1
  | dK kvs => obtain ⟨vs, h1, h2⟩ := h; rw [z] at h1; cases h1
  | ins c fs => obtain ⟨dx, vs, h1, h2⟩ := h; rw [z] at h1; cases h1
  | set ks => obtain ⟨S, h1, h2⟩ := h; rw [z] at h1; cases h1
theorem Rep.get (rp : Rep K ρ H μ) {n : Nat} {a : Addr} (h : ρ[n]? = some a) {c : C} (hc : μ[n]? = some c) : RC K ρ H a c := by
  obtain ⟨b, h1, h2⟩ := rp.at_ n c hc
  rw [h] at h1
  cases h1
  exact h2
theorem Rep.there (rp : Rep K ρ H μ) {a : Addr} (h : a ∈ ρ) : H a ≠ none := by
  obtain ⟨n, hn, e⟩ := List.getElem_of_mem h
  have hn2 : n < μ.length := by rw [← rp.len]; exact hn
  obtain ⟨b, h1, h2⟩ := rp.at_ n _ (List.getElem?_eq_getElem hn2)
  rw [List.getElem?_eq_getElem hn, e] at h1
  cases h1
  exact h2.there
/-- what is written there may be written over -/
def Wr (o : Option HO) : Prop := (∀ xs, o ≠ some (.tup xs) ∧ ∀ f u, o ≠ some (.frz f u)) ∧ ∀ ys, o ≠ some (.xd ys)
theorem ext_upd (ρ : List Addr) {p : Addr} {o : HO} (w : Wr (H p)) : Ext K ρ H ρ (upd H p o) := by
  refine ⟨⟨[], by simp⟩, fun a vs h => ?_, fun a vs h => ?_, fun a vs h => ?_⟩
  · rcases h with (h | ⟨f, h⟩) | h
    · refine .inl (.inl ?_)
      rw [upd_ne]
      · exact h
      · rintro rfl; exact (w.1 vs).1 h
    · refine .inl (.inr ⟨f, ?_⟩)
      rw [upd_ne]
      · exact h
      · rintro rfl; exact (w.1 vs).2 _ _ h
    · exact .inr h
  · rcases h with ⟨f, h⟩ | h
    · refine .inl ⟨f, ?_⟩
      rw [upd_ne]
      · exact h
      · rintro rfl; exact (w.1 vs).2 _ _ h
    · exact .inr h
  · rw [upd_ne]
    · exact h
    · rintro rfl; exact w.2 vs h
theorem Wr.none {o : Option HO} (h : o = Option.none) : Wr o := ⟨fun xs => by subst h; exact ⟨fun z => (by cases z), fun _ _ z => by cases z⟩, fun ys => by subst h; exact fun z => by cases z⟩
theorem Wr.lst {o : Option HO} {ys : List V} (h : o = some (.lst ys)) : Wr o := ⟨fun xs => by subst h; exact ⟨fun z => (by cases z), fun _ _ z => by cases z⟩, fun ys => by subst h; exact fun z => by cases z⟩
theorem Wr.dK {o : Option HO} {ys : List (L2.Key × V)} (h : o = some (.dK ys)) : Wr o := ⟨fun xs => by subst h; exact ⟨fun z => (by cases z), fun _ _ z => by cases z⟩, fun ys => by subst h; exact fun z => by cases z⟩
theorem Wr.ins {o : Option HO} {c dx : Addr} {ys : List (Str × V)} (h : o = some (.ins c dx ys)) : Wr o := ⟨fun xs => by subst h; exact ⟨fun z => (by cases z), fun _ _ z => by cases z⟩, fun ys => by subst h; exact fun z => by cases z⟩
/-- a new object that is no cell (a tuple) -/
theorem Rep.side (rp : Rep K ρ H μ) {p : Addr} {o : HO} (hp : H p = none) : Rep K ρ (upd H p o) μ :=
  ⟨rp.len, rp.nd, fun n c h => by
    obtain ⟨a, h1, h2⟩ := rp.at_ n c h
    refine ⟨a, h1, h2.ext_same (ext_upd ρ (Wr.none hp)) (upd_ne ?_)⟩
    rintro rfl
    exact h2.there hp⟩
/-- a new cell -/
theorem Rep.new (rp : Rep K ρ H μ) {p : Addr} {o : HO} (hp : H p = none) {c : C} (hc : RC K (ρ ++ [p]) (upd H p o) p c) : Rep K (ρ ++ [p]) (upd H p o) (μ ++ [c]) := by
  have e : Ext K ρ H (ρ ++ [p]) (upd H p o) := by
    have e0 := ext_upd (K := K) ρ (o := o) (Wr.none hp)
    exact ⟨⟨[p], rfl⟩, e0.tup, e0.fz, e0.xd⟩
  refine ⟨by simp [rp.len], ?_, fun n c' h => ?_⟩
  · rw [List.nodup_append]
    refine ⟨rp.nd, by simp, fun a ha b hb => ?_⟩
    simp at hb
    subst hb
    rintro rfl
    exact rp.there ha hp
  · by_cases hn : n < μ.length
    · rw [List.getElem?_append_left hn] at h
      obtain ⟨a, h1, h2⟩ := rp.at_ n c' h
      refine ⟨a, e.get h1, h2.ext_same e (upd_ne ?_)⟩
      rintro rfl
      exact h2.there hp
    · have hl : n = μ.length := by
        have := (List.getElem?_eq_some_iff.mp h).1
        simp at this
        omega
      subst hl
      simp at h
      subst h
      exact ⟨p, by rw [← rp.len]; simp, hc⟩
theorem ext_new (ρ : List Addr) {p : Addr} {o : HO} (hp : H p = none) : Ext K ρ H (ρ ++ [p]) (upd H p o) := by
  have e0 := ext_upd (K := K) ρ (o := o) (Wr.none hp)
  exact ⟨⟨[p], rfl⟩, e0.tup, e0.fz, e0.xd⟩
/-- a cell is written -/
theorem Rep.write (rp : Rep K ρ H μ) {n : Nat} {a : Addr} {o : HO} (h : ρ[n]? = some a) (w : Wr (H a)) {c : C} (hc : RC K ρ (upd H a o) a c) : Rep K ρ (upd H a o) (μ.set n c) := by
  refine ⟨by simp [rp.len], rp.nd, fun m c' hm => ?_⟩
  rw [List.getElem?_set] at hm
  by_cases e : n = m
  · subst e
    rw [if_pos rfl] at hm
    split at hm
    · cases hm
      exact ⟨a, h, hc⟩
    · cases hm
  · rw [if_neg e] at hm
    obtain ⟨b, h1, h2⟩ := rp.at_ m c' hm
    refine ⟨b, h1, h2.ext_same (ext_upd ρ w) (upd_ne ?_)⟩
    rintro rfl
    have i1 := List.getElem?_eq_some_iff.mp h
    have i2 := List.getElem?_eq_some_iff.mp h1
    exact e ((List.getElem_inj rp.nd).mp (i1.2.trans i2.2.symm))
end

/-! ### what is wanted of an outcome -/
/-- an exception's class and its dict, where it has one -/
def RX (K : KW) (ρ : List Addr) (H : Hp) (c : Value) (d : Option Addr) (x : Exn) : Prop := c = .ref x.c ∧ match x.fs with
  | none => d = none
  | some fs => ∃ dx vs, d = some dx ∧ H dx = some (.xd vs) ∧ RF K ρ H vs fs
theorem RF.ext' {κ : Type} {K : KW} {ρ ρ' : List Addr} {H H' : Hp} (e : Ext K ρ H ρ' H') {vs : List (κ × V)} {ds : List (κ × D)} (h : RF K ρ H vs ds) : RF K ρ' H' vs ds := h.ext e
theorem RX.ext {K : KW} {ρ ρ' : List Addr} {H H' : Hp} {c : Value} {d : Option Addr} {x : Exn} (e : Ext K ρ H ρ' H') (h : RX K ρ H c d x) : RX K ρ' H' c d x := by
  refine ⟨h.1, ?_⟩
  have h2 := h.2
  cases hx : x.fs with
  | none => rw [hx] at h2; exact h2
  | some fs =>
    rw [hx] at h2
    obtain ⟨dx, vs, a, b, r⟩ := h2
    exact ⟨dx, vs, a, e.xd _ _ b, r.ext e⟩
/-- of an outcome, R telling how values are held -/
def Pa {α β : Type} (K : KW) (rel : List Addr → Hp → β → α → Prop) (r : R α) (ρ : List Addr) (H : Hp) (Q : β → Hp → Prop) (E : XK) : Prop := match r with
  | .ok d μ => ∀ ρ' H' v, Ext K ρ H ρ' H' → Rep K ρ' H' μ → rel ρ' H' v d → Q v H'
  | .ex x μ => ∀ ρ' H' c d, Ext K ρ H ρ' H' → Rep K ρ' H' μ → RX K ρ' H' c d x → E c d H'
  | .no => False
abbrev Pd (K : KW) (r : R D) (ρ : List Addr) (H : Hp) (Q : VK) (E : XK) : Prop := Pa K (RV K) r ρ H Q E
abbrev Pds (K : KW) (r : R (List D)) (ρ : List Addr) (H : Hp) (Q : List V → Hp → Prop) (E : XK) : Prop := Pa K (RVs K) r ρ H Q E
abbrev Pb (K : KW) (r : R Bool) (ρ : List Addr) (H : Hp) (Q : Bool → Hp → Prop) (E : XK) : Prop := Pa K (fun _ _ (v : Bool) (d : Bool) => v = d) r ρ H Q E
section
variable {K : KW} {ρ ρ' : List Addr} {H H' : Hp} {α β : Type} {rel : List Addr → Hp → β → α → Prop} {E : XK}
theorem Pa.mono {r : R α} {Q : β → Hp → Prop} (e : Ext K ρ H ρ' H') (h : Pa K rel r ρ H Q E) : Pa K rel r ρ' H' Q E := by
  cases r with
  | ok d μ => exact fun ρ1 H1 v e1 => h ρ1 H1 v (e.trans e1)
  | ex x μ => exact fun ρ1 H1 c d e1 => h ρ1 H1 c d (e.trans e1)
  | no => exact h
theorem Pa.imp {r : R α} {Q Q' : β → Hp → Prop} {E' : XK} (h : Pa K rel r ρ H Q E) (i : ∀ v H', Q v H' → Q' v H') (j : ∀ c d H', E c d H' → E' c d H') : Pa K rel r ρ H Q' E' := by
  cases r with
  | ok d μ => exact fun ρ1 H1 v e1 r1 r2 => i _ _ (h ρ1 H1 v e1 r1 r2)
  | ex x μ => exact fun ρ1 H1 c d e1 r1 r2 => j _ _ _ (h ρ1 H1 c d e1 r1 r2)
  | no => exact h
/-- one outcome behind another -/
theorem Pa.bind {γ δ : Type} {rel2 : List Addr → Hp → δ → γ → Prop} {r : R α} {k : α → Mem → R γ} {Q : δ → Hp → Prop} (h : Pa K rel2 (r.bind k) ρ H Q E) :
    Pa K rel r ρ H (fun v H1 => ∃ ρ1 d μ, Ext K ρ H ρ1 H1 ∧ Rep K ρ1 H1 μ ∧ rel ρ1 H1 v d ∧ Pa K rel2 (k d μ) ρ1 H1 Q E) E := by
  cases r with
  | ok d μ => exact fun ρ1 H1 v e1 r1 r2 => ⟨ρ1, d, μ, e1, r1, r2, Pa.mono e1 h⟩
  | ex x μ => exact h
  | no => exact h
end
end Dv

set_option maxRecDepth 100000
set_option maxHeartbeats 4000000
namespace Dv
open PySem PySem.Spec PyProof.Rows L2
/-! ### expressions as functions of slots and memory -/
abbrev Env := List (Option D)
abbrev F := Env → Mem → R D
abbrev FA := Env → Mem → R (List D)
abbrev FB := Env → Mem → R Bool
abbrev FO := Env → Mem → R (Option Int)
structure EnvR (K : KW) (ρ : List Addr) (H : Hp) (σ : L2.St) (env : Env) : Prop where
  len : env.length = σ.length
  at_ : ∀ (i : Nat) (d : D), env[i]? = some (some d) → ∃ v, σ[i]? = some (some v) ∧ RV K ρ H v d
/-- the exception that is handled -/
def XaOk (K : KW) (ρ : List Addr) (H : Hp) (σ : L2.St) : Prop := ∀ i a d x, K.xa = some (i, a, d, x) → σ[i]? = some (some (.ref a)) ∧ RX K ρ H (.ref x.c) d x
structure At (K : KW) (ρ : List Addr) (H : Hp) (μ : Mem) (σ : L2.St) (env : Env) : Prop where
  rp : Rep K ρ H μ
  en : EnvR K ρ H σ env
  xa : XaOk K ρ H σ
/-- a slot that is not the handled exception's -/
def Fr (K : KW) (i : Nat) : Prop := ∀ a d x, K.xa ≠ some (i, a, d, x)
theorem XaOk.set {K : KW} {ρ : List Addr} {H : Hp} {σ : L2.St} (h : XaOk K ρ H σ) {i : Nat} (hf : Fr K i) (v : Option V) : XaOk K ρ H (σ.set i v) := fun j a d x e => by
  obtain ⟨h1, h2⟩ := h j a d x e
  refine ⟨?_, h2⟩
  rw [List.getElem?_set_ne]
  · exact h1
  · rintro rfl; exact hf _ _ _ e
theorem XaOk.ext {K : KW} {ρ ρ' : List Addr} {H H' : Hp} {σ : L2.St} (e : Ext K ρ H ρ' H') (h : XaOk K ρ H σ) : XaOk K ρ' H' σ := fun j a d x q => ⟨(h j a d x q).1, (h j a d x q).2.ext e⟩
section
variable {K : KW} {ρ ρ' : List Addr} {H H' : Hp} {μ μ' : Mem} {σ : L2.St} {env : Env}
theorem EnvR.ext (e : Ext K ρ H ρ' H') (h : EnvR K ρ H σ env) : EnvR K ρ' H' σ env :=
  ⟨h.len, fun i d q => let ⟨v, a, b⟩ := h.at_ i d q; ⟨v, a, b.ext e⟩⟩
theorem EnvR.set (h : EnvR K ρ H σ env) {v : V} {d : D} (r : RV K ρ H v d) (i : Nat) : EnvR K ρ H (σ.set i (some v)) (env.set i (some d)) := by
  refine ⟨by simp [h.len], fun j e q => ?_⟩
  rw [List.getElem?_set] at q
  by_cases z : i = j
  · subst z
    rw [if_pos rfl] at q
    split at q
    · cases q
      exact ⟨v, by rw [List.getElem?_set_self (by rw [← h.len]; assumption)], r⟩
    · cases q
  · rw [if_neg z] at q
    obtain ⟨w, a, b⟩ := h.at_ j e q
    exact ⟨w, by rw [List.getElem?_set_ne z]; exact a, b⟩
theorem At.ext (a : At K ρ H μ σ env) (e : Ext K ρ H ρ' H') (r : Rep K ρ' H' μ') : At K ρ' H' μ' σ env := ⟨r, a.en.ext e, a.xa.ext e⟩
end
def TEf (K : KW) (W : WX) (te : TE) (f : F) : Prop := ∀ (σ : L2.St) (H : Hp) (Q : VK) (env : Env) (μ : Mem) (ρ : List Addr), At K ρ H μ σ env → Pd K (f env μ) ρ H Q (fun c d H' => W c d σ H') → te σ H Q
def TAf (K : KW) (W : WX) (ta : TA) (f : FA) : Prop := ∀ (σ : L2.St) (H : Hp) (Q : List V → Hp → Prop) (env : Env) (μ : Mem) (ρ : List Addr), At K ρ H μ σ env → Pds K (f env μ) ρ H Q (fun c d H' => W c d σ H') → ta σ H Q
def TBf (K : KW) (W : WX) (tt : TT) (f : FB) : Prop := ∀ (σ : L2.St) (H : Hp) (Q : Bool → Hp → Prop) (env : Env) (μ : Mem) (ρ : List Addr), At K ρ H μ σ env → Pb K (f env μ) ρ H Q (fun c d H' => W c d σ H') → tt σ H Q
def TOf (K : KW) (W : WX) (to : TO) (f : FO) : Prop := ∀ (σ : L2.St) (H : Hp) (Q : Option Int → Hp → Prop) (env : Env) (μ : Mem) (ρ : List Addr), At K ρ H μ σ env → Pa K (fun _ _ (v : Option Int) (d : Option Int) => v = d) (f env μ) ρ H Q (fun c d H' => W c d σ H') → to σ H Q
/-- rules on values -/
def R2f (K : KW) (r : R2) (g : D → D → Mem → R D) : Prop := ∀ (x y : V) (a b : D) (μ : Mem) (ρ : List Addr) (H : Hp) (Q : VK) (E : XK), Rep K ρ H μ → RV K ρ H x a → RV K ρ H y b → Pd K (g a b μ) ρ H Q E → r x y H Q
def R1f (K : KW) (r : V → Hp → VK → Prop) (g : D → Mem → R D) : Prop := ∀ (x : V) (a : D) (μ : Mem) (ρ : List Addr) (H : Hp) (Q : VK) (E : XK), Rep K ρ H μ → RV K ρ H x a → Pd K (g a μ) ρ H Q E → r x H Q
def RLf (K : KW) (r : List V → Hp → VK → Prop) (g : List D → Mem → R D) : Prop := ∀ (xs : List V) (ds : List D) (μ : Mem) (ρ : List Addr) (H : Hp) (Q : VK) (E : XK), Rep K ρ H μ → RVs K ρ H xs ds → Pd K (g ds μ) ρ H Q E → r xs H Q
def RMf (K : KW) (T : String) (r : V → List V → Hp → VK → Prop) (g : D → List D → Mem → R D) : Prop := ∀ (x : V) (a : D) (xs : List V) (ds : List D) (μ : Mem) (ρ : List Addr) (H : Hp) (Q : VK) (E : XK), Rep K ρ H μ → RV K ρ H x a → RVs K ρ H xs ds → Pd K (g a ds μ) ρ H Q E → r x xs H Q
def RSf (K : KW) (r : V → Option Int → Option Int → Hp → VK → Prop) (g : D → Option Int → Option Int → Mem → R D) : Prop := ∀ (x : V) (a : D) (lo hi : Option Int) (μ : Mem) (ρ : List Addr) (H : Hp) (Q : VK) (E : XK), Rep K ρ H μ → RV K ρ H x a → Pd K (g a lo hi μ) ρ H Q E → r x lo hi H Q
/-- what a callee does: its promise by its function -/
def spD (K : KW) (n : Nat) (g : List D → Mem → R D) : Sp := fun vs H Q E => ∃ (ρ : List Addr) (μ : Mem) (ds : List D), Rep K ρ H μ ∧ RVs K ρ H vs ds ∧ ds.length = n ∧ Pd K (g ds μ) ρ H Q E

def fVar (i : Nat) : F := fun env μ => match env[i]? with
  | some (some d) => .ok d μ
  | _ => .no
def fCon (d : D) : F := fun _ μ => .ok d μ
def fOp (g : D → D → Mem → R D) (f1 f2 : F) : F := fun env μ => (f1 env μ).bind fun x μ1 => (f2 env μ1).bind fun y μ2 => g x y μ2
def fUn (g : D → Mem → R D) (f1 : F) : F := fun env μ => (f1 env μ).bind fun x μ1 => g x μ1
def fChain (g h : D → D → Mem → R D) (f1 f2 f3 : F) : F := fun env μ => (f1 env μ).bind fun x μ1 => (f2 env μ1).bind fun y μ2 => (g x y μ2).bind fun z μ3 => match z with
  | .bl b => if b = true then (f3 env μ3).bind fun w μ4 => h y w μ4 else .ok (.bl false) μ3
  | _ => .no
def fAnd (f1 f2 : F) : F := fun env μ => (f1 env μ).bind fun x μ1 => match x with
  | .bl b => if b = true then f2 env μ1 else .ok (.bl false) μ1
  | _ => .no
def fOr (f1 f2 : F) : F := fun env μ => (f1 env μ).bind fun x μ1 => match x with
  | .bl b => if b = true then .ok (.bl true) μ1 else f2 env μ1
  | _ => .no
def fNot (f1 : F) : F := fun env μ => (f1 env μ).bind fun x μ1 => match x with
  | .bl b => .ok (.bl (!b)) μ1
  | _ => .no
def fIf (c : FB) (f1 f2 : F) : F := fun env μ => (c env μ).bind fun b μ1 => if b = true then f1 env μ1 else f2 env μ1
def bTest (f1 : F) : FB := fun env μ => (f1 env μ).bind fun x μ1 => match x with
  | .bl b => .ok b μ1
  | _ => .no
def bAnd (c1 c2 : FB) : FB := fun env μ => (c1 env μ).bind fun b μ1 => if b = true then c2 env μ1 else .ok false μ1
def bOr (c1 c2 : FB) : FB := fun env μ => (c1 env μ).bind fun b μ1 => if b = true then .ok true μ1 else c2 env μ1
def bNot (c1 : FB) : FB := fun env μ => (c1 env μ).bind fun b μ1 => .ok (!b) μ1
def truD : D → Mem → R Bool
  | .non, μ => .ok false μ
  | .bl b, μ => .ok b μ
  | .int i, μ => .ok (i != 0) μ
  | .str z, μ => .ok ((z.length : Int) != 0) μ
  | .tup xs, μ => .ok (!xs.isEmpty) μ
  | .cell n, μ => match μ[n]? with
    | some (.lst xs) => .ok (!xs.isEmpty) μ
    | some (.dK kvs) => .ok (!kvs.isEmpty) μ
    | _ => .no
  | .scr ns, μ => .ok (!ns.isEmpty) μ
  | .ty _, _ => .no
  | .cref _, _ => .no
def bTru (f1 : F) : FB := fun env μ => (f1 env μ).bind truD
def aNil : FA := fun _ μ => .ok [] μ
def aCons (f : F) (fs : FA) : FA := fun env μ => (f env μ).bind fun x μ1 => (fs env μ1).bind fun xs μ2 => .ok (x :: xs) μ2
def fTup (fs : FA) : F := fun env μ => (fs env μ).bind fun xs μ1 => if xs.length ≤ sizeLine then .ok (.tup xs) μ1 else .no
def fLst (fs : FA) : F := fun env μ => (fs env μ).bind fun xs μ1 => if xs.length ≤ sizeLine then .ok (.cell μ1.length) (μ1 ++ [.lst xs]) else .no
def fDct : F := fun _ μ => .ok (.cell μ.length) (μ ++ [.dK []])
def fB (g : List D → Mem → R D) (fs : FA) : F := fun env μ => (fs env μ).bind g
def fM (g : D → List D → Mem → R D) (fo : F) (fs : FA) : F := fun env μ => (fo env μ).bind fun x μ1 => (fs env μ1).bind fun xs μ2 => g x xs μ2
def fSl (g : D → Option Int → Option Int → Mem → R D) (f : F) (lo hi : FO) : F := fun env μ => (f env μ).bind fun x μ1 => (lo env μ1).bind fun l μ2 => (hi env μ2).bind fun h μ3 => g x l h μ3
def oNo : FO := fun _ μ => .ok none μ
def oAt (f : F) : FO := fun env μ => (f env μ).bind fun x μ1 => match x with
  | .int i => .ok (some i) μ1
  | _ => .no
/-- a call that may raise; one that must not -/
def fCall (g : List D → Mem → R D) (fs : FA) : F := fun env μ => (fs env μ).bind g
def noEx {α : Type} : R α → R α
  | .ok a μ => .ok a μ
  | _ => .no
@[simp] theorem noEx_ok {α : Type} {a : α} {μ : Mem} : noEx (R.ok a μ) = .ok a μ := rfl
def fCall0 (g : List D → Mem → R D) (fs : FA) : F := fun env μ => (fs env μ).bind fun ds μ1 => noEx (g ds μ1)
/-- e.f -/
def fldD (f : Str) : D → Mem → R D
  | .cell n, μ => match μ[n]? with
    | some (.ins _ fs) => match fs.lookup f with
      | some d => .ok d μ
      | none => .no
    | _ => .no
  | _, _ => .no

section
variable {K : KW} {W : WX}
theorem Pa.ok {α β : Type} {rel : List Addr → Hp → β → α → Prop} {d : α} {μ : Mem} {ρ : List Addr} {H : Hp} {Q : β → Hp → Prop} {E : XK} {v : β} (h : Pa K rel (.ok d μ) ρ H Q E) (rp : Rep K ρ H μ) (r : rel ρ H v d) : Q v H := h ρ H v Ext.refl rp r
theorem tef_var {i : Nat} : TEf K W (tVar i) (fVar i) := by
  intro σ H Q env μ ρ at_ h
  unfold fVar at h
  split at h
  · rename_i d e
    obtain ⟨v, h1, h2⟩ := at_.en.at_ _ _ e
    exact ⟨v, h1, h.ok at_.rp h2⟩
  · exact h.elim
theorem tef_con {v : V} {d : D} (r : ∀ ρ H, RV K ρ H v d) : TEf K W (tC v) (fCon d) := fun σ H Q env μ ρ at_ h => Pa.ok (rel := RV K) h at_.rp (r _ _)
theorem tef_int {i : Int} : TEf K W (tC (.int i)) (fCon (.int i)) := tef_con fun _ _ => .int i
theorem tef_bl {b : Bool} : TEf K W (tC (.bl b)) (fCon (.bl b)) := tef_con fun _ _ => .bl b
theorem tef_non : TEf K W (tC .non) (fCon .non) := tef_con fun _ _ => .non
theorem tef_str {z : Str} (h : StrV z := by decide +kernel) : TEf K W (tC (.str z)) (fCon (.str z)) := tef_con fun _ _ => .str h
section
variable {ta tb tc : TE} {fa fb fc : F}
/-- the way through one part -/
theorem TEf.go {γ δ : Type} {rel2 : List Addr → Hp → δ → γ → Prop} (ha : TEf K W ta fa) {σ : L2.St} {H : Hp} {env : Env} {μ : Mem} {ρ : List Addr} (at_ : At K ρ H μ σ env) {k : D → Mem → R γ} {Q : δ → Hp → Prop} {Q' : VK} (h : Pa K rel2 ((fa env μ).bind k) ρ H Q (fun c d H' => W c d σ H'))
    (next : ∀ ρ1 H1 v d μ1, Ext K ρ H ρ1 H1 → At K ρ1 H1 μ1 σ env → RV K ρ1 H1 v d → Pa K rel2 (k d μ1) ρ1 H1 Q (fun c d H' => W c d σ H') → Q' v H1) : ta σ H Q' := by
  refine ha σ H _ env μ ρ at_ (Pa.imp (Pa.bind h) ?_ fun _ _ _ z => z)
  rintro v H1 ⟨ρ1, d, μ1, e1, r1, rv, h1⟩
  exact next ρ1 H1 v d μ1 e1 (at_.ext e1 r1) rv h1
theorem TAf.go {γ δ : Type} {rel2 : List Addr → Hp → δ → γ → Prop} {ta : TA} {fa : FA} (ha : TAf K W ta fa) {σ : L2.St} {H : Hp} {env : Env} {μ : Mem} {ρ : List Addr} (at_ : At K ρ H μ σ env) {k : List D → Mem → R γ} {Q : δ → Hp → Prop} {Q' : List V → Hp → Prop} (h : Pa K rel2 ((fa env μ).bind k) ρ H Q (fun c d H' => W c d σ H'))
    (next : ∀ ρ1 H1 v d μ1, Ext K ρ H ρ1 H1 → At K ρ1 H1 μ1 σ env → RVs K ρ1 H1 v d → Pa K rel2 (k d μ1) ρ1 H1 Q (fun c d H' => W c d σ H') → Q' v H1) : ta σ H Q' := by
  refine ha σ H _ env μ ρ at_ (Pa.imp (Pa.bind h) ?_ fun _ _ _ z => z)
  rintro v H1 ⟨ρ1, d, μ1, e1, r1, rv, h1⟩
  exact next ρ1 H1 v d μ1 e1 (at_.ext e1 r1) rv h1
theorem TBf.go {γ δ : Type} {rel2 : List Addr → Hp → δ → γ → Prop} {ta : TT} {fa : FB} (ha : TBf K W ta fa) {σ : L2.St} {H : Hp} {env : Env} {μ : Mem} {ρ : List Addr} (at_ : At K ρ H μ σ env) {k : Bool → Mem → R γ} {Q : δ → Hp → Prop} {Q' : Bool → Hp → Prop} (h : Pa K rel2 ((fa env μ).bind k) ρ H Q (fun c d H' => W c d σ H'))
    (next : ∀ ρ1 H1 v μ1, Ext K ρ H ρ1 H1 → At K ρ1 H1 μ1 σ env → Pa K rel2 (k v μ1) ρ1 H1 Q (fun c d H' => W c d σ H') → Q' v H1) : ta σ H Q' := by
  refine ha σ H _ env μ ρ at_ (Pa.imp (Pa.bind h) ?_ fun _ _ _ z => z)
  rintro v H1 ⟨ρ1, d, μ1, e1, r1, rfl, h1⟩
  exact next ρ1 H1 v μ1 e1 (at_.ext e1 r1) h1
theorem TOf.go {γ δ : Type} {rel2 : List Addr → Hp → δ → γ → Prop} {ta : TO} {fa : FO} (ha : TOf K W ta fa) {σ : L2.St} {H : Hp} {env : Env} {μ : Mem} {ρ : List Addr} (at_ : At K ρ H μ σ env) {k : Option Int → Mem → R γ} {Q : δ → Hp → Prop} {Q' : Option Int → Hp → Prop} (h : Pa K rel2 ((fa env μ).bind k) ρ H Q (fun c d H' => W c d σ H'))
    (next : ∀ ρ1 H1 v μ1, Ext K ρ H ρ1 H1 → At K ρ1 H1 μ1 σ env → Pa K rel2 (k v μ1) ρ1 H1 Q (fun c d H' => W c d σ H') → Q' v H1) : ta σ H Q' := by
  refine ha σ H _ env μ ρ at_ (Pa.imp (Pa.bind h) ?_ fun _ _ _ z => z)
  rintro v H1 ⟨ρ1, d, μ1, e1, r1, rfl, h1⟩
  exact next ρ1 H1 v μ1 e1 (at_.ext e1 r1) h1
theorem tef_op {r : R2} {g : D → D → Mem → R D} (hr : R2f K r g) (ha : TEf K W ta fa) (hb : TEf K W tb fb) : TEf K W (tOp r ta tb) (fOp g fa fb) := by
  intro σ H Q env μ ρ at_ h
  exact ha.go at_ h fun ρ1 H1 v d μ1 e1 a1 r1 h1 => hb.go a1 h1 fun ρ2 H2 w d2 μ2 e2 a2 r2 h2 => hr _ _ _ _ _ _ _ _ _ a2.rp (r1.ext e2) r2 h2
theorem tef_un {r : V → Hp → VK → Prop} {g : D → Mem → R D} (hr : R1f K r g) (ha : TEf K W ta fa) : TEf K W (tUn r ta) (fUn g fa) := by
  intro σ H Q env μ ρ at_ h
  exact ha.go at_ h fun ρ1 H1 v d μ1 e1 a1 r1 h1 => hr _ _ _ _ _ _ _ a1.rp r1 h1
theorem tef_chain {r s : R2} {g k : D → D → Mem → R D} (hr : R2f K r g) (hs : R2f K s k) (ha : TEf K W ta fa) (hb : TEf K W tb fb) (hc : TEf K W tc fc) : TEf K W (tChain r s ta tb tc) (fChain g k fa fb fc) := by
  intro σ H Q env μ ρ at_ h
  refine ha.go at_ h fun ρ1 H1 v d μ1 e1 a1 r1 h1 => hb.go a1 h1 fun ρ2 H2 w d2 μ2 e2 a2 r2 h2 => ?_
  refine hr _ _ _ _ _ _ _ _ (fun c d H' => W c d σ H') a2.rp (r1.ext e2) r2 (Pa.imp (Pa.bind h2) ?_ fun _ _ _ z => z)
  rintro z H3 ⟨ρ3, d3, μ3, e3, r3, rz, h3⟩
  cases rz with
  | bl b =>
    refine ⟨b, rfl, ?_⟩
    have h3 : Pa K (RV K) (if b = true then (fc env μ3).bind fun w μ4 => k d2 w μ4 else .ok (.bl false) μ3) ρ3 H3 Q (fun c d H' => W c d σ H') := h3
    cases b with
    | true => exact hc.go (a2.ext e3 r3) h3 fun ρ4 H4 u d4 μ4 e4 a4 r4 h4 => hs _ _ _ _ _ _ _ _ _ a4.rp (r2.ext (e3.trans e4)) r4 h4
    | false => exact Pa.ok (rel := RV K) h3 r3 (.bl false)
  | _ => exact h3.elim
theorem tef_and (ha : TEf K W ta fa) (hb : TEf K W tb fb) : TEf K W (tAndV ta tb) (fAnd fa fb) := by
  intro σ H Q env μ ρ at_ h
  refine ha.go at_ h fun ρ1 H1 v d μ1 e1 a1 r1 h1 => ?_
  cases r1 with
  | bl b =>
    refine ⟨b, rfl, ?_⟩
    have h1 : Pa K (RV K) (if b = true then fb env μ1 else .ok (.bl false) μ1) ρ1 H1 Q (fun c d H' => W c d σ H') := h1
    cases b with
    | true => exact hb _ _ _ _ _ _ a1 h1
    | false => exact Pa.ok (rel := RV K) h1 a1.rp (.bl false)
  | _ => exact h1.elim
theorem tef_or (ha : TEf K W ta fa) (hb : TEf K W tb fb) : TEf K W (tOrV ta tb) (fOr fa fb) := by
  intro σ H Q env μ ρ at_ h
  refine ha.go at_ h fun ρ1 H1 v d μ1 e1 a1 r1 h1 => ?_
  cases r1 with
  | bl b =>
    refine ⟨b, rfl, ?_⟩
    have h1 : Pa K (RV K) (if b = true then .ok (.bl true) μ1 else fb env μ1) ρ1 H1 Q (fun c d H' => W c d σ H') := h1
    cases b with
    | false => exact hb _ _ _ _ _ _ a1 h1
    | true => exact Pa.ok (rel := RV K) h1 a1.rp (.bl true)
  | _ => exact h1.elim
theorem tef_not (ha : TEf K W ta fa) : TEf K W (tNotV ta) (fNot fa) := by
  intro σ H Q env μ ρ at_ h
  refine ha.go at_ h fun ρ1 H1 v d μ1 e1 a1 r1 h1 => ?_
  cases r1 with
  | bl b => exact ⟨b, rfl, Pa.ok (rel := RV K) h1 a1.rp (.bl _)⟩
  | _ => exact h1.elim
theorem tef_if {tt : TT} {c : FB} (hc : TBf K W tt c) (ha : TEf K W ta fa) (hb : TEf K W tb fb) : TEf K W (tIf tt ta tb) (fIf c fa fb) := by
  intro σ H Q env μ ρ at_ h
  refine hc.go at_ h fun ρ1 H1 b μ1 e1 a1 h1 => ?_
  cases b with
  | true => exact ha _ _ _ _ _ _ a1 h1
  | false => exact hb _ _ _ _ _ _ a1 h1
/-! tests -/
theorem tbf_test (ha : TEf K W ta fa) : TBf K W (tTest ta) (bTest fa) := by
  intro σ H Q env μ ρ at_ h
  refine ha.go at_ h fun ρ1 H1 v d μ1 e1 a1 r1 h1 => ?_
  cases r1 with
  | bl b => exact ⟨b, rfl, h1.ok a1.rp rfl⟩
  | _ => exact h1.elim
theorem tbf_B (ha : TEf K W ta fa) : TBf K W (tB ta) (bTest fa) := by
  intro σ H Q env μ ρ at_ h
  refine ha.go at_ h fun ρ1 H1 v d μ1 e1 a1 r1 h1 => ?_
  cases r1 with
  | bl b => exact ⟨b, rfl, h1.ok a1.rp rfl⟩
  | _ => exact h1.elim
theorem tbf_and {t u : TT} {c1 c2 : FB} (h1 : TBf K W t c1) (h2 : TBf K W u c2) : TBf K W (tAnd t u) (bAnd c1 c2) := by
  intro σ H Q env μ ρ at_ h
  refine h1.go at_ h fun ρ1 H1 b μ1 e1 a1 q => ?_
  cases b with
  | true => exact h2 _ _ _ _ _ _ a1 q
  | false => exact Pa.ok q a1.rp rfl
theorem tbf_or {t u : TT} {c1 c2 : FB} (h1 : TBf K W t c1) (h2 : TBf K W u c2) : TBf K W (tOr t u) (bOr c1 c2) := by
  intro σ H Q env μ ρ at_ h
  refine h1.go at_ h fun ρ1 H1 b μ1 e1 a1 q => ?_
  cases b with
  | false => exact h2 _ _ _ _ _ _ a1 q
  | true => exact Pa.ok q a1.rp rfl
theorem tbf_not {t : TT} {c1 : FB} (h1 : TBf K W t c1) : TBf K W (tNot t) (bNot c1) := by
  intro σ H Q env μ ρ at_ h
  exact h1.go at_ h fun ρ1 H1 b μ1 e1 a1 q => q.ok a1.rp rfl
theorem nil_emp {vs : List V} {ds : List D} {ρ : List Addr} {H : Hp} (h : RVs K ρ H vs ds) : vs.isEmpty = ds.isEmpty := by cases h <;> rfl
theorem nilF_emp {κ : Type} {vs : List (κ × V)} {ds : List (κ × D)} {ρ : List Addr} {H : Hp} (h : RF K ρ H vs ds) : vs.isEmpty = ds.isEmpty := by cases h <;> rfl
theorem tbf_tru (ha : TEf K W ta fa) : TBf K W (fun σ H Q => ta σ H fun x H' => ∃ k, TruV K x H' k ∧ Q k H') (bTru fa) := by
  intro σ H Q env μ ρ at_ h
  refine ha.go at_ h fun ρ1 H1 v d μ1 e1 a1 r1 h1 => ?_
  cases r1 with
  | non => exact ⟨_, rfl, h1.ok a1.rp rfl⟩
  | bl b => exact ⟨_, rfl, h1.ok a1.rp rfl⟩
  | int i => exact ⟨_, rfl, h1.ok a1.rp rfl⟩
  | str z => exact ⟨_, ⟨z.1, rfl⟩, h1.ok a1.rp rfl⟩
  | ty _ => exact h1.elim
  | cref _ => exact h1.elim
  | tup s r => exact ⟨_, .inr (.inl ⟨_, s, rfl⟩), h1.ok a1.rp (by rw [nil_emp r])⟩
  | scr s => exact ⟨_, .inl ⟨_, s.sq, rfl⟩, h1.ok a1.rp (by cases ‹List Int› <;> rfl)⟩
  | @cell n a hn =>
    simp only [truD] at h1
    cases e : μ1[n]? with
    | none => rw [e] at h1; exact h1.elim
    | some c =>
      rw [e] at h1
      cases c with
      | lst xs =>
        obtain ⟨vs, q1, q2⟩ := a1.rp.get hn e
        exact ⟨_, .inl ⟨_, SqL.of q1, rfl⟩, h1.ok a1.rp (by rw [nil_emp q2])⟩
      | dK kvs =>
        obtain ⟨vs, q1, q2⟩ := a1.rp.get hn e
        exact ⟨_, .inr (.inr ⟨_, q1, rfl⟩), h1.ok a1.rp (by rw [nilF_emp q2])⟩
      | ins c fs => exact h1.elim
      | set _ => exact h1.elim
/-! lists of arguments -/
theorem taf_nil : TAf K W tNil aNil := fun σ H Q env μ ρ at_ h => Pa.ok (rel := RVs K) h at_.rp .nil
theorem taf_cons {tr : TA} {fr : FA} (ha : TEf K W ta fa) (hr : TAf K W tr fr) : TAf K W (tCons ta tr) (aCons fa fr) := by
  intro σ H Q env μ ρ at_ h
  refine ha.go at_ h fun ρ1 H1 v d μ1 e1 a1 r1 h1 => hr.go a1 h1 fun ρ2 H2 w d2 μ2 e2 a2 r2 h2 => ?_
  exact Pa.ok (rel := RVs K) h2 a2.rp (.cons (r1.ext e2) r2)
theorem tef_tup {tr : TA} {fr : FA} (hr : TAf K W tr fr) : TEf K W (tTup tr) (fTup fr) := by
  intro σ H Q env μ ρ at_ h
  refine hr.go at_ h fun ρ1 H1 vs ds μ1 e1 a1 r1 h1 => ?_
  by_cases hl : ds.length ≤ sizeLine
  · rw [if_pos hl] at h1
    refine ⟨by rw [r1.len]; exact hl, fun p hp => ?_⟩
    have ee := ext_upd (K := K) ρ1 (o := .tup vs) (Wr.none hp)
    exact h1 ρ1 _ _ ee (a1.rp.side hp) (.tup (SqT.of upd_same) (r1.ext ee))
  · rw [if_neg hl] at h1
    exact h1.elim
theorem tef_lst {tr : TA} {fr : FA} (hr : TAf K W tr fr) : TEf K W (tLst tr) (fLst fr) := by
  intro σ H Q env μ ρ at_ h
  refine hr.go at_ h fun ρ1 H1 vs ds μ1 e1 a1 r1 h1 => ?_
  by_cases hl : ds.length ≤ sizeLine
  · rw [if_pos hl] at h1
    refine ⟨by rw [r1.len]; exact hl, fun p hp => ?_⟩
    have ee := ext_new (K := K) ρ1 (o := .lst vs) hp
    exact h1 _ _ _ ee (a1.rp.new hp ⟨vs, upd_same, r1.ext ee⟩) (.cell (by rw [← a1.rp.len]; simp))
  · rw [if_neg hl] at h1
    exact h1.elim
theorem tef_dct : TEf K W tDNewK fDct := by
  intro σ H Q env μ ρ at_ h p hp
  have ee := ext_new (K := K) ρ (o := .dK []) hp
  exact h _ _ _ ee (at_.rp.new hp ⟨[], upd_same, .nil⟩) (.cell (by rw [← at_.rp.len]; simp))
theorem tef_B {r : List V → Hp → VK → Prop} {g : List D → Mem → R D} {tr : TA} {fr : FA} (hg : RLf K r g) (hr : TAf K W tr fr) : TEf K W (tCB r tr) (fB g fr) := by
  intro σ H Q env μ ρ at_ h
  exact hr.go at_ h fun ρ1 H1 vs ds μ1 e1 a1 r1 h1 => hg _ _ _ _ _ _ _ a1.rp r1 h1
theorem taf_len {tr : TA} {fr : FA} (_ : TAf K W tr fr) : True := trivial
theorem tof_no : TOf K W tNoPart oNo := fun σ H Q env μ ρ at_ h => h.ok at_.rp rfl
theorem tof_at (ha : TEf K W ta fa) : TOf K W (tPart ta) (oAt fa) := by
  intro σ H Q env μ ρ at_ h
  refine ha.go at_ h fun ρ1 H1 v d μ1 e1 a1 r1 h1 => ?_
  cases r1 with
  | int i => exact ⟨i, rfl, h1.ok a1.rp rfl⟩
  | _ => exact h1.elim
theorem tef_sl {r : V → Option Int → Option Int → Hp → VK → Prop} {g : D → Option Int → Option Int → Mem → R D} {tl th : TO} {fl fh : FO} (hr : RSf K r g) (ha : TEf K W ta fa) (hl : TOf K W tl fl) (hh : TOf K W th fh) : TEf K W (tSl r ta tl th) (fSl g fa fl fh) := by
  intro σ H Q env μ ρ at_ h
  exact ha.go at_ h fun ρ1 H1 v d μ1 e1 a1 r1 h1 => hl.go a1 h1 fun ρ2 H2 l μ2 e2 a2 h2 => hh.go a2 h2 fun ρ3 H3 u μ3 e3 a3 h3 => hr _ _ _ _ _ _ _ _ _ a3.rp (r1.ext (e2.trans e3)) h3
/-- calls -/
theorem tef_call {n : Nat} {g : List D → Mem → R D} {tr : TA} {fr : FA} (hr : TAf K W tr fr) : TEf K W (tDX (spD K n g) W tr) (fCall (fun ds μ => if ds.length = n then g ds μ else .no) fr) := by
  intro σ H Q env μ ρ at_ h
  refine hr.go at_ h fun ρ1 H1 vs ds μ1 e1 a1 r1 h1 => ?_
  have h1 : Pa K (RV K) (if ds.length = n then g ds μ1 else .no) ρ1 H1 Q (fun c d H' => W c d σ H') := h1
  by_cases hn : ds.length = n
  · rw [if_pos hn] at h1
    exact ⟨ρ1, μ1, ds, a1.rp, r1, hn, h1⟩
  · rw [if_neg hn] at h1
    exact h1.elim
theorem tef_call0 {n : Nat} {g : List D → Mem → R D} {tr : TA} {fr : FA} (hr : TAf K W tr fr) : TEf K W (tD (spD K n g) tr) (fCall0 (fun ds μ => if ds.length = n then g ds μ else .no) fr) := by
  intro σ H Q env μ ρ at_ h
  refine hr.go at_ h fun ρ1 H1 vs ds μ1 e1 a1 r1 h1 => ?_
  have h1 : Pa K (RV K) (noEx (if ds.length = n then g ds μ1 else .no)) ρ1 H1 Q (fun c d H' => W c d σ H') := h1
  by_cases hn : ds.length = n
  · rw [if_pos hn] at h1
    refine ⟨ρ1, μ1, ds, a1.rp, r1, hn, ?_⟩
    show Pa K (RV K) (g ds μ1) ρ1 H1 Q E0
    cases e : g ds μ1 with
    | ok d μ' => rw [e] at h1; exact h1
    | ex x μ' => rw [e] at h1; exact h1.elim
    | no => rw [e] at h1; exact h1.elim
  · rw [if_neg hn] at h1
    exact h1.elim
end
end
end Dv

set_option maxRecDepth 100000
set_option maxHeartbeats 4000000
namespace Dv
open PySem PySem.Spec PyProof.Rows L2
/-! ### statements -/
inductive RS where
  | nx (env : Env) (μ : Mem) | rt (d : D) (μ : Mem) | bk (env : Env) (μ : Mem) | ct (env : Env) (μ : Mem) | ex (x : Exn) (env : Env) (μ : Mem) | no
abbrev S := Env → Mem → RS
abbrev G := D → Env → Mem → Option (Env × Mem)
abbrev Gs := List D → Env → Mem → Option (Env × Mem)
def Ps (K : KW) (r : RS) (ρ : List Addr) (H : Hp) (D : Ends) (W : WX) : Prop := match r with
  | .nx env μ => ∀ ρ' H' σ', Ext K ρ H ρ' H' → At K ρ' H' μ σ' env → D.nx σ' H'
  | .rt d μ => ∀ ρ' H' v, Ext K ρ H ρ' H' → Rep K ρ' H' μ → RV K ρ' H' v d → D.rt v H'
  | .bk env μ => ∀ ρ' H' σ', Ext K ρ H ρ' H' → At K ρ' H' μ σ' env → D.bk σ' H'
  | .ct env μ => ∀ ρ' H' σ', Ext K ρ H ρ' H' → At K ρ' H' μ σ' env → D.ct σ' H'
  | .ex x env μ => ∀ ρ' H' σ' c d, Ext K ρ H ρ' H' → At K ρ' H' μ σ' env → RX K ρ' H' c d x → W c d σ' H'
  | .no => False
def TSf (K : KW) (W : WX) (ts : TS) (s : S) : Prop := ∀ (σ : L2.St) (H : Hp) (D : Ends) (env : Env) (μ : Mem) (ρ : List Addr), At K ρ H μ σ env → Ps K (s env μ) ρ H D W → ts D σ H
/-- behind a target -/
def Pg (K : KW) (r : Option (Env × Mem)) (ρ : List Addr) (H : Hp) (Q : L2.St → Hp → Prop) : Prop := match r with
  | some (env, μ) => ∀ ρ' H' σ', Ext K ρ H ρ' H' → At K ρ' H' μ σ' env → Q σ' H'
  | none => False
def TGf (K : KW) (g : TG) (t : G) : Prop := ∀ (v : V) (d : D) (σ : L2.St) (H : Hp) (Q : L2.St → Hp → Prop) (env : Env) (μ : Mem) (ρ : List Addr), At K ρ H μ σ env → RV K ρ H v d → Pg K (t d env μ) ρ H Q → g v σ H Q
def TGsf (K : KW) (g : TGs) (t : Gs) : Prop := ∀ (vs : List V) (ds : List D) (σ : L2.St) (H : Hp) (Q : L2.St → Hp → Prop) (env : Env) (μ : Mem) (ρ : List Addr), At K ρ H μ σ env → RVs K ρ H vs ds → Pg K (t ds env μ) ρ H Q → g vs σ H Q
theorem Pg.mono {K : KW} {r : Option (Env × Mem)} {ρ ρ' : List Addr} {H H' : Hp} {Q : L2.St → Hp → Prop} (e : Ext K ρ H ρ' H') (h : Pg K r ρ H Q) : Pg K r ρ' H' Q := by
  cases r with
  | none => exact h
  | some p => exact fun ρ1 H1 σ1 e1 => h ρ1 H1 σ1 (e.trans e1)
theorem Pg.bind {K : KW} {r : Option (Env × Mem)} {k : Env × Mem → Option (Env × Mem)} {ρ : List Addr} {H : Hp} {Q : L2.St → Hp → Prop} (h : Pg K (r.bind k) ρ H Q) : Pg K r ρ H fun σ' H' => ∃ ρ1 env μ, Ext K ρ H ρ1 H' ∧ At K ρ1 H' μ σ' env ∧ Pg K (k (env, μ)) ρ1 H' Q := by
  cases r with
  | none => exact h
  | some p => exact fun ρ1 H1 σ1 e1 a1 => ⟨ρ1, p.1, p.2, e1, a1, Pg.mono e1 h⟩
/-- a target ahead of a statement -/
def onG (r : Option (Env × Mem)) (k : Env → Mem → RS) : RS := match r with
  | some (env, μ) => k env μ
  | none => .no
@[simp] theorem onG_some {env : Env} {μ : Mem} {k : Env → Mem → RS} : onG (some (env, μ)) k = k env μ := rfl
@[simp] theorem onG_none {k : Env → Mem → RS} : onG none k = .no := rfl
def RS.then (r : RS) (k : Env → Mem → RS) : RS := match r with
  | .nx env μ => k env μ
  | r => r
@[simp] theorem then_nx {env : Env} {μ : Mem} {k : Env → Mem → RS} : (RS.nx env μ).then k = k env μ := rfl
@[simp] theorem then_rt {d : D} {μ : Mem} {k : Env → Mem → RS} : (RS.rt d μ).then k = .rt d μ := rfl
@[simp] theorem then_bk {env : Env} {μ : Mem} {k : Env → Mem → RS} : (RS.bk env μ).then k = .bk env μ := rfl
@[simp] theorem then_ct {env : Env} {μ : Mem} {k : Env → Mem → RS} : (RS.ct env μ).then k = .ct env μ := rfl
@[simp] theorem then_ex {x : Exn} {env : Env} {μ : Mem} {k : Env → Mem → RS} : (RS.ex x env μ).then k = .ex x env μ := rfl
@[simp] theorem then_no {k : Env → Mem → RS} : RS.no.then k = .no := rfl
def sNext : S := fun env μ => .nx env μ
def sSeq (s1 s2 : S) : S := fun env μ => (s1 env μ).then s2
def R.toS {α : Type} (r : R α) (env : Env) (k : α → Mem → RS) : RS := match r with
  | .ok a μ => k a μ
  | .ex x μ => .ex x env μ
  | .no => .no
@[simp] theorem toS_ok {α : Type} {a : α} {μ : Mem} {env : Env} {k : α → Mem → RS} : (R.ok a μ).toS env k = k a μ := rfl
@[simp] theorem toS_ex {α : Type} {x : Exn} {μ : Mem} {env : Env} {k : α → Mem → RS} : (R.ex x μ : R α).toS env k = .ex x env μ := rfl
@[simp] theorem toS_no {α : Type} {env : Env} {k : α → Mem → RS} : (R.no : R α).toS env k = .no := rfl
def sDrop (f : F) : S := fun env μ => (f env μ).toS env fun _ μ1 => .nx env μ1
def sRet (f : F) : S := fun env μ => (f env μ).toS env fun d μ1 => .rt d μ1
def sRetN : S := fun _ μ => .rt .non μ
def sBreak : S := fun env μ => .bk env μ
def sCont : S := fun env μ => .ct env μ
def sIf (c : FB) (s1 s2 : S) : S := fun env μ => (c env μ).toS env fun b μ1 => if b = true then s1 env μ1 else s2 env μ1
def gNm (i : Nat) : G := fun d env μ => some (env.set i (some d), μ)
def gsNil : Gs := fun ds env μ => match ds with
  | [] => some (env, μ)
  | _ => none
def gsCons (t : G) (u : Gs) : Gs := fun ds env μ => match ds with
  | d :: r => (t d env μ).bind fun p => u r p.1 p.2
  | [] => none
def gTupD (n : Nat) (t : Gs) : G := fun d env μ => match d with
  | .tup xs => if xs.length = n then t xs env μ else none
  | _ => none
def sAsg (f : F) (t : G) : S := fun env μ => (f env μ).toS env fun d μ1 => onG (t d env μ1) .nx
def sPar (i j : Nat) (fs : FA) : S := fun env μ => (fs env μ).toS env fun ds μ1 => match ds with
  | [a, b] => .nx ((env.set i (some a)).set j (some b)) μ1
  | _ => .no
def sAug (i : Nat) (g : D → D → Mem → R D) (f : F) : S := fun env μ => match env[i]? with
  | some (some x) => (f env μ).toS env fun y μ1 => (g x y μ1).toS env fun z μ2 => .nx (env.set i (some z)) μ2
  | _ => .no
/-- o[k] = d, o a list -/
def setL (o k d : D) (μ : Mem) : R Unit := match o, k with
  | .cell n, .int i => match μ[n]? with
    | some (.lst xs) => match ixN xs.length i with
      | some j => .ok () (μ.set n (.lst (xs.set j d)))
      | none => .no
    | _ => .no
  | _, _ => .no
/-- what an outcome is, if it is no exception -/
def R.get {α : Type} : R α → Option (α × Mem)
  | .ok a μ => some (a, μ)
  | _ => none
@[simp] theorem get_ok {α : Type} {a : α} {μ : Mem} : (R.ok a μ).get = some (a, μ) := rfl
def gSubD (fo fi : F) (st : D → D → D → Mem → R Unit) : G := fun d env μ => (fo env μ).get.bind fun o => (fi env o.2).get.bind fun i => (st o.1 i.1 d i.2).get.bind fun m => some (env, m.2)
section
variable {K : KW} {W : WX}
section
variable {ρ ρ' : List Addr} {H H' : Hp} {D : Ends}
theorem Ps.mono {r : RS} (e : Ext K ρ H ρ' H') (h : Ps K r ρ H D W) : Ps K r ρ' H' D W := by
  cases r with
  | nx env μ => exact fun ρ1 H1 σ1 e1 => h ρ1 H1 σ1 (e.trans e1)
  | rt d μ => exact fun ρ1 H1 σ1 e1 => h ρ1 H1 σ1 (e.trans e1)
  | bk env μ => exact fun ρ1 H1 σ1 e1 => h ρ1 H1 σ1 (e.trans e1)
  | ct env μ => exact fun ρ1 H1 σ1 e1 => h ρ1 H1 σ1 (e.trans e1)
  | ex x env μ => exact fun ρ1 H1 σ1 c d e1 => h ρ1 H1 σ1 c d (e.trans e1)
  | no => exact h
theorem Ps.nx {env : Env} {μ : Mem} {σ : L2.St} (h : Ps K (.nx env μ) ρ H D W) (a : At K ρ H μ σ env) : D.nx σ H := h ρ H σ Ext.refl a
theorem Ps.rt {d : Dv.D} {μ : Mem} {v : V} (h : Ps K (.rt d μ) ρ H D W) (a : Rep K ρ H μ) (r : RV K ρ H v d) : D.rt v H := h ρ H v Ext.refl a r
/-- the way on behind what falls through -/
theorem Ps.then {r : RS} {k : Env → Mem → RS} (h : Ps K (r.then k) ρ H D W) : Ps K r ρ H { D with nx := fun σ' H' => ∃ ρ1 env μ, Ext K ρ H ρ1 H' ∧ At K ρ1 H' μ σ' env ∧ Ps K (k env μ) ρ1 H' D W } W := by
  cases r with
  | nx env μ => exact fun ρ1 H1 σ1 e1 a1 => ⟨ρ1, env, μ, e1, a1, Ps.mono e1 h⟩
  | rt d μ => exact h
  | bk env μ => exact h
  | ct env μ => exact h
  | ex x env μ => exact h
  | no => exact h
theorem Ps.imp {r : RS} {D' : Ends} {W' : WX} (h : Ps K r ρ H D W) (h1 : ∀ σ H, D.nx σ H → D'.nx σ H) (h2 : ∀ v H, D.rt v H → D'.rt v H) (h3 : ∀ σ H, D.bk σ H → D'.bk σ H) (h4 : ∀ σ H, D.ct σ H → D'.ct σ H) (h5 : ∀ c d σ H, W c d σ H → W' c d σ H) : Ps K r ρ H D' W' := by
  cases r with
  | nx env μ => exact fun ρ1 H1 σ1 e1 a1 => h1 _ _ (h ρ1 H1 σ1 e1 a1)
  | rt d μ => exact fun ρ1 H1 σ1 e1 a1 r1 => h2 _ _ (h ρ1 H1 σ1 e1 a1 r1)
  | bk env μ => exact fun ρ1 H1 σ1 e1 a1 => h3 _ _ (h ρ1 H1 σ1 e1 a1)
  | ct env μ => exact fun ρ1 H1 σ1 e1 a1 => h4 _ _ (h ρ1 H1 σ1 e1 a1)
  | ex x env μ => exact fun ρ1 H1 σ1 c d e1 a1 r1 => h5 _ _ _ _ (h ρ1 H1 σ1 c d e1 a1 r1)
  | no => exact h
end
/-- an expression ahead of what a statement does with it -/
theorem TEf.goS {ta : TE} {fa : F} (ha : TEf K W ta fa) {σ : L2.St} {H : Hp} {env : Env} {μ : Mem} {ρ : List Addr} (at_ : At K ρ H μ σ env) {k : Dv.D → Mem → RS} {D : Ends} {Q' : VK} (h : Ps K ((fa env μ).toS env k) ρ H D W)
    (next : ∀ ρ1 H1 v d μ1, Ext K ρ H ρ1 H1 → At K ρ1 H1 μ1 σ env → RV K ρ1 H1 v d → Ps K (k d μ1) ρ1 H1 D W → Q' v H1) : ta σ H Q' := by
  refine ha σ H _ env μ ρ at_ ?_
  cases e : fa env μ with
  | ok d μ1 =>
    rw [e] at h
    exact fun ρ1 H1 v e1 r1 rv => next ρ1 H1 v d μ1 e1 (at_.ext e1 r1) rv (Ps.mono e1 h)
  | ex x μ1 =>
    rw [e] at h
    exact fun ρ1 H1 c d e1 r1 rx => h ρ1 H1 σ c d e1 (at_.ext e1 r1) rx
  | no => rw [e] at h; exact h
theorem TAf.goS {ta : TA} {fa : FA} (ha : TAf K W ta fa) {σ : L2.St} {H : Hp} {env : Env} {μ : Mem} {ρ : List Addr} (at_ : At K ρ H μ σ env) {k : List Dv.D → Mem → RS} {D : Ends} {Q' : List V → Hp → Prop} (h : Ps K ((fa env μ).toS env k) ρ H D W)
    (next : ∀ ρ1 H1 v d μ1, Ext K ρ H ρ1 H1 → At K ρ1 H1 μ1 σ env → RVs K ρ1 H1 v d → Ps K (k d μ1) ρ1 H1 D W → Q' v H1) : ta σ H Q' := by
  refine ha σ H _ env μ ρ at_ ?_
  cases e : fa env μ with
  | ok d μ1 =>
    rw [e] at h
    exact fun ρ1 H1 v e1 r1 rv => next ρ1 H1 v d μ1 e1 (at_.ext e1 r1) rv (Ps.mono e1 h)
  | ex x μ1 =>
    rw [e] at h
    exact fun ρ1 H1 c d e1 r1 rx => h ρ1 H1 σ c d e1 (at_.ext e1 r1) rx
  | no => rw [e] at h; exact h
theorem TBf.goS {ta : TT} {fa : FB} (ha : TBf K W ta fa) {σ : L2.St} {H : Hp} {env : Env} {μ : Mem} {ρ : List Addr} (at_ : At K ρ H μ σ env) {k : Bool → Mem → RS} {D : Ends} {Q' : Bool → Hp → Prop} (h : Ps K ((fa env μ).toS env k) ρ H D W)
    (next : ∀ ρ1 H1 v μ1, Ext K ρ H ρ1 H1 → At K ρ1 H1 μ1 σ env → Ps K (k v μ1) ρ1 H1 D W → Q' v H1) : ta σ H Q' := by
  refine ha σ H _ env μ ρ at_ ?_
  cases e : fa env μ with
  | ok d μ1 =>
    rw [e] at h
    rintro ρ1 H1 v e1 r1 rfl
    exact next ρ1 H1 v μ1 e1 (at_.ext e1 r1) (Ps.mono e1 h)
  | ex x μ1 =>
    rw [e] at h
    exact fun ρ1 H1 c d e1 r1 rx => h ρ1 H1 σ c d e1 (at_.ext e1 r1) rx
  | no => rw [e] at h; exact h
section
variable {t u : TS} {s1 s2 : S} {te : TE} {f : F}
theorem tsf_next : TSf K W tNext sNext := fun σ H D env μ ρ at_ h => h.nx at_
theorem tsf_seq (h1 : TSf K W t s1) (h2 : TSf K W u s2) : TSf K W (tSeq t u) (sSeq s1 s2) := by
  intro σ H D env μ ρ at_ h
  refine h1 σ H _ env μ ρ at_ (Ps.imp (Ps.then h) ?_ (fun _ _ z => z) (fun _ _ z => z) (fun _ _ z => z) fun _ _ _ _ z => z)
  rintro σ1 H1 ⟨ρ1, env1, μ1, e1, a1, q⟩
  exact h2 _ _ _ _ _ _ a1 q
theorem tsf_drop (hf : TEf K W te f) : TSf K W (tDrop te) (sDrop f) := fun σ H D env μ ρ at_ h => hf.goS at_ h fun ρ1 H1 v d μ1 e1 a1 r1 q => q.nx a1
theorem tsf_ret (hf : TEf K W te f) : TSf K W (tRet te) (sRet f) := fun σ H D env μ ρ at_ h => hf.goS at_ h fun ρ1 H1 v d μ1 e1 a1 r1 q => q.rt a1.rp r1
theorem tsf_retN : TSf K W tRetN sRetN := fun σ H D env μ ρ at_ h => Ps.rt (W := W) h at_.rp .non
theorem tsf_break : TSf K W tBreak sBreak := fun σ H D env μ ρ at_ h => h ρ H σ Ext.refl at_
theorem tsf_cont : TSf K W tCont sCont := fun σ H D env μ ρ at_ h => h ρ H σ Ext.refl at_
theorem tsf_if {tt : TT} {c : FB} (hc : TBf K W tt c) (h1 : TSf K W t s1) (h2 : TSf K W u s2) : TSf K W (tIfS tt t u) (sIf c s1 s2) := by
  intro σ H D env μ ρ at_ h
  refine hc.goS at_ h fun ρ1 H1 b μ1 e1 a1 q => ?_
  cases b with
  | true => exact h1 _ _ _ _ _ _ a1 q
  | false => exact h2 _ _ _ _ _ _ a1 q
theorem tgf_name {i : Nat} (hf : Fr K i := by intro _ _ _ h; first | cases h | simp at h) : TGf K (gName i) (gNm i) := fun v d σ H Q env μ ρ at_ r h => h ρ H _ Ext.refl ⟨at_.rp, at_.en.set r i, at_.xa.set hf _⟩
theorem tgsf_nil : TGsf K gNil gsNil := by
  intro vs ds σ H Q env μ ρ at_ r h
  cases r with
  | nil => exact ⟨rfl, h ρ H _ Ext.refl at_⟩
  | cons _ _ => exact h.elim
theorem tgsf_cons {g : TG} {gs : TGs} {t : G} {u : Gs} (h1 : TGf K g t) (h2 : TGsf K gs u) : TGsf K (gCons g gs) (gsCons t u) := by
  intro vs ds σ H Q env μ ρ at_ r h
  cases r with
  | nil => exact h.elim
  | @cons v d vs ds r rr =>
    refine ⟨v, vs, rfl, h1 _ _ _ _ _ _ _ _ at_ r ?_⟩
    have q := Pg.bind (show Pg K ((t d env μ).bind fun p => u ds p.1 p.2) ρ H Q from h)
    cases e : t d env μ with
    | none => rw [e] at q; exact q
    | some p =>
      rw [e] at q
      intro ρ1 H1 σ1 e1 a1
      obtain ⟨ρ2, env2, μ2, e2, a2, q2⟩ := q ρ1 H1 σ1 e1 a1
      exact h2 _ _ _ _ _ _ _ _ a2 (rr.ext e2) q2
theorem tgf_tup {n : Nat} {gs : TGs} {u : Gs} (h2 : TGsf K gs u) : TGf K (gTup K n gs) (gTupD n u) := by
  intro v d σ H Q env μ ρ at_ r h
  cases r with
  | @tup a vs ds hs rs =>
    have h : Pg K (if ds.length = n then u ds env μ else none) ρ H Q := h
    by_cases hn : ds.length = n
    · rw [if_pos hn] at h
      exact ⟨a, vs, rfl, hs, by rw [rs.len, hn], h2 _ _ _ _ _ _ _ _ at_ rs h⟩
    · rw [if_neg hn] at h
      exact h.elim
  | _ => exact h.elim
theorem Ps.onG {r : Option (Env × Mem)} {k : Env → Mem → RS} {ρ : List Addr} {H : Hp} {D : Ends} (h : Ps K (onG r k) ρ H D W) : Pg K r ρ H fun σ' H' => ∃ ρ1 env μ, Ext K ρ H ρ1 H' ∧ At K ρ1 H' μ σ' env ∧ Ps K (k env μ) ρ1 H' D W := by
  cases r with
  | none => exact h
  | some p => exact fun ρ1 H1 σ1 e1 a1 => ⟨ρ1, p.1, p.2, e1, a1, Ps.mono e1 h⟩
theorem Pg.imp {r : Option (Env × Mem)} {ρ : List Addr} {H : Hp} {Q Q' : L2.St → Hp → Prop} (h : Pg K r ρ H Q) (i : ∀ σ H, Q σ H → Q' σ H) : Pg K r ρ H Q' := by
  cases r with
  | none => exact h
  | some p => exact fun ρ1 H1 σ1 e1 a1 => i _ _ (h ρ1 H1 σ1 e1 a1)
theorem tsf_asg {g : TG} {t : G} (hf : TEf K W te f) (hg : TGf K g t) : TSf K W (tAsg te g) (sAsg f t) := by
  intro σ H D env μ ρ at_ h
  refine hf.goS at_ h fun ρ1 H1 v d μ1 e1 a1 r1 q => hg _ _ _ _ _ _ _ _ a1 r1 (Pg.imp (Ps.onG q) ?_)
  rintro σ2 H2 ⟨ρ2, env2, μ2, e2, a2, q2⟩
  exact q2.nx a2
theorem tsf_par {i j : Nat} {ta : TA} {fa : FA} (hf : TAf K W ta fa) (hi : Fr K i := by intro _ _ _ h; first | cases h | simp at h) (hj : Fr K j := by intro _ _ _ h; first | cases h | simp at h) : TSf K W (tPar i j ta) (sPar i j fa) := by
  intro σ H D env μ ρ at_ h
  refine hf.goS at_ h fun ρ1 H1 vs ds μ1 e1 a1 r1 q => ?_
  cases r1 with
  | nil => exact q.elim
  | cons r1 r2 =>
    cases r2 with
    | nil => exact q.elim
    | cons r2 r3 =>
      cases r3 with
      | cons _ _ => exact q.elim
      | nil => exact ⟨_, _, rfl, q _ _ _ Ext.refl ⟨a1.rp, (a1.en.set r1 i).set r2 j, (a1.xa.set hi _).set hj _⟩⟩
def RIf (K : KW) (r : TIp) (g : Dv.D → Dv.D → Mem → R Dv.D) : Prop := R2f K (fun x y H Q => r x y H Q) g
theorem tsf_aug {i : Nat} {r : TIp} {g : Dv.D → Dv.D → Mem → R Dv.D} (hr : RIf K r g) (hf : TEf K W te f) (hi : Fr K i := by intro _ _ _ h; first | cases h | simp at h) : TSf K W (tAug i te r) (sAug i g f) := by
  intro σ H D env μ ρ at_ h
  unfold sAug at h
  cases e : env[i]? with
  | none => rw [e] at h; exact h.elim
  | some o =>
    cases o with
    | none => rw [e] at h; exact h.elim
    | some x =>
      rw [e] at h
      obtain ⟨v, hv, rv⟩ := at_.en.at_ _ _ e
      refine ⟨v, hv, hf.goS at_ h fun ρ1 H1 w d μ1 e1 a1 r1 q => ?_⟩
      refine hr _ _ x d μ1 ρ1 H1 _ (fun c d H' => W c d σ H') a1.rp (rv.ext e1) r1 ?_
      cases e2 : g x d μ1 with
      | no => rw [e2] at q; exact q
      | ex x' μ2 => rw [e2] at q; exact fun ρ2 H2 c d' e3 r3 rx => q ρ2 H2 σ c d' e3 (a1.ext e3 r3) rx
      | ok z μ2 =>
        rw [e2] at q
        exact fun ρ2 H2 zv e3 r3 rz => q ρ2 H2 _ e3 ⟨r3, (a1.en.ext e3).set rz i, (a1.xa.ext e3).set hi _⟩
/-- a store into an object -/
def TStf (K : KW) (t : TSet) (st : Dv.D → Dv.D → Dv.D → Mem → R Unit) : Prop := ∀ (o i v : V) (a b c : Dv.D) (H : Hp) (Q : Hp → Prop) (μ : Mem) (ρ : List Addr), Rep K ρ H μ → RV K ρ H o a → RV K ρ H i b → RV K ρ H v c →
  (match st a b c μ with | .ok _ μ' => ∀ ρ' H', Ext K ρ H ρ' H' → Rep K ρ' H' μ' → Q H' | _ => False) → t o i v H Q
def W0 : WX := fun _ _ _ _ => False
theorem tgf_sub {to ti : TE} {fo fi : F} {t : TSet} {st : Dv.D → Dv.D → Dv.D → Mem → R Unit} (ho : TEf K W0 to fo) (hi : TEf K W0 ti fi) (hs : TStf K t st) : TGf K (gSub to ti t) (gSubD fo fi st) := by
  intro v d σ H Q env μ ρ at_ r h
  unfold gSubD at h
  cases e1 : fo env μ with
  | no => rw [e1] at h; exact h.elim
  | ex _ _ => rw [e1] at h; exact h.elim
  | ok o μ1 =>
    rw [e1] at h
    refine ho σ H _ env μ ρ at_ ?_
    rw [e1]
    intro ρ1 H1 ov x1 r1 ro
    have a1 := at_.ext x1 r1
    have h : Pg K ((fi env μ1).get.bind fun i => (st o i.1 d i.2).get.bind fun m => some (env, m.2)) ρ H Q := h
    cases e2 : fi env μ1 with
    | no => rw [e2] at h; exact h.elim
    | ex _ _ => rw [e2] at h; exact h.elim
    | ok i μ2 =>
      rw [e2] at h
      refine hi σ H1 _ env μ1 ρ1 a1 ?_
      rw [e2]
      intro ρ2 H2 iv x2 r2 ri
      have h : Pg K ((st o i d μ2).get.bind fun m => some (env, m.2)) ρ H Q := h
      refine hs _ _ _ o i d _ _ μ2 ρ2 r2 (ro.ext x2) ri (r.ext (x1.trans x2)) ?_
      cases e3 : st o i d μ2 with
      | no => rw [e3] at h; exact h.elim
      | ex _ _ => rw [e3] at h; exact h.elim
      | ok z μ3 =>
        rw [e3] at h
        exact fun ρ3 H3 x3 r3 => h ρ3 H3 σ ((x1.trans x2).trans x3) ((at_.ext ((x1.trans x2).trans x3)) r3)
theorem tst_list : TStf K rSetL setL := by
  intro o i v a b c H Q μ ρ rp ra rb rc h
  cases ra with
  | @cell n p hp =>
    cases rb with
    | int k =>
      simp only [setL] at h
      cases e : μ[n]? with
      | none => rw [e] at h; exact h.elim
      | some cc =>
        rw [e] at h
        cases cc with
        | lst xs =>
          cases e2 : ixN xs.length k with
          | none => simp only [e2] at h
          | some j =>
            simp only [e2] at h
            obtain ⟨vs, h1, h2⟩ := rp.get hp e
            refine ⟨p, vs, k, j, rfl, rfl, h1, by rw [h2.len]; exact e2, ?_⟩
            have ee := ext_upd (K := K) ρ (o := .lst (vs.set j v)) (Wr.lst h1)
            exact h _ _ ee (rp.write hp (Wr.lst h1) ⟨_, upd_same, (h2.ext ee).set (rc.ext ee) j⟩)
        | dK _ => exact h.elim
        | ins _ _ => exact h.elim
        | set _ => exact h.elim
    | _ => exact h.elim
  | _ => exact h.elim
end
end
end Dv

set_option maxRecDepth 100000
set_option maxHeartbeats 4000000
namespace Dv
open PySem PySem.Spec PyProof.Rows L2
/-! ### what is walked -/
/-- its items; the lists that must stay as they are -/
structure ItD where
  items : List D
  guard : List (Nat × List D)
def gok (g : List (Nat × List D)) (μ : Mem) : Prop := ∀ p ∈ g, μ[p.1]? = some (.lst p.2)
@[simp] theorem gok_nil {μ : Mem} : gok [] μ := fun p h => nomatch h
theorem gok_one {n : Nat} {xs : List D} {μ : Mem} : gok [(n, xs)] μ ↔ μ[n]? = some (.lst xs) := by
  unfold gok
  constructor
  · intro h; exact h _ (List.mem_singleton.mpr rfl)
  · intro h p hp; rw [List.mem_singleton.mp hp]; exact h
abbrev FI := Env → Mem → R ItD
def ItR (K : KW) (ρ : List Addr) (H : Hp) (J : It) (d : ItD) : Prop := ∀ (ρ' : List Addr) (H' : Hp) (μ' : Mem), Ext K ρ H ρ' H' → Rep K ρ' H' μ' → gok d.guard μ' → ∀ i : Nat,
  (d.items.length ≤ i → J.stop i H') ∧ ∀ x : D, d.items[i]? = some x → J.go i H' ∧ ∀ v H2, J.yld i H' v H2 → Ext K ρ' H' ρ' H2 ∧ Rep K ρ' H2 μ' ∧ RV K ρ' H2 v x
theorem ItR.ext {K : KW} {ρ ρ' : List Addr} {H H' : Hp} {J : It} {d : ItD} (e : Ext K ρ H ρ' H') (h : ItR K ρ H J d) : ItR K ρ' H' J d := fun ρ1 H1 μ1 e1 => h ρ1 H1 μ1 (e.trans e1)
def TIf (K : KW) (W : WX) (wi : TI) (f : FI) : Prop := ∀ (σ : L2.St) (H : Hp) (Q : It → Hp → Prop) (env : Env) (μ : Mem) (ρ : List Addr), At K ρ H μ σ env → Pa K (ItR K) (f env μ) ρ H Q (fun c d H' => W c d σ H') → wi σ H Q
open Classical in
noncomputable def forGo (t : G) (b : S) (g : List (Nat × List D)) : List D → Env → Mem → RS
  | [], env, μ => if gok g μ then .nx env μ else .no
  | x :: xs, env, μ => if gok g μ then onG (t x env μ) fun e1 μ1 => match b e1 μ1 with
    | .nx e2 μ2 => forGo t b g xs e2 μ2
    | .ct e2 μ2 => forGo t b g xs e2 μ2
    | .bk e2 μ2 => .nx e2 μ2
    | r => r
    else .no
noncomputable def sFor (f : FI) (t : G) (b : S) : S := fun env μ => (f env μ).toS env fun it μ1 => forGo t b it.guard it.items env μ1
def whGo (c : FB) (b : S) : Nat → Env → Mem → RS
  | 0, _, _ => .no
  | n + 1, env, μ => (c env μ).toS env fun k μ1 => if k = true then match b env μ1 with
    | .nx e2 μ2 => whGo c b n e2 μ2
    | .ct e2 μ2 => whGo c b n e2 μ2
    | .bk e2 μ2 => .nx e2 μ2
    | r => r
    else .nx env μ1
open Classical in
noncomputable def sWhile (c : FB) (b : S) : S := fun env μ => if h : ∃ n, whGo c b n env μ ≠ .no then whGo c b (Classical.choose h) env μ else .no
theorem whGo_mono {c : FB} {b : S} : ∀ {n m : Nat} {env : Env} {μ : Mem}, n ≤ m → whGo c b n env μ ≠ .no → whGo c b m env μ = whGo c b n env μ
  | 0, _, _, _, _, h => absurd rfl h
  | n + 1, 0, _, _, hm, _ => absurd hm (by omega)
  | n + 1, m + 1, env, μ, hm, h => by
    unfold whGo at h ⊢
    cases e : c env μ with
    | no => rfl
    | ex _ _ => rfl
    | ok k μ1 =>
      rw [e] at h
      cases k with
      | false => rfl
      | true =>
        simp only [toS_ok, if_true] at h ⊢
        cases e2 : b env μ1 with
        | nx e2' μ2 => rw [e2] at h; simp only at h ⊢; exact whGo_mono (by omega) h
        | ct e2' μ2 => rw [e2] at h; simp only at h ⊢; exact whGo_mono (by omega) h
        | _ => rfl
/-- so many turns are enough -/
theorem sWhile_of {c : FB} {b : S} {env : Env} {μ : Mem} {r : RS} (n : Nat) (h : whGo c b n env μ = r) (hr : r ≠ .no) : sWhile c b env μ = r := by
  have ex : ∃ n, whGo c b n env μ ≠ .no := ⟨n, by rw [h]; exact hr⟩
  unfold sWhile
  rw [dif_pos ex]
  have hs := Classical.choose_spec ex
  rcases Nat.le_total n (Classical.choose ex) with l | l
  · rw [whGo_mono l (by rw [h]; exact hr), h]
  · rw [← whGo_mono l hs, h]
/-! ### list comprehensions -/
open Classical in
noncomputable def lcGo (t : G) (c : FB) (e : F) (g : List (Nat × List D)) (n0 : Nat) (env0 : Env) : List D → Mem → Option Mem
  | [], μ => if gok g μ then some μ else none
  | x :: xs, μ => if gok g μ then (t x env0 μ).bind fun p => (c p.1 p.2).get.bind fun k => if k.1 = true then (e p.1 k.2).get.bind fun y => match y.2[n0]? with
    | some (.lst acc) => if acc.length < sizeLine then lcGo t c e g n0 env0 xs (y.2.set n0 (.lst (acc ++ [y.1]))) else none
    | _ => none
    else lcGo t c e g n0 env0 xs k.2
    else none
def wipeE (env : Env) : List Nat → Env
  | [] => env
  | v :: vs => (wipeE env vs).set v none
noncomputable def fLc (f : FI) (t : G) (c : FB) (e : F) (vs : List Nat) : F := fun env μ => (f env μ).bind fun it μ1 => match lcGo t c e it.guard μ1.length (wipeE env vs) it.items (μ1 ++ [.lst []]) with
  | some μ2 => .ok (.cell μ1.length) μ2
  | none => .no
def bYes : FB := fun _ μ => .ok true μ
/-- what a target stores lies in these slots -/
def Own (g : TG) (vs : List Nat) : Prop := ∀ v σ H Q, g v σ H Q → g v σ H fun σ2 H2 => wipe σ2 vs = wipe σ vs ∧ Q σ2 H2
section
variable {K : KW} {W : WX}
theorem wipe_set {σ : L2.St} {i : Nat} {o : Option V} : ∀ {vs : List Nat}, i ∈ vs → wipe (σ.set i o) vs = wipe σ vs
  | [], h => nomatch h
  | v :: vs, h => by
    unfold wipe
    by_cases hm : i ∈ vs
    · rw [wipe_set hm]
    · have e : i = v := by
        rcases List.mem_cons.mp h with z | z
        · exact z
        · exact absurd z hm
      subst e
      have : ∀ ws : List Nat, i ∉ ws → wipe (σ.set i o) ws = (wipe σ ws).set i o := by
        intro ws
        induction ws with
        | nil => intro _; rfl
        | cons w ws ih =>
          intro hw
          unfold wipe
          rw [ih (fun z => hw (List.mem_cons_of_mem _ z)), List.set_comm]
          exact fun z => hw (by rw [z]; exact List.mem_cons_self)
      rw [this vs hm, List.set_set]
theorem wipe_out {i : Nat} {o : Option V} {σ : L2.St} : ∀ ws : List Nat, i ∉ ws → wipe (σ.set i o) ws = (wipe σ ws).set i o
  | [], _ => rfl
  | w :: ws, hw => by
    unfold wipe
    rw [wipe_out ws (fun z => hw (List.mem_cons_of_mem _ z)), List.set_comm]
    exact fun z => hw (by rw [z]; exact List.mem_cons_self)
theorem wipe_wipe (σ : L2.St) : ∀ vs : List Nat, wipe (wipe σ vs) vs = wipe σ vs
  | [] => rfl
  | v :: vs => by
    show (wipe ((wipe σ vs).set v none) vs).set v none = (wipe σ vs).set v none
    by_cases hm : v ∈ vs
    · rw [wipe_set hm, wipe_wipe σ vs]
    · rw [wipe_out vs hm, wipe_wipe σ vs, List.set_set]
theorem own_name {i : Nat} {vs : List Nat} (h : i ∈ vs) : Own (gName i) vs := fun v σ H Q q => ⟨wipe_set h, q⟩
def Owns (g : TGs) (vs : List Nat) : Prop := ∀ xs σ H Q, g xs σ H Q → g xs σ H fun σ2 H2 => wipe σ2 vs = wipe σ vs ∧ Q σ2 H2
theorem owns_nil {vs : List Nat} : Owns gNil vs := fun xs σ H Q q => ⟨q.1, rfl, q.2⟩
/-- weaker wishes -/
def Mono (g : TG) : Prop := ∀ v σ H Q Q', (∀ σ H, Q σ H → Q' σ H) → g v σ H Q → g v σ H Q'
def Monos (g : TGs) : Prop := ∀ v σ H Q Q', (∀ σ H, Q σ H → Q' σ H) → g v σ H Q → g v σ H Q'
theorem mono_name {i : Nat} : Mono (gName i) := fun v σ H Q Q' i q => i _ _ q
theorem monos_nil : Monos gNil := fun v σ H Q Q' i q => ⟨q.1, i _ _ q.2⟩
theorem monos_cons {g : TG} {gs : TGs} (h1 : Mono g) (h2 : Monos gs) : Monos (gCons g gs) := fun v σ H Q Q' i q => by
  obtain ⟨x, r, e, q⟩ := q
  exact ⟨x, r, e, h1 _ _ _ _ _ (fun σ H z => h2 _ _ _ _ _ i z) q⟩
theorem mono_tup {n : Nat} {gs : TGs} (h2 : Monos gs) : Mono (gTup K n gs) := fun v σ H Q Q' i q => by
  obtain ⟨a, xs, e, h, l, q⟩ := q
  exact ⟨a, xs, e, h, l, h2 _ _ _ _ _ i q⟩
theorem owns_cons {g : TG} {gs : TGs} {vs : List Nat} (m1 : Mono g) (m2 : Monos gs) (h1 : Own g vs) (h2 : Owns gs vs) : Owns (gCons g gs) vs := fun xs σ H Q q => by
  obtain ⟨x, r, e, q⟩ := q
  refine ⟨x, r, e, m1 _ _ _ _ _ ?_ (h1 _ _ _ _ q)⟩
  rintro σ1 H1 ⟨e1, q1⟩
  exact m2 _ _ _ _ _ (fun σ2 H2 z => ⟨z.1.trans e1, z.2⟩) (h2 _ _ _ _ q1)
theorem own_tup {n : Nat} {gs : TGs} {vs : List Nat} (h2 : Owns gs vs) : Own (gTup K n gs) vs := fun v σ H Q q => by
  obtain ⟨a, xs, e, h, l, q⟩ := q
  exact ⟨a, xs, e, h, l, h2 _ _ _ _ q⟩
theorem EnvR.wipe {ρ : List Addr} {H : Hp} {σ : L2.St} {env : Env} (h : EnvR K ρ H σ env) : ∀ vs : List Nat, EnvR K ρ H (L2.wipe σ vs) (wipeE env vs)
  | [] => h
  | v :: vs => by
    have ih := EnvR.wipe h vs
    unfold L2.wipe wipeE
    refine ⟨by simp [ih.len], fun i d q => ?_⟩
    rw [List.getElem?_set] at q
    by_cases z : v = i
    · rw [if_pos z] at q
      split at q <;> cases q
    · rw [if_neg z] at q
      obtain ⟨w, a, b⟩ := ih.at_ i d q
      exact ⟨w, by rw [List.getElem?_set_ne z]; exact a, b⟩
theorem XaOk.wipe {ρ : List Addr} {H : Hp} {σ : L2.St} (h : XaOk K ρ H σ) : ∀ {vs : List Nat}, (∀ i ∈ vs, Fr K i) → XaOk K ρ H (L2.wipe σ vs)
  | [], _ => h
  | v :: vs, hf => (XaOk.wipe h fun i hi => hf i (List.mem_cons_of_mem _ hi)).set (hf v List.mem_cons_self) _
theorem TIf.goS {wi : TI} {fi : FI} (hi : TIf K W wi fi) {σ : L2.St} {H : Hp} {env : Env} {μ : Mem} {ρ : List Addr} (at_ : At K ρ H μ σ env) {k : ItD → Mem → RS} {D : Ends} {Q' : It → Hp → Prop} (h : Ps K ((fi env μ).toS env k) ρ H D W)
    (next : ∀ ρ1 H1 J d μ1, Ext K ρ H ρ1 H1 → At K ρ1 H1 μ1 σ env → ItR K ρ1 H1 J d → Ps K (k d μ1) ρ1 H1 D W → Q' J H1) : wi σ H Q' := by
  refine hi σ H _ env μ ρ at_ ?_
  cases e : fi env μ with
  | ok d μ1 =>
    rw [e] at h
    exact fun ρ1 H1 v e1 r1 rv => next ρ1 H1 v d μ1 e1 (at_.ext e1 r1) rv (Ps.mono e1 h)
  | ex x μ1 =>
    rw [e] at h
    exact fun ρ1 H1 c d e1 r1 rx => h ρ1 H1 σ c d e1 (at_.ext e1 r1) rx
  | no => rw [e] at h; exact h
theorem tsf_for {wi : TI} {fi : FI} {g : TG} {t : G} {tb : TS} {b : S} (hi : TIf K W wi fi) (hg : TGf K g t) (hb : TSf K W tb b) : TSf K W (tFor wi g tb) (sFor fi t b) := by
  intro σ H D env μ ρ at_ h
  refine hi.goS at_ h fun ρ1 H1 J d μ1 e1 a1 rJ q => ?_
  refine ⟨fun i m σ' H' => m = d.items.length - i ∧ i ≤ d.items.length ∧ ∃ env' μ' ρ', Ext K ρ1 H1 ρ' H' ∧ At K ρ' H' μ' σ' env' ∧ Ps K (forGo t b d.guard (d.items.drop i) env' μ') ρ' H' D W, ⟨_, rfl, Nat.zero_le _, env, μ1, ρ1, Ext.refl, a1, q⟩, ?_⟩
  rintro i m σ2 H2 ⟨rfl, hi2, env2, μ2, ρ2, e2, a2, q2⟩
  by_cases hl : i < d.items.length
  · have ex : d.items.drop i = d.items[i] :: d.items.drop (i + 1) := List.drop_eq_getElem_cons hl
    rw [ex] at q2
    unfold forGo at q2
    by_cases hk : gok d.guard μ2
    · rw [if_pos hk] at q2
      have st := (rJ ρ2 H2 μ2 e2 a2.rp hk i).2 d.items[i] (List.getElem?_eq_getElem hl)
      refine .inr ⟨st.1, fun σ' H' => ∃ m', m' < d.items.length - i ∧ (m' = d.items.length - (i + 1) ∧ i + 1 ≤ d.items.length ∧ ∃ env' μ' ρ', Ext K ρ1 H1 ρ' H' ∧ At K ρ' H' μ' σ' env' ∧ Ps K (forGo t b d.guard (d.items.drop (i + 1)) env' μ') ρ' H' D W), fun _ _ z => z, fun v H3 y => ?_⟩
      obtain ⟨e3, r3, rv⟩ := st.2 v H3 y
      have a3 : At K ρ2 H3 μ2 σ2 env2 := a2.ext e3 r3
      refine hg _ _ _ _ _ _ _ _ a3 rv (Pg.imp (Ps.onG (Ps.mono e3 q2)) ?_)
      rintro σ4 H4 ⟨ρ4, env4, μ4, e4, a4, q4⟩
      refine hb _ _ _ _ _ _ a4 ?_
      have again : ∀ {env5 : Env} {μ5 : Mem}, Ps K (forGo t b d.guard (d.items.drop (i + 1)) env5 μ5) ρ4 H4 D W → ∀ ρ' H' σ', Ext K ρ4 H4 ρ' H' → At K ρ' H' μ5 σ' env5 →
          ∃ m', m' < d.items.length - i ∧ (m' = d.items.length - (i + 1) ∧ i + 1 ≤ d.items.length ∧ ∃ env' μ' ρ', Ext K ρ1 H1 ρ' H' ∧ At K ρ' H' μ' σ' env' ∧ Ps K (forGo t b d.guard (d.items.drop (i + 1)) env' μ') ρ' H' D W) :=
        fun q5 ρ' H' σ' e5 a5 => ⟨d.items.length - (i + 1), by omega, rfl, hl, _, _, ρ', ((e2.trans e3).trans e4).trans e5, a5, Ps.mono e5 q5⟩
      cases e5 : b env4 μ4 with
      | nx env5 μ5 => rw [e5] at q4; exact again q4
      | ct env5 μ5 => rw [e5] at q4; exact again q4
      | bk env5 μ5 => rw [e5] at q4; exact q4
      | rt _ _ => rw [e5] at q4; exact q4
      | ex _ _ _ => rw [e5] at q4; exact q4
      | no => rw [e5] at q4; exact q4
    · rw [if_neg hk] at q2
      exact q2.elim
  · have e0 : i = d.items.length := by omega
    have ex : d.items.drop i = [] := by rw [e0]; exact List.drop_length
    rw [ex] at q2
    unfold forGo at q2
    by_cases hk : gok d.guard μ2
    · rw [if_pos hk] at q2
      exact .inl ⟨(rJ ρ2 H2 μ2 e2 a2.rp hk i).1 (by omega), q2.nx a2⟩
    · rw [if_neg hk] at q2
      exact q2.elim
theorem tsf_while {c : FB} {b : S} {tc : TT} {tb : TS} (hc : TBf K W tc c) (hb : TSf K W tb b) : TSf K W (tWhile tc tb) (sWhile c b) := by
  intro σ H D env μ ρ at_ h
  unfold sWhile at h
  by_cases hx : ∃ n, whGo c b n env μ ≠ .no
  · rw [dif_pos hx] at h
    generalize Classical.choose hx = n0 at h
    refine ⟨fun m σ' H' => ∃ env' μ' ρ', Ext K ρ H ρ' H' ∧ At K ρ' H' μ' σ' env' ∧ Ps K (whGo c b m env' μ') ρ' H' D W, ⟨n0, env, μ, ρ, Ext.refl, at_, h⟩, ?_⟩
    rintro m σ1 H1 ⟨env1, μ1, ρ1, e1, a1, q1⟩
    cases m with
    | zero => exact q1.elim
    | succ m =>
      unfold whGo at q1
      refine hc.goS a1 q1 fun ρ2 H2 k μ2 e2 a2 q2 => ?_
      cases k with
      | false => exact q2.nx a2
      | true =>
        rw [if_pos rfl] at q2
        refine ⟨fun σ' H' => ∃ m', m' < m + 1 ∧ ∃ env' μ' ρ', Ext K ρ H ρ' H' ∧ At K ρ' H' μ' σ' env' ∧ Ps K (whGo c b m' env' μ') ρ' H' D W, fun _ _ z => z, ?_⟩
        refine hb _ _ _ _ _ _ a2 ?_
        have again : ∀ {env5 : Env} {μ5 : Mem}, Ps K (whGo c b m env5 μ5) ρ2 H2 D W → ∀ ρ' H' σ', Ext K ρ2 H2 ρ' H' → At K ρ' H' μ5 σ' env5 →
            ∃ m', m' < m + 1 ∧ ∃ env' μ' ρ', Ext K ρ H ρ' H' ∧ At K ρ' H' μ' σ' env' ∧ Ps K (whGo c b m' env' μ') ρ' H' D W := fun q5 ρ' H' σ' e5 a5 => ⟨m, by omega, _, _, ρ', (e1.trans e2).trans e5, a5, Ps.mono e5 q5⟩
        cases e5 : b env1 μ2 with
        | nx env5 μ5 => rw [e5] at q2; exact again q2
        | ct env5 μ5 => rw [e5] at q2; exact again q2
        | bk env5 μ5 => rw [e5] at q2; exact q2
        | rt _ _ => rw [e5] at q2; exact q2
        | ex _ _ _ => rw [e5] at q2; exact q2
        | no => rw [e5] at q2; exact q2
  · rw [dif_neg hx] at h
    exact h.elim
theorem tbf_yes : TBf K W tYes bYes := fun σ H Q env μ ρ at_ h => h.ok at_.rp rfl
theorem tef_lc {wi : TI} {fi : FI} {g : TG} {t : G} {tt : TT} {c : FB} {te : TE} {e : F} {vs : List Nat} (hi : TIf K W wi fi) (hg : TGf K g t) (ho : Own g vs) (hc : TBf K W0 tt c) (he : TEf K W0 te e) (hfr : ∀ i ∈ vs, Fr K i := by intro i hi; simp at hi; intro _ _ _ h; first | cases h | (simp at h; omega)) : TEf K W (tLc wi g tt te vs) (fLc fi t c e vs) := by
  intro σ H Q env μ ρ at_ h
  have h : Pd K ((fi env μ).bind fun it μ1 => match lcGo t c e it.guard μ1.length (wipeE env vs) it.items (μ1 ++ [.lst []]) with
    | some μ2 => .ok (.cell μ1.length) μ2
    | none => .no) ρ H Q (fun c d H' => W c d σ H') := h
  refine hi σ H _ env μ ρ at_ (Pa.imp (Pa.bind h) ?_ fun _ _ _ z => z)
  rintro J H1 ⟨ρ1, d, μ1, e1, r1, rJ, h1⟩ A hA
  have a1 := at_.ext e1 r1
  have ea := ext_new (K := K) ρ1 (o := .lst []) hA
  have ra : Rep K (ρ1 ++ [A]) (upd H1 A (.lst [])) (μ1 ++ [.lst []]) := r1.new hA ⟨[], upd_same, .nil⟩
  have gA : (ρ1 ++ [A])[μ1.length]? = some A := by rw [← r1.len]; simp
  have h1 : Pd K (match lcGo t c e d.guard μ1.length (wipeE env vs) d.items (μ1 ++ [.lst []]) with
    | some μ2 => R.ok (.cell μ1.length) μ2
    | none => .no) (ρ1 ++ [A]) (upd H1 A (.lst [])) Q (fun c d H' => W c d σ H') := Pa.mono ea h1
  have en0 : EnvR K (ρ1 ++ [A]) (upd H1 A (.lst [])) (wipe σ vs) (wipeE env vs) := (a1.en.ext ea).wipe vs
  generalize hn0 : μ1.length = n0 at h1 gA
  have xa0 : XaOk K (ρ1 ++ [A]) (upd H1 A (.lst [])) (wipe σ vs) := (a1.xa.ext ea).wipe hfr
  refine ⟨fun i m H' => m = d.items.length - i ∧ i ≤ d.items.length ∧ ∃ μ' ρ', Ext K (ρ1 ++ [A]) (upd H1 A (.lst [])) ρ' H' ∧ Rep K ρ' H' μ' ∧ Pd K (match lcGo t c e d.guard n0 (wipeE env vs) (d.items.drop i) μ' with
    | some μ2 => R.ok (.cell n0) μ2
    | none => .no) ρ' H' Q (fun c d H' => W c d σ H'), ⟨_, rfl, Nat.zero_le _, _, _, Ext.refl, ra, h1⟩, ?_⟩
  rintro i m H2 ⟨rfl, hi2, μ2, ρ2, e2, r2, q2⟩
  have a2 : At K ρ2 H2 μ2 (wipe σ vs) (wipeE env vs) := ⟨r2, en0.ext e2, xa0.ext e2⟩
  by_cases hl : i < d.items.length
  · have ex : d.items.drop i = d.items[i] :: d.items.drop (i + 1) := List.drop_eq_getElem_cons hl
    rw [ex] at q2
    unfold lcGo at q2
    by_cases hk : gok d.guard μ2
    · rw [if_pos hk] at q2
      have st := (rJ ρ2 H2 μ2 (ea.trans e2) r2 hk i).2 d.items[i] (List.getElem?_eq_getElem hl)
      refine .inr ⟨st.1, fun H' => ∃ m', m' < d.items.length - i ∧ (m' = d.items.length - (i + 1) ∧ i + 1 ≤ d.items.length ∧ ∃ μ' ρ', Ext K (ρ1 ++ [A]) (upd H1 A (.lst [])) ρ' H' ∧ Rep K ρ' H' μ' ∧ Pd K (match lcGo t c e d.guard n0 (wipeE env vs) (d.items.drop (i + 1)) μ' with
        | some μ2 => R.ok (.cell n0) μ2
        | none => .no) ρ' H' Q (fun c d H' => W c d σ H')), fun _ z => z, fun v H3 y => ?_⟩
      obtain ⟨e3, r3, rv⟩ := st.2 v H3 y
      have a3 : At K ρ2 H3 μ2 (wipe σ vs) (wipeE env vs) := a2.ext e3 r3
      have key : ∀ Q, g v (wipe σ vs) H3 Q → g v (wipe σ vs) H3 fun σ2 H2 => wipe σ2 vs = wipe σ vs ∧ Q σ2 H2 := fun Q q => by
        have z := ho v _ H3 Q q
        rw [wipe_wipe] at z
        exact z
      refine key _ (hg _ _ _ _ _ _ _ _ a3 rv ?_)
      cases t4 : t d.items[i] (wipeE env vs) μ2 with
      | none => rw [t4] at q2; exact q2.elim
      | some p =>
        rw [t4] at q2
        intro ρ4 H4 σ4 e4 a4
        have q2 : Pd K (match ((c p.1 p.2).get.bind fun k => if k.1 = true then (e p.1 k.2).get.bind fun y => match y.2[n0]? with
            | some (.lst acc) => if acc.length < sizeLine then lcGo t c e d.guard n0 (wipeE env vs) (d.items.drop (i + 1)) (y.2.set n0 (.lst (acc ++ [y.1]))) else none
            | _ => none
            else lcGo t c e d.guard n0 (wipeE env vs) (d.items.drop (i + 1)) k.2) with
          | some μ2 => R.ok (.cell n0) μ2
          | none => .no) ρ2 H2 Q (fun c d H' => W c d σ H') := q2
        refine hc _ _ _ p.1 p.2 _ a4 ?_
        cases c5 : c p.1 p.2 with
        | no => rw [c5] at q2; exact q2.elim
        | ex _ _ => rw [c5] at q2; exact q2.elim
        | ok k μ5 =>
          rw [c5] at q2
          rintro ρ5 H5 b e5 r5 rfl
          have a5 := a4.ext e5 r5
          cases b with
          | false =>
            rw [if_neg (by decide)]
            exact ⟨d.items.length - (i + 1), by omega, rfl, hl, μ5, ρ5, ((e2.trans e3).trans e4).trans e5, r5, Pa.mono ((e3.trans e4).trans e5) q2⟩
          | true =>
            rw [if_pos rfl]
            have q2 : Pd K (match ((e p.1 μ5).get.bind fun y => match y.2[n0]? with
              | some (.lst acc) => if acc.length < sizeLine then lcGo t c e d.guard n0 (wipeE env vs) (d.items.drop (i + 1)) (y.2.set n0 (.lst (acc ++ [y.1]))) else none
              | _ => none) with
              | some μ2 => R.ok (.cell n0) μ2
              | none => .no) ρ2 H2 Q (fun c d H' => W c d σ H') := q2
            refine he _ _ _ p.1 μ5 _ a5 ?_
            cases c6 : e p.1 μ5 with
            | no => rw [c6] at q2; exact q2.elim
            | ex _ _ => rw [c6] at q2; exact q2.elim
            | ok y μ6 =>
              rw [c6] at q2
              intro ρ6 H6 yv e6 r6 ry
              have e26 := (((e2.trans e3).trans e4).trans e5).trans e6
              have gA6 := e26.get gA
              have q2 : Pd K (match (match μ6[n0]? with
                | some (.lst acc) => if acc.length < sizeLine then lcGo t c e d.guard n0 (wipeE env vs) (d.items.drop (i + 1)) (μ6.set n0 (.lst (acc ++ [y]))) else none
                | _ => none) with
                | some μ2 => R.ok (.cell n0) μ2
                | none => .no) ρ2 H2 Q (fun c d H' => W c d σ H') := q2
              cases m6 : μ6[n0]? with
              | none => rw [m6] at q2; exact q2.elim
              | some cc =>
                rw [m6] at q2
                cases cc with
                | dK _ => exact q2.elim
                | ins _ _ => exact q2.elim
                | set _ => exact q2.elim
                | lst acc =>
                  obtain ⟨vs6, g1, g2⟩ := r6.get gA6 m6
                  by_cases hz : acc.length < sizeLine
                  · have q2 : Pd K (match (if acc.length < sizeLine then lcGo t c e d.guard n0 (wipeE env vs) (d.items.drop (i + 1)) (μ6.set n0 (.lst (acc ++ [y]))) else none) with
                      | some μ2 => R.ok (.cell n0) μ2
                      | none => .no) ρ2 H2 Q (fun c d H' => W c d σ H') := q2
                    rw [if_pos hz] at q2
                    have ew := ext_upd (K := K) ρ6 (o := .lst (vs6 ++ [yv])) (Wr.lst g1)
                    exact ⟨vs6, g1, by rw [g2.len]; exact hz, d.items.length - (i + 1), by omega, rfl, hl, _, ρ6, e26.trans ew, r6.write gA6 (Wr.lst g1) (c := .lst (acc ++ [y])) ⟨_, upd_same, (g2.ext ew).app (.cons (ry.ext ew) .nil)⟩, Pa.mono ((((e3.trans e4).trans e5).trans e6).trans ew) q2⟩
                  · have q2 : Pd K (match (if acc.length < sizeLine then lcGo t c e d.guard n0 (wipeE env vs) (d.items.drop (i + 1)) (μ6.set n0 (.lst (acc ++ [y]))) else none) with
                      | some μ2 => R.ok (.cell n0) μ2
                      | none => .no) ρ2 H2 Q (fun c d H' => W c d σ H') := q2
                    rw [if_neg hz] at q2
                    exact q2.elim
    · rw [if_neg hk] at q2
      exact q2.elim
  · have e0 : i = d.items.length := by omega
    have ex : d.items.drop i = [] := by rw [e0]; exact List.drop_length
    rw [ex] at q2
    unfold lcGo at q2
    by_cases hk : gok d.guard μ2
    · rw [if_pos hk] at q2
      exact .inl ⟨(rJ ρ2 H2 μ2 (ea.trans e2) r2 hk i).1 (by omega), Pa.ok (rel := RV K) q2 r2 (.cell (e2.get gA))⟩
    · rw [if_neg hk] at q2
      exact q2.elim
/-! ### iterables -/
def iTupD (f : F) : FI := fun env μ => (f env μ).bind fun d μ1 => match d with
  | .tup xs => .ok ⟨xs, []⟩ μ1
  | _ => .no
def iLstD (f : F) : FI := fun env μ => (f env μ).bind fun d μ1 => match d with
  | .cell n => match μ1[n]? with
    | some (.lst xs) => .ok ⟨xs, [(n, xs)]⟩ μ1
    | _ => .no
  | .scr ns => .ok ⟨ns.map .int, []⟩ μ1
  | _ => .no
def rngD (lo : Int) (n : Nat) : List D := (List.range n).map fun (i : Nat) => D.int (lo + (i : Int))
def smallR (j : Int) : Prop := -(2 ^ 62) ≤ j ∧ j < 2 ^ 62
noncomputable instance (j : Int) : Decidable (smallR j) := Classical.propDecidable _
def idxOk (i : Int) : Prop := -(2 ^ 63) ≤ i ∧ i < 2 ^ 63
noncomputable instance (i : Int) : Decidable (idxOk i) := Classical.propDecidable _
noncomputable def iRng1D (fs : FA) : FI := fun env μ => (fs env μ).bind fun ds μ1 => match ds with
  | [.int j] => if smallR j then .ok ⟨rngD 0 j.toNat, []⟩ μ1 else .no
  | _ => .no
noncomputable def iRng2D (fs : FA) : FI := fun env μ => (fs env μ).bind fun ds μ1 => match ds with
  | [.int i, .int j] => if smallR i ∧ smallR j then .ok ⟨rngD i (j - i).toNat, []⟩ μ1 else .no
  | _ => .no
theorem itr_rng {ρ : List Addr} {H : Hp} {lo : Int} {n : Nat} : ItR K ρ H (Itr lo n) ⟨rngD lo n, []⟩ := by
  intro ρ' H' μ' e r g i
  have hl : (rngD lo n).length = n := by simp [rngD]
  refine ⟨fun h => ?_, fun x hx => ⟨?_, ?_⟩⟩
  · show n ≤ i
    rw [← hl]; exact h
  · have := (List.getElem?_eq_some_iff.mp hx).1
    show i < n
    rw [← hl]; exact this
  · rintro v H2 ⟨rfl, rfl⟩
    have hi := (List.getElem?_eq_some_iff.mp hx).1
    have : (rngD lo n)[i]? = some (.int (lo + (i : Int))) := by
      rw [hl] at hi
      simp [rngD, hi]
    have hx : (rngD lo n)[i]? = some x := hx
    rw [this] at hx
    cases hx
    exact ⟨Ext.refl, r, .int _⟩
theorem tif_tup {te : TE} {f : F} (hf : TEf K W te f) : TIf K W (iTup K te) (iTupD f) := by
  intro σ H Q env μ ρ at_ h
  refine hf.go at_ h fun ρ1 H1 v d μ1 e1 a1 r1 h1 => ?_
  cases r1 with
  | @tup a vs ds hs rs =>
    refine ⟨a, rfl, ⟨vs, hs⟩, Pa.ok (rel := ItR K) h1 a1.rp ?_⟩
    intro ρ' H' μ' e r g i
    have hs' := e.tup _ _ hs
    refine ⟨fun hi => ⟨vs, hs', by rw [rs.len]; exact hi⟩, fun x hx => ?_⟩
    obtain ⟨v, h1, h2⟩ := rs.get hx
    refine ⟨⟨vs, v, hs', h1⟩, ?_⟩
    rintro v' H2 ⟨rfl, hv⟩
    have := hv vs hs'
    rw [h1] at this
    cases this
    exact ⟨Ext.refl, r, h2.ext e⟩
  | _ => exact h1.elim
theorem tif_lst {te : TE} {f : F} (hf : TEf K W te f) : TIf K W (iList K te) (iLstD f) := by
  intro σ H Q env μ ρ at_ h
  refine hf.go at_ h fun ρ1 H1 v d μ1 e1 a1 r1 h1 => ?_
  cases r1 with
  | @cell n a hn =>
    simp only at h1
    cases e : μ1[n]? with
    | none => rw [e] at h1; exact h1.elim
    | some cc =>
      rw [e] at h1
      cases cc with
      | dK _ => exact h1.elim
      | ins _ _ => exact h1.elim
      | set _ => exact h1.elim
      | lst xs =>
        obtain ⟨vs, q1, q2⟩ := a1.rp.get hn e
        refine ⟨a, rfl, ⟨vs, SqL.of q1⟩, Pa.ok (rel := ItR K) h1 a1.rp ?_⟩
        intro ρ' H' μ' e' r g i
        have gk : μ'[n]? = some (.lst xs) := g (n, xs) (List.mem_singleton.mpr rfl)
        obtain ⟨ws, w1, w2⟩ := r.get (e'.get hn) gk
        refine ⟨fun hi => ⟨ws, SqL.of w1, by rw [w2.len]; exact hi⟩, fun x hx => ?_⟩
        obtain ⟨v, h1, h2⟩ := w2.get hx
        refine ⟨⟨ws, v, SqL.of w1, h1⟩, ?_⟩
        rintro v' H2 ⟨rfl, hv⟩
        have := hv ws (SqL.of w1)
        rw [h1] at this
        cases this
        exact ⟨Ext.refl, r, h2⟩
  | @scr a ns hs =>
    refine ⟨a, rfl, ⟨_, hs.sq⟩, Pa.ok (rel := ItR K) h1 a1.rp ?_⟩
    intro ρ' H' μ' e' r g i
    have hs' := (e'.fz _ _ hs).sq
    have rs : RVs K ρ' H' (ns.map V.int) (ns.map D.int) := .ints
    refine ⟨fun hi => ⟨_, hs', by rw [rs.len]; exact hi⟩, fun x hx => ?_⟩
    obtain ⟨v, h1, h2⟩ := rs.get hx
    refine ⟨⟨_, v, hs', h1⟩, ?_⟩
    rintro v' H2 ⟨rfl, hv⟩
    have := hv _ hs'
    rw [h1] at this
    cases this
    exact ⟨Ext.refl, r, h2⟩
  | _ => exact h1.elim
theorem tif_rng1 {ta : TA} {fs : FA} (hf : TAf K W ta fs) : TIf K W (iRng1 ta) (iRng1D fs) := by
  intro σ H Q env μ ρ at_ h
  refine hf.go at_ h fun ρ1 H1 v d μ1 e1 a1 r1 h1 => ?_
  cases r1 with
  | nil => exact h1.elim
  | cons q r =>
    cases r with
    | cons _ _ => cases q <;> exact h1.elim
    | nil =>
      cases q with
      | int j =>
        have h1 : Pa K (ItR K) (if smallR j then R.ok (⟨rngD 0 j.toNat, []⟩ : ItD) μ1 else .no) ρ1 H1 Q (fun c d H' => W c d σ H') := h1
        by_cases hj : smallR j
        · rw [if_pos hj] at h1
          exact ⟨j, rfl, hj.1, hj.2, Pa.ok (rel := ItR K) h1 a1.rp itr_rng⟩
        · rw [if_neg hj] at h1
          exact h1.elim
      | _ => exact h1.elim
theorem tif_rng2 {ta : TA} {fs : FA} (hf : TAf K W ta fs) : TIf K W (iRng2 ta) (iRng2D fs) := by
  intro σ H Q env μ ρ at_ h
  refine hf.go at_ h fun ρ1 H1 v d μ1 e1 a1 r1 h1 => ?_
  cases r1 with
  | nil => exact h1.elim
  | cons q r =>
    cases r with
    | nil => cases q <;> exact h1.elim
    | cons q2 r =>
      cases r with
      | cons _ _ => cases q <;> cases q2 <;> exact h1.elim
      | nil =>
        cases q with
        | int i =>
          cases q2 with
          | int j =>
            have h1 : Pa K (ItR K) (if smallR i ∧ smallR j then R.ok (⟨rngD i (j - i).toNat, []⟩ : ItD) μ1 else .no) ρ1 H1 Q (fun c d H' => W c d σ H') := h1
            by_cases hj : smallR i ∧ smallR j
            · rw [if_pos hj] at h1
              exact ⟨i, j, rfl, ⟨hj.1.1, hj.1.2, hj.2.1, hj.2.2⟩, Pa.ok (rel := ItR K) h1 a1.rp itr_rng⟩
            · rw [if_neg hj] at h1
              exact h1.elim
          | _ => exact h1.elim
        | _ => exact h1.elim
end
end Dv

set_option maxRecDepth 100000
set_option maxHeartbeats 4000000
namespace Dv
open PySem PySem.Spec PyProof.Rows L2
/-! ### operators on values -/
def dI0 (g : Int → Int → D) : D → D → Mem → R D
  | .int i, .int j, μ => .ok (g i j) μ
  | _, _, _ => .no
def dI (C : Int → Int → Prop) [∀ i j, Decidable (C i j)] (g : Int → Int → D) : D → D → Mem → R D
  | .int i, .int j, μ => if C i j then .ok (g i j) μ else .no
  | _, _, _ => .no
noncomputable instance (i j : Int) : Decidable (CMul i j) := Classical.propDecidable _
noncomputable instance (i j : Int) : Decidable (CDivN i j) := Classical.propDecidable _
noncomputable instance (i j : Int) : Decidable (CPow i j) := Classical.propDecidable _
@[simp] theorem dI0_int {g : Int → Int → D} {i j : Int} {μ : Mem} : dI0 g (.int i) (.int j) μ = .ok (g i j) μ := rfl
theorem dI_int {C : Int → Int → Prop} [∀ i j, Decidable (C i j)] {g : Int → Int → D} {i j : Int} {μ : Mem} (h : C i j) : dI C g (.int i) (.int j) μ = .ok (g i j) μ := if_pos h
section
variable {K : KW} {W : WX}
theorem r2_I0 {gv : Int → Int → V} {gd : Int → Int → D} (h : ∀ i j ρ H, RV K ρ H (gv i j) (gd i j)) : R2f K (rI0 gv) (dI0 gd) := by
  intro x y a b μ ρ H Q E rp ra rb q
  cases ra with
  | int i =>
    cases rb with
    | int j => exact ⟨i, j, rfl, rfl, Pa.ok (rel := RV K) q rp (h _ _ _ _)⟩
    | _ => exact q.elim
  | _ => exact q.elim
theorem r2_I {C : Int → Int → Prop} [∀ i j, Decidable (C i j)] {gv : Int → Int → V} {gd : Int → Int → D} (h : ∀ i j ρ H, RV K ρ H (gv i j) (gd i j)) : R2f K (rI C gv) (dI C gd) := by
  intro x y a b μ ρ H Q E rp ra rb q
  cases ra with
  | int i =>
    cases rb with
    | int j =>
      have q : Pd K (if C i j then R.ok (gd i j) μ else .no) ρ H Q E := q
      by_cases c : C i j
      · rw [if_pos c] at q
        exact ⟨i, j, rfl, rfl, c, Pa.ok (rel := RV K) q rp (h _ _ _ _)⟩
      · rw [if_neg c] at q
        exact q.elim
    | _ => exact q.elim
  | _ => exact q.elim
abbrev dAdd := dI0 fun i j => .int (i + j)
abbrev dSub := dI0 fun i j => .int (i - j)
noncomputable abbrev dMul := dI CMul fun i j => .int (i * j)
noncomputable abbrev dFdiv := dI CDivN fun i j => .int (i.fdiv j)
noncomputable abbrev dMod := dI (fun _ j => j ≠ 0) fun i j => .int (i.fmod j)
noncomputable abbrev dPow := dI CPow fun i j => .int (i ^ j.toNat)
noncomputable abbrev dShl := dI CPow fun i j => .int (i * 2 ^ j.toNat)
abbrev dShr := dI (fun _ j => 0 ≤ j) fun i j => .int (i / 2 ^ j.toNat)
abbrev dAndB := dI0 fun i j => .int (Builtin.bitAnd i j)
abbrev dOrB := dI0 fun i j => .int (Builtin.bitOr i j)
abbrev dLt := dI0 fun i j => .bl (decide (i < j))
abbrev dLe := dI0 fun i j => .bl (decide (i ≤ j))
abbrev dGt := dI0 fun i j => .bl (decide (j < i))
abbrev dGe := dI0 fun i j => .bl (decide (j ≤ i))
theorem r_add : R2f K (rI0 fun i j => .int (i + j)) dAdd := r2_I0 fun _ _ _ _ => .int _
theorem r_sub : R2f K (rI0 fun i j => .int (i - j)) dSub := r2_I0 fun _ _ _ _ => .int _
theorem r_mul : R2f K (rI CMul fun i j => .int (i * j)) dMul := r2_I fun _ _ _ _ => .int _
theorem r_fdiv : R2f K (rI CDivN fun i j => .int (i.fdiv j)) dFdiv := r2_I fun _ _ _ _ => .int _
theorem r_mod : R2f K (rI (fun _ j => j ≠ 0) fun i j => .int (i.fmod j)) dMod := r2_I fun _ _ _ _ => .int _
theorem r_pow : R2f K (rI CPow fun i j => .int (i ^ j.toNat)) dPow := r2_I fun _ _ _ _ => .int _
theorem r_shl : R2f K (rI CPow fun i j => .int (i * 2 ^ j.toNat)) dShl := r2_I fun _ _ _ _ => .int _
theorem r_shr : R2f K (rI (fun _ j => 0 ≤ j) fun i j => .int (i / 2 ^ j.toNat)) dShr := r2_I fun _ _ _ _ => .int _
theorem r_andB : R2f K (rI0 fun i j => .int (Builtin.bitAnd i j)) dAndB := r2_I0 fun _ _ _ _ => .int _
theorem r_orB : R2f K (rI0 fun i j => .int (Builtin.bitOr i j)) dOrB := r2_I0 fun _ _ _ _ => .int _
theorem r_lt : R2f K (rI0 fun i j => .bl (decide (i < j))) dLt := r2_I0 fun _ _ _ _ => .bl _
theorem r_le : R2f K (rI0 fun i j => .bl (decide (i ≤ j))) dLe := r2_I0 fun _ _ _ _ => .bl _
theorem r_gt : R2f K (rI0 fun i j => .bl (decide (j < i))) dGt := r2_I0 fun _ _ _ _ => .bl _
theorem r_ge : R2f K (rI0 fun i j => .bl (decide (j ≤ i))) dGe := r2_I0 fun _ _ _ _ => .bl _
theorem r_iadd : RIf K (ipI fun i j => i + j) dAdd := r_add
theorem r_isub : RIf K (ipI fun i j => i - j) dSub := r_sub
def dNeg : D → Mem → R D
  | .int i, μ => .ok (.int (-i)) μ
  | _, _ => .no
theorem r_neg : R1f K (rU fun i => .int (-i)) dNeg := by
  intro x a μ ρ H Q E rp ra q
  cases ra with
  | int i => exact ⟨i, rfl, Pa.ok (rel := RV K) q rp (.int _)⟩
  | _ => exact q.elim
/-! texts -/
theorem str_all {z : Str} : PyData.canLay0 (.str z) = z.cps.all (· < 0x110000) := by
  simp only [PyData.canLay0]; rfl
theorem strV_app {x y : Str} (hx : StrV x) (hy : StrV y) (h : x.length + y.length ≤ sizeLine) : StrV (x ++ y) := by
  refine ⟨by rw [str_len, (show (x ++ y : Str).cps = x.cps ++ y.cps from rfl)]; rw [str_len, str_len] at h; simpa using h, ?_⟩
  have h1 := hx.2
  have h2 := hy.2
  rw [str_all] at *
  show (x.cps ++ y.cps).all (· < 0x110000) = true
  rw [Array.all_append, h1, h2]
  rfl
theorem strV_of {z : Str} {l : List Nat} (e : z.cps.toList = l) (n : l.length ≤ sizeLine) (h : ∀ c ∈ l, c < 0x110000) : StrV z := by
  refine ⟨by rw [str_len, e]; exact n, ?_⟩
  rw [str_all, ← Array.all_toList, e, List.all_eq_true]
  intro c hc
  exact decide_eq_true (h c hc)
theorem strV_lt {z : Str} (h : StrV z) : ∀ c ∈ z.cps.toList, c < 0x110000 := by
  have h2 := h.2
  rw [str_all, ← Array.all_toList, List.all_eq_true] at h2
  intro c hc
  exact of_decide_eq_true (h2 c hc)
def dAddS : D → D → Mem → R D
  | .str x, .str y, μ => if x.length + y.length ≤ sizeLine then .ok (.str (x ++ y)) μ else .no
  | _, _, _ => .no
theorem r_addS : R2f K (fun x y H Q => ∃ i j, x = .str i ∧ y = .str j ∧ i.length + j.length ≤ sizeLine ∧ Q (.str (i ++ j)) H) dAddS := by
  intro x y a b μ ρ H Q E rp ra rb q
  cases ra with
  | @str i hi =>
    cases rb with
    | @str j hj =>
      have q : Pd K (if i.length + j.length ≤ sizeLine then R.ok (.str (i ++ j)) μ else .no) ρ H Q E := q
      by_cases c : i.length + j.length ≤ sizeLine
      · rw [if_pos c] at q
        exact ⟨i, j, rfl, rfl, c, Pa.ok (rel := RV K) q rp (.str (strV_app hi hj c))⟩
      · rw [if_neg c] at q
        exact q.elim
    | _ => exact q.elim
  | _ => exact q.elim
/-! lists and tuples put together -/
def lstOf (μ : Mem) : D → Option (List D)
  | .cell n => match μ[n]? with
    | some (.lst xs) => some xs
    | _ => none
  | _ => none
theorem lstOf_rep {μ : Mem} {ρ : List Addr} {H : Hp} {v : V} {d : D} {xs : List D} (rp : Rep K ρ H μ) (r : RV K ρ H v d) (h : lstOf μ d = some xs) : ∃ n a vs, d = .cell n ∧ v = .ref a ∧ ρ[n]? = some a ∧ μ[n]? = some (.lst xs) ∧ H a = some (.lst vs) ∧ RVs K ρ H vs xs := by
  cases r with
  | @cell n a hn =>
    simp only [lstOf] at h
    cases e : μ[n]? with
    | none => rw [e] at h; cases h
    | some c =>
      rw [e] at h
      cases c with
      | lst ys =>
        cases h
        obtain ⟨vs, q1, q2⟩ := rp.get hn e
        exact ⟨n, a, vs, rfl, rfl, hn, e, q1, q2⟩
      | _ => cases h
  | _ => cases h
def dCatL (a b : D) (μ : Mem) : R D := match lstOf μ a, lstOf μ b with
  | some xs, some ys => if xs.length + ys.length ≤ sizeLine then .ok (.cell μ.length) (μ ++ [.lst (xs ++ ys)]) else .no
  | _, _ => .no
theorem r_catL : R2f K rCat dCatL := by
  intro x y a b μ ρ H Q E rp ra rb q
  unfold dCatL at q
  cases e1 : lstOf μ a with
  | none => rw [e1] at q; exact q.elim
  | some xs =>
    cases e2 : lstOf μ b with
    | none => rw [e1, e2] at q; exact q.elim
    | some ys =>
      rw [e1, e2] at q
      have q : Pd K (if xs.length + ys.length ≤ sizeLine then R.ok (.cell μ.length) (μ ++ [.lst (xs ++ ys)]) else .no) ρ H Q E := q
      obtain ⟨n, p, vs, rfl, rfl, hn, _, h1, h2⟩ := lstOf_rep rp ra e1
      obtain ⟨m, p2, ws, rfl, rfl, hm, _, k1, k2⟩ := lstOf_rep rp rb e2
      by_cases c : xs.length + ys.length ≤ sizeLine
      · rw [if_pos c] at q
        refine ⟨p, p2, vs, ws, rfl, rfl, h1, k1, by rw [h2.len, k2.len]; exact c, fun l hl => ?_⟩
        have ee := ext_new (K := K) ρ (o := .lst (vs ++ ws)) hl
        exact q _ _ _ ee (rp.new hl (c := .lst (xs ++ ys)) ⟨_, upd_same, (h2.app k2).ext ee⟩) (.cell (by rw [← rp.len]; simp))
      · rw [if_neg c] at q
        exact q.elim
def dCatT : D → D → Mem → R D
  | .tup xs, .tup ys, μ => if xs.length + ys.length ≤ sizeLine then .ok (.tup (xs ++ ys)) μ else .no
  | _, _, _ => .no
theorem RVs.nil_iff {ρ : List Addr} {H : Hp} {vs : List V} {ds : List D} (h : RVs K ρ H vs ds) : vs = [] ↔ ds = [] := by cases h <;> simp
theorem r_catT : R2f K (rCatA K) dCatT := by
  intro x y a b μ ρ H Q E rp ra rb q
  cases ra with
  | @tup p vs xs h1 h2 =>
    cases rb with
    | @tup p2 ws ys k1 k2 =>
      have q : Pd K (if xs.length + ys.length ≤ sizeLine then R.ok (.tup (xs ++ ys)) μ else .no) ρ H Q E := q
      by_cases c : xs.length + ys.length ≤ sizeLine
      · rw [if_pos c] at q
        refine ⟨p, p2, vs, ws, rfl, rfl, h1, k1, by rw [h2.len, k2.len]; exact c, fun z => ?_, fun z z2 => ?_, fun z z2 l hl => ?_⟩
        · rw [h2.nil_iff] at z
          subst z
          exact Pa.ok (rel := RV K) q rp (.tup k1 k2)
        · rw [k2.nil_iff] at z2
          subst z2
          rw [List.append_nil] at q
          exact Pa.ok (rel := RV K) q rp (.tup h1 h2)
        · have ee := ext_upd (K := K) ρ (o := .tup (vs ++ ws)) (Wr.none hl)
          exact q ρ _ _ ee (rp.side hl) (.tup (SqT.of upd_same) ((h2.app k2).ext ee))
      · rw [if_neg c] at q
        exact q.elim
    | _ => exact q.elim
  | _ => exact q.elim
noncomputable def dRepL (a b : D) (μ : Mem) : R D := match lstOf μ a, b with
  | some xs, .int k => if idxOk k ∧ xs.length * k.toNat ≤ sizeLine then .ok (.cell μ.length) (μ ++ [.lst (List.replicate k.toNat xs).flatten]) else .no
  | _, _ => .no
theorem RVs.rep {ρ : List Addr} {H : Hp} {vs : List V} {ds : List D} (h : RVs K ρ H vs ds) : ∀ n : Nat, RVs K ρ H (List.replicate n vs).flatten (List.replicate n ds).flatten
  | 0 => .nil
  | n + 1 => by
    rw [List.replicate_succ, List.replicate_succ, List.flatten_cons, List.flatten_cons]
    exact h.app (RVs.rep h n)
theorem r_repL : R2f K rRep dRepL := by
  intro x y a b μ ρ H Q E rp ra rb q
  unfold dRepL at q
  cases e1 : lstOf μ a with
  | none => rw [e1] at q; exact q.elim
  | some xs =>
    rw [e1] at q
    cases rb with
    | int k =>
      have q : Pd K (if idxOk k ∧ xs.length * k.toNat ≤ sizeLine then R.ok (.cell μ.length) (μ ++ [.lst (List.replicate k.toNat xs).flatten]) else .no) ρ H Q E := q
      obtain ⟨n, p, vs, rfl, rfl, hn, _, h1, h2⟩ := lstOf_rep rp ra e1
      by_cases c : idxOk k ∧ xs.length * k.toNat ≤ sizeLine
      · rw [if_pos c] at q
        refine ⟨p, k, vs, rfl, rfl, h1, c.1.1, c.1.2, by rw [h2.len]; exact c.2, fun l hl => ?_⟩
        have ee := ext_new (K := K) ρ (o := .lst (List.replicate k.toNat vs).flatten) hl
        exact q _ _ _ ee (rp.new hl (c := .lst (List.replicate k.toNat xs).flatten) ⟨_, upd_same, (h2.rep k.toNat).ext ee⟩) (.cell (by rw [← rp.len]; simp))
      · rw [if_neg c] at q
        exact q.elim
    | _ => exact q.elim
/-! None, in -/
def isNon : D → Bool
  | .non => true
  | _ => false
def dIsN : D → D → Mem → R D
  | a, .non, μ => .ok (.bl (isNon a)) μ
  | _, _, _ => .no
def dNotN : D → D → Mem → R D
  | a, .non, μ => .ok (.bl (!isNon a)) μ
  | _, _, _ => .no
theorem non_iff {ρ : List Addr} {H : Hp} {v : V} {d : D} (r : RV K ρ H v d) : decide (v = .non) = isNon d := by cases r <;> simp [isNon]
theorem r_isN : R2f K (fun x y H Q => y = .non ∧ Q (.bl (decide (x = .non))) H) dIsN := by
  intro x y a b μ ρ H Q E rp ra rb q
  cases rb with
  | non => exact ⟨rfl, by rw [non_iff ra]; exact Pa.ok (rel := RV K) q rp (.bl _)⟩
  | _ => exact q.elim
theorem r_notN : R2f K (fun x y H Q => y = .non ∧ Q (.bl (!decide (x = .non))) H) dNotN := by
  intro x y a b μ ρ H Q E rp ra rb q
  cases rb with
  | non => exact ⟨rfl, by rw [non_iff ra]; exact Pa.ok (rel := RV K) q rp (.bl _)⟩
  | _ => exact q.elim
/-- items -/
def seqOf (μ : Mem) : D → Option (List D)
  | .cell n => match μ[n]? with
    | some (.lst xs) => some xs
    | _ => none
  | .tup xs => some xs
  | .scr ns => some (ns.map .int)
  | _ => none
theorem seqOf_rep {μ : Mem} {ρ : List Addr} {H : Hp} {v : V} {d : D} {xs : List D} (rp : Rep K ρ H μ) (r : RV K ρ H v d) (h : seqOf μ d = some xs) : ∃ a vs, v = .ref a ∧ (SqL K H a vs ∨ SqT K H a vs) ∧ RVs K ρ H vs xs := by
  cases r with
  | @cell n a hn =>
    simp only [seqOf] at h
    cases e : μ[n]? with
    | none => rw [e] at h; cases h
    | some c =>
      rw [e] at h
      cases c with
      | lst ys =>
        cases h
        obtain ⟨vs, q1, q2⟩ := rp.get hn e
        exact ⟨a, vs, rfl, .inl (SqL.of q1), q2⟩
      | _ => cases h
  | @tup a vs ds h1 h2 => cases h; exact ⟨a, vs, rfl, .inr h1, h2⟩
  | @scr a ns hs => cases h; exact ⟨a, _, rfl, .inl hs.sq, .ints⟩
  | _ => cases h
def flatD : D → Bool
  | .non => true | .bl _ => true | .int _ => true | .str _ => true | _ => false
def eqF : D → D → Bool
  | .non, .non => true
  | .bl a, .bl b => a == b
  | .bl a, .int b => (if a then 1 else 0) == b
  | .int a, .bl b => a == (if b then 1 else 0)
  | .int a, .int b => a == b
  | .str a, .str b => a == b
  | _, _ => false
theorem flat_of {ρ : List Addr} {H : Hp} {v : V} {d : D} (r : RV K ρ H v d) (h : flatD d = true) : flatV v = true := by
  cases r <;> first | rfl | (exact absurd h Bool.false_ne_true)
theorem eqF_of {ρ : List Addr} {H : Hp} {v w : V} {d e : D} (r : RV K ρ H v d) (s : RV K ρ H w e) (h : flatD d = true) (k : flatD e = true) : eqV v w = eqF d e := by
  cases r <;> first | (exact absurd h Bool.false_ne_true) | (cases s <;> first | rfl | exact absurd k Bool.false_ne_true)
theorem flats_of {ρ : List Addr} {H : Hp} {vs : List V} {ds : List D} (r : RVs K ρ H vs ds) (h : ds.all flatD = true) : vs.all flatV = true := by
  induction vs generalizing ds with
  | nil => rfl
  | cons v vs ih =>
    cases r with
    | cons a b =>
      rw [List.all_cons, Bool.and_eq_true] at h
      rw [List.all_cons, flat_of a h.1, ih b h.2]
      rfl
theorem inF_of {ρ : List Addr} {H : Hp} {x : V} {d : D} {vs : List V} {ds : List D} (rx : RV K ρ H x d) (fx : flatD d = true) (r : RVs K ρ H vs ds) (h : ds.all flatD = true) : inV x vs = ds.any fun y => eqF y d := by
  unfold inV
  induction vs generalizing ds with
  | nil => cases r; rfl
  | cons v vs ih =>
    cases r with
    | cons a b =>
      rw [List.all_cons, Bool.and_eq_true] at h
      rw [List.any_cons, List.any_cons, ih b h.2, eqF_of a rx h.1 fx]
def dIn (neg : Bool) (a b : D) (μ : Mem) : R D := match seqOf μ b with
  | some xs => if flatD a = true ∧ xs.all flatD = true then .ok (.bl (if neg then !xs.any fun y => eqF y a else xs.any fun y => eqF y a)) μ else .no
  | none => .no
theorem r_in {neg : Bool} : R2f K (rIn K neg) (dIn neg) := by
  intro x y a b μ ρ H Q E rp ra rb q
  unfold dIn at q
  cases e : seqOf μ b with
  | none => rw [e] at q; exact q.elim
  | some xs =>
    rw [e] at q
    have q : Pd K (if flatD a = true ∧ xs.all flatD = true then R.ok (.bl (if neg then !xs.any fun y => eqF y a else xs.any fun y => eqF y a)) μ else .no) ρ H Q E := q
    obtain ⟨p, vs, rfl, h1, h2⟩ := seqOf_rep rp rb e
    by_cases c : flatD a = true ∧ xs.all flatD = true
    · rw [if_pos c] at q
      refine ⟨p, vs, rfl, h1, flat_of ra c.1, flats_of h2 c.2, ?_⟩
      rw [inF_of ra c.1 h2 c.2]
      exact Pa.ok (rel := RV K) q rp (.bl _)
    · rw [if_neg c] at q
      exact q.elim
/-- one sign -/
def sgn (z : Str) : Option Nat := match z.cps.toList with
  | [c] => some c
  | _ => none
theorem sgn_eq {z : Str} {c : Nat} (h : sgn z = some c) : z = ⟨#[c]⟩ := by
  unfold sgn at h
  split at h
  · rename_i c' e
    cases h
    obtain ⟨a⟩ := z
    congr
    exact Array.toList_inj.mp e
  · cases h
def dInS (neg : Bool) : D → D → Mem → R D
  | .str x, .str z, μ => match sgn x with
    | some c => .ok (.bl (if neg then !decide (c ∈ z.cps.toList) else decide (c ∈ z.cps.toList))) μ
    | none => .no
  | _, _, _ => .no
theorem r_inS : R2f K (fun x y H Q => ∃ (c : Nat) (z : Str), x = .str ⟨#[c]⟩ ∧ y = .str z ∧ Q (.bl (decide (c ∈ z.cps.toList))) H) (dInS false) := by
  intro x y a b μ ρ H Q E rp ra rb q
  cases ra with
  | @str i hi =>
    cases rb with
    | @str j hj =>
      simp only [dInS] at q
      cases e : sgn i with
      | none => rw [e] at q; exact q.elim
      | some c =>
        rw [e] at q
        exact ⟨c, j, by rw [sgn_eq e], rfl, Pa.ok (rel := RV K) q rp (.bl _)⟩
    | _ => exact q.elim
  | _ => exact q.elim
theorem r_notInS : R2f K (fun x y H Q => ∃ (c : Nat) (z : Str), x = .str ⟨#[c]⟩ ∧ y = .str z ∧ Q (.bl (!decide (c ∈ z.cps.toList))) H) (dInS true) := by
  intro x y a b μ ρ H Q E rp ra rb q
  cases ra with
  | @str i hi =>
    cases rb with
    | @str j hj =>
      simp only [dInS] at q
      cases e : sgn i with
      | none => rw [e] at q; exact q.elim
      | some c =>
        rw [e] at q
        exact ⟨c, j, by rw [sgn_eq e], rfl, Pa.ok (rel := RV K) q rp (.bl _)⟩
    | _ => exact q.elim
  | _ => exact q.elim
/-! == of all kinds -/
def mapO {α β : Type} (f : α → Option β) : List α → Option (List β)
  | [] => some []
  | x :: xs => (f x).bind fun y => (mapO f xs).map fun ys => y :: ys
@[simp] theorem mapO_nil {α β : Type} {f : α → Option β} : mapO f [] = some [] := rfl
@[simp] theorem mapO_cons {α β : Type} {f : α → Option β} {x : α} {xs : List α} : mapO f (x :: xs) = (f x).bind fun y => (mapO f xs).map fun ys => y :: ys := rfl
def pyD (μ : Mem) : Nat → D → Option PyData
  | 0 => fun d => match d with
    | .non => some .none
    | .bl b => some (.bool b)
    | .int i => some (.int i)
    | .str z => some (.str z)
    | _ => none
  | n + 1 => fun d => match d with
    | .non => some .none
    | .bl b => some (.bool b)
    | .int i => some (.int i)
    | .str z => some (.str z)
    | .tup xs => (mapO (pyD μ n) xs).map .tuple
    | .cell k => match μ[k]? with
      | some (.lst xs) => (mapO (pyD μ n) xs).map .list
      | _ => none
    | .scr ns => some (.list (ns.map .int))
    | _ => none
@[simp] theorem pyD_non {μ : Mem} {n : Nat} : pyD μ n .non = some .none := by cases n <;> rfl
@[simp] theorem pyD_bl {μ : Mem} {n : Nat} {b : Bool} : pyD μ n (.bl b) = some (.bool b) := by cases n <;> rfl
@[simp] theorem pyD_int {μ : Mem} {n : Nat} {i : Int} : pyD μ n (.int i) = some (.int i) := by cases n <;> rfl
@[simp] theorem pyD_str {μ : Mem} {n : Nat} {z : Str} : pyD μ n (.str z) = some (.str z) := by cases n <;> rfl
@[simp] theorem pyD_tup {μ : Mem} {n : Nat} {xs : List D} : pyD μ (n + 1) (.tup xs) = (mapO (pyD μ n) xs).map .tuple := rfl
theorem mapO_rep {μ : Mem} {n : Nat} {ρ : List Addr} {H : Hp} (ih : ∀ {v : V} {d : D} {p : PyData}, RV K ρ H v d → pyD μ n d = some p → Dp K H v p ∧ p.canLay0 = true ∧ p.depth ≤ n) :
    ∀ {vs : List V} {ds : List D} {ps : List PyData}, RVs K ρ H vs ds → mapO (pyD μ n) ds = some ps → DpAll K H vs ps ∧ PyData.canLayAll0 ps = true ∧ PyData.depthAll ps ≤ n := by
  intro vs ds ps r
  induction vs generalizing ds ps with
  | nil =>
    cases r
    intro e
    cases e
    exact ⟨.nil, by simp only [PyData.canLayAll0], by simp only [PyData.depthAll]; omega⟩
  | cons v vs ihl =>
    cases r with
    | @cons _ d _ ds a b =>
      intro e
      rw [mapO_cons] at e
      cases e1 : pyD μ n d with
      | none => rw [e1] at e; cases e
      | some p =>
        cases e2 : mapO (pyD μ n) ds with
        | none => rw [e1, e2] at e; cases e
        | some qs =>
          rw [e1, e2] at e
          cases e
          obtain ⟨a1, a2, a3⟩ := ih a e1
          obtain ⟨b1, b2, b3⟩ := ihl b e2
          exact ⟨.cons a1 b1, by simp only [PyData.canLayAll0, a2, b2]; rfl, by simp only [PyData.depthAll]; omega⟩
theorem dp_ints {H : Hp} : ∀ ns : List Int, DpAll K H (ns.map V.int) (ns.map PyData.int)
  | [] => .nil
  | n :: ns => .cons (.int n) (dp_ints ns)
theorem lay_ints : ∀ ns : List Int, PyData.canLayAll0 (ns.map PyData.int) = true
  | [] => by simp only [List.map_nil, PyData.canLayAll0]
  | n :: ns => by simp only [List.map_cons, PyData.canLayAll0, PyData.canLay0, lay_ints ns]; rfl
theorem depth_ints : ∀ ns : List Int, PyData.depthAll (ns.map PyData.int) = 0
  | [] => by simp only [List.map_nil, PyData.depthAll]
  | n :: ns => by simp only [List.map_cons, PyData.depthAll, PyData.depth, depth_ints ns]; rfl
theorem pyD_rep {μ : Mem} {ρ : List Addr} {H : Hp} (rp : Rep K ρ H μ) : ∀ {n : Nat} {v : V} {d : D} {p : PyData}, RV K ρ H v d → pyD μ n d = some p → Dp K H v p ∧ p.canLay0 = true ∧ p.depth ≤ n := by
  intro n
  induction n with
  | zero =>
    intro v d p r e
    cases r <;> first
      | (cases e; exact ⟨.non, by simp only [PyData.canLay0], by simp only [PyData.depth]; omega⟩)
      | (cases e; exact ⟨.bl _, by simp only [PyData.canLay0], by simp only [PyData.depth]; omega⟩)
      | (cases e; exact ⟨.int _, by simp only [PyData.canLay0], by simp only [PyData.depth]; omega⟩)
      | (cases e; rename_i z h; exact ⟨.str _, h.2, by simp only [PyData.depth]; omega⟩)
      | cases e
  | succ n ih =>
    intro v d p r e
    cases r with
    | non => cases e; exact ⟨.non, by simp only [PyData.canLay0], by simp only [PyData.depth]; omega⟩
    | bl b => cases e; exact ⟨.bl _, by simp only [PyData.canLay0], by simp only [PyData.depth]; omega⟩
    | int i => cases e; exact ⟨.int _, by simp only [PyData.canLay0], by simp only [PyData.depth]; omega⟩
    | str h => cases e; exact ⟨.str _, h.2, by simp only [PyData.depth]; omega⟩
    | ty _ => cases e
    | cref _ => cases e
    | scr hs => cases e; exact ⟨.lst hs.sq (dp_ints _), by simp only [PyData.canLay0, lay_ints], by simp only [PyData.depth, depth_ints]; omega⟩
    | @tup a vs ds h1 h2 =>
      rw [pyD_tup] at e
      cases e2 : mapO (pyD μ n) ds with
      | none => rw [e2] at e; cases e
      | some ps =>
        rw [e2] at e
        cases e
        obtain ⟨b1, b2, b3⟩ := mapO_rep ih h2 e2
        exact ⟨.tup h1 b1, by simp only [PyData.canLay0, b2], by simp only [PyData.depth]; omega⟩
    | @cell k a hk =>
      have e : (match μ[k]? with
        | some (.lst xs) => (mapO (pyD μ n) xs).map .list
        | _ => none) = some p := e
      cases m : μ[k]? with
      | none => rw [m] at e; cases e
      | some c =>
        rw [m] at e
        cases c with
        | dK _ => cases e
        | ins _ _ => cases e
        | set _ => cases e
        | lst xs =>
          obtain ⟨vs, q1, q2⟩ := rp.get hk m
          cases e2 : mapO (pyD μ n) xs with
          | none => simp only [e2] at e; cases e
          | some ps =>
            simp only [e2] at e
            cases e
            obtain ⟨b1, b2, b3⟩ := mapO_rep ih q2 e2
            exact ⟨.lst (SqL.of q1) b1, by simp only [PyData.canLay0, b2], by simp only [PyData.depth]; omega⟩
def dEq (a b : D) (μ : Mem) : R D := match pyD μ 64 a, pyD μ 64 b with
  | some p, some q => .ok (.bl (PyData.eqv p q)) μ
  | _, _ => .no
def dNe (a b : D) (μ : Mem) : R D := match pyD μ 64 a, pyD μ 64 b with
  | some p, some q => .ok (.bl (!PyData.eqv p q)) μ
  | _, _ => .no
theorem shaped_of {p : PyData} (h1 : p.canLay0 = true) (h2 : p.depth ≤ 64) : SeqAt.shaped p = true := by
  unfold SeqAt.shaped
  rw [h1, decide_eq_true h2]
  rfl
theorem r_eq : R2f K (rEqD K) dEq := by
  intro x y a b μ ρ H Q E rp ra rb q
  unfold dEq at q
  cases e1 : pyD μ 64 a with
  | none => rw [e1] at q; exact q.elim
  | some p1 =>
    cases e2 : pyD μ 64 b with
    | none => rw [e1, e2] at q; exact q.elim
    | some p2 =>
      rw [e1, e2] at q
      obtain ⟨a1, a2, a3⟩ := pyD_rep rp ra e1
      obtain ⟨b1, b2, b3⟩ := pyD_rep rp rb e2
      exact ⟨p1, p2, a1, b1, shaped_of a2 a3, shaped_of b2 b3, Pa.ok (rel := RV K) q rp (.bl _)⟩
theorem r_ne : R2f K (rNeD K) dNe := by
  intro x y a b μ ρ H Q E rp ra rb q
  unfold dNe at q
  cases e1 : pyD μ 64 a with
  | none => rw [e1] at q; exact q.elim
  | some p1 =>
    cases e2 : pyD μ 64 b with
    | none => rw [e1, e2] at q; exact q.elim
    | some p2 =>
      rw [e1, e2] at q
      obtain ⟨a1, a2, a3⟩ := pyD_rep rp ra e1
      obtain ⟨b1, b2, b3⟩ := pyD_rep rp rb e2
      exact ⟨p1, p2, a1, b1, shaped_of a2 a3, shaped_of b2 b3, Pa.ok (rel := RV K) q rp (.bl _)⟩
@[simp] theorem eqv_ii {i j : Int} : PyData.eqv (.int i) (.int j) = decide (i = j) := by simp only [PyData.eqv]; rw [Bool.eq_iff_iff]; simp
@[simp] theorem eqv_ss {i j : Str} : PyData.eqv (.str i) (.str j) = decide (i = j) := by simp only [PyData.eqv]; rw [Bool.eq_iff_iff]; simp
@[simp] theorem eqv_bb {i j : Bool} : PyData.eqv (.bool i) (.bool j) = (i == j) := by simp only [PyData.eqv]
@[simp] theorem eqv_nn : PyData.eqv .none .none = true := by simp only [PyData.eqv]
@[simp] theorem eqv_bi {i : Bool} {j : Int} : PyData.eqv (.bool i) (.int j) = ((if i then 1 else 0) == j) := by simp only [PyData.eqv]
@[simp] theorem eqv_ib {i : Int} {j : Bool} : PyData.eqv (.int i) (.bool j) = (i == (if j then 1 else 0)) := by simp only [PyData.eqv]
@[simp] theorem eqv_ns {j : Str} : PyData.eqv .none (.str j) = false := by simp only [PyData.eqv]
@[simp] theorem eqv_sn {j : Str} : PyData.eqv (.str j) .none = false := by simp only [PyData.eqv]
@[simp] theorem eqv_ni {j : Int} : PyData.eqv .none (.int j) = false := by simp only [PyData.eqv]
@[simp] theorem eqv_in {j : Int} : PyData.eqv (.int j) .none = false := by simp only [PyData.eqv]
@[simp] theorem eqv_is {i : Int} {j : Str} : PyData.eqv (.int i) (.str j) = false := by simp only [PyData.eqv]
@[simp] theorem eqv_si {i : Int} {j : Str} : PyData.eqv (.str j) (.int i) = false := by simp only [PyData.eqv]
@[simp] theorem eqv_bs {i : Bool} {j : Str} : PyData.eqv (.bool i) (.str j) = false := by simp only [PyData.eqv]
@[simp] theorem eqv_sb {i : Bool} {j : Str} : PyData.eqv (.str j) (.bool i) = false := by simp only [PyData.eqv]
@[simp] theorem eqv_tt {xs ys : List PyData} : PyData.eqv (.tuple xs) (.tuple ys) = PyData.eqvAll xs ys := by simp only [PyData.eqv]
@[simp] theorem eqv_ll {xs ys : List PyData} : PyData.eqv (.list xs) (.list ys) = PyData.eqvAll xs ys := by simp only [PyData.eqv]
@[simp] theorem eqvAll_nil : PyData.eqvAll [] [] = true := by simp only [PyData.eqvAll]
@[simp] theorem eqvAll_cons {x y : PyData} {xs ys : List PyData} : PyData.eqvAll (x :: xs) (y :: ys) = (PyData.eqv x y && PyData.eqvAll xs ys) := by simp only [PyData.eqvAll]
@[simp] theorem eqvAll_nc {y : PyData} {ys : List PyData} : PyData.eqvAll [] (y :: ys) = false := by simp only [PyData.eqvAll]
@[simp] theorem eqvAll_cn {y : PyData} {ys : List PyData} : PyData.eqvAll (y :: ys) [] = false := by simp only [PyData.eqvAll]
/-! parts -/
def ixD (a b : D) (μ : Mem) : R D := match b with
  | .int i => match a with
    | .str z => match atI z.cps.toList i with
      | some c => .ok (.str ⟨#[c]⟩) μ
      | none => .no
    | a => match seqOf μ a with
      | some xs => match atI xs i with
        | some d => .ok d μ
        | none => .no
      | none => .no
  | _ => .no
theorem atI_rv {ρ : List Addr} {H : Hp} {vs : List V} {ds : List D} (r : RVs K ρ H vs ds) {i : Int} {d : D} (h : atI ds i = some d) : ∃ v, atI vs i = some v ∧ RV K ρ H v d := by
  unfold atI at h ⊢
  rw [r.len]
  cases e : ixN ds.length i with
  | none => rw [e] at h; cases h
  | some j =>
    rw [e] at h
    exact r.get h
theorem r_ix : R2f K (rIx K) ixD := by
  intro x y a b μ ρ H Q E rp ra rb q
  cases rb with
  | int i =>
    have seqs : ∀ {xs : List D}, seqOf μ a = some xs → Pd K (match atI xs i with
        | some d => R.ok d μ
        | none => .no) ρ H Q E → rIx K x (.int i) H Q := fun {xs} e q => by
      obtain ⟨p, vs, rfl, h1, h2⟩ := seqOf_rep rp ra e
      cases e2 : atI xs i with
      | none => rw [e2] at q; exact q.elim
      | some d =>
        rw [e2] at q
        obtain ⟨v, w1, w2⟩ := atI_rv h2 e2
        have fin := Pa.ok (rel := RV K) q rp w2
        rcases h1 with h1 | h1
        · exact .inl ⟨p, vs, i, v, rfl, rfl, h1, w1, fin⟩
        · exact .inr (.inl ⟨p, vs, i, v, rfl, rfl, h1, w1, fin⟩)
    cases ra with
    | @str z hz =>
      have q : Pd K (match atI z.cps.toList i with
        | some c => R.ok (.str ⟨#[c]⟩) μ
        | none => .no) ρ H Q E := q
      cases e : atI z.cps.toList i with
      | none => rw [e] at q; exact q.elim
      | some c =>
        rw [e] at q
        refine .inr (.inr ⟨z, i, c, rfl, rfl, hz.1, e, Pa.ok (rel := RV K) q rp (.str ?_)⟩)
        refine strV_of (l := [c]) rfl (show 1 ≤ sizeLine by decide) fun c' hc => ?_
        rw [List.mem_singleton.mp hc]
        refine strV_lt hz c ?_
        unfold atI at e
        cases e3 : ixN z.cps.toList.length i with
        | none => rw [e3] at e; cases e
        | some j => rw [e3] at e; exact List.mem_of_getElem? e
    | @tup p vs xs h1 h2 => exact seqs (xs := xs) rfl q
    | @cell n p hn =>
      have q : Pd K (match seqOf μ (.cell n) with
        | some xs => match atI xs i with
          | some d => R.ok d μ
          | none => .no
        | none => .no) ρ H Q E := q
      cases e : seqOf μ (.cell n) with
      | none => rw [e] at q; exact q.elim
      | some xs => rw [e] at q; exact seqs e q
    | @scr p ns hs => exact seqs (xs := ns.map .int) rfl q
    | non => exact q.elim
    | bl _ => exact q.elim
    | int _ => exact q.elim
    | ty _ => exact q.elim
    | cref _ => exact q.elim
  | _ => exact q.elim
def cutD (xs : List D) (lo hi : Option Int) : List D := (xs.drop (HT.sIx xs.length 0 lo)).take (HT.sIx xs.length xs.length hi - HT.sIx xs.length 0 lo)
theorem cut_rv {ρ : List Addr} {H : Hp} {vs : List V} {ds : List D} (r : RVs K ρ H vs ds) (lo hi : Option Int) : RVs K ρ H (cutV vs lo hi) (cutD ds lo hi) := by
  unfold cutV cutD
  rw [r.len]
  exact (r.drop _).take _
def slL (a : D) (lo hi : Option Int) (μ : Mem) : R D := match a with
  | .tup _ => .no
  | a => match seqOf μ a with
    | some xs => .ok (.cell μ.length) (μ ++ [.lst (cutD xs lo hi)])
    | none => .no
theorem rs_list : RSf K (rSlL K) slL := by
  intro x a lo hi μ ρ H Q E rp ra q
  have go : ∀ {p : Addr} {vs : List V} {xs : List D}, x = .ref p → SqL K H p vs → RVs K ρ H vs xs → Pd K (R.ok (.cell μ.length) (μ ++ [.lst (cutD xs lo hi)])) ρ H Q E → rSlL K x lo hi H Q := fun {p vs xs} e h1 h2 q =>
    ⟨p, vs, e, h1, fun l hl => by
      have ee := ext_new (K := K) ρ (o := .lst (cutV vs lo hi)) hl
      exact q _ _ _ ee (rp.new hl (c := .lst (cutD xs lo hi)) ⟨_, upd_same, (cut_rv h2 lo hi).ext ee⟩) (.cell (by rw [← rp.len]; simp))⟩
  cases ra with
  | @cell n p hn =>
    have q : Pd K (match seqOf μ (.cell n) with
      | some xs => R.ok (.cell μ.length) (μ ++ [.lst (cutD xs lo hi)])
      | none => .no) ρ H Q E := q
    cases e : seqOf μ (.cell n) with
    | none => rw [e] at q; exact q.elim
    | some xs =>
      rw [e] at q
      obtain ⟨n', p', vs, e1, e2, _, _, h1, h2⟩ := lstOf_rep rp (RV.cell hn) (show lstOf μ (.cell n) = some xs from e)
      cases e2
      exact go rfl (SqL.of h1) h2 q
  | @scr p ns hs => exact go rfl hs.sq .ints q
  | _ => exact q.elim
def slT : D → Option Int → Option Int → Mem → R D
  | .tup xs, lo, hi, μ => .ok (.tup (cutD xs lo hi)) μ
  | _, _, _, _ => .no
theorem rs_tup : RSf K (rSlA K) slT := by
  intro x a lo hi μ ρ H Q E rp ra q
  cases ra with
  | @tup p vs xs h1 h2 =>
    refine ⟨p, vs, rfl, h1, fun w => ?_, fun _ l hl => ?_⟩
    · have e : cutD xs lo hi = xs := by
        unfold cutD
        rw [h2.len] at w
        rw [w.1, w.2]
        simp
      have q : Pd K (R.ok (.tup (cutD xs lo hi)) μ) ρ H Q E := q
      rw [e] at q
      exact Pa.ok (rel := RV K) q rp (.tup h1 h2)
    · have ee := ext_upd (K := K) ρ (o := .tup (cutV vs lo hi)) (Wr.none hl)
      exact q ρ _ _ ee (rp.side hl) (.tup (SqT.of upd_same) ((cut_rv h2 lo hi).ext ee))
  | _ => exact q.elim
def slS : D → Option Int → Option Int → Mem → R D
  | .str z, lo, hi, μ => .ok (.str (cutS z lo hi)) μ
  | _, _, _, _ => .no
theorem rs_str : RSf K rSlS slS := by
  intro x a lo hi μ ρ H Q E rp ra q
  cases ra with
  | @str z hz =>
    refine ⟨z, rfl, hz.1, Pa.ok (rel := RV K) q rp (.str ⟨Nat.le_trans (cutS_length _ _ _) hz.1, ?_⟩)⟩
    rw [str_all, ← Array.all_toList, List.all_eq_true]
    intro c hc
    refine decide_eq_true (strV_lt hz c ?_)
    unfold cutS at hc
    simp at hc
    first
      | exact List.mem_of_mem_drop (List.mem_of_mem_take hc)
      | exact List.mem_of_mem_take (List.mem_of_mem_drop hc)
  | _ => exact q.elim
end
end Dv

set_option maxRecDepth 100000
set_option maxHeartbeats 4000000
namespace Dv
open PySem PySem.Spec PyProof.Rows L2
section
variable {X : Cx}
theorem foldl_dat : ∀ (r : List Int) (n : Int), PySem.W.maxOf n r = r.foldl (fun a y => if a < y then y else a) n := by
  intro r
  induction r with
  | nil => intro n; rfl
  | cons y r ih =>
    intro n
    have e : PySem.W.maxOf n (y :: r) = PySem.W.maxOf (if n < y then y else n) r := by
      unfold PySem.W.maxOf
      rw [List.foldl_cons]
      congr 1
      show (if decide (n < y) = true then y else n) = if n < y then y else n
      by_cases h : n < y
      · rw [if_pos h, if_pos (decide_eq_true h)]
      · rw [if_neg h, if_neg (by rw [decide_eq_false h]; decide)]
    rw [e, ih, List.foldl_cons]
/-- the greatest one -/
def maxI : List Int → Option Int
  | [] => none
  | n :: r => some (r.foldl (fun a y => if a < y then y else a) n)
theorem foldl_up : ∀ (r : List Int) (n : Int), n ≤ r.foldl (fun a y => if a < y then y else a) n ∧ (∀ y ∈ r, y ≤ r.foldl (fun a y => if a < y then y else a) n) ∧ (r.foldl (fun a y => if a < y then y else a) n = n ∨ r.foldl (fun a y => if a < y then y else a) n ∈ r) := by
  intro r
  induction r with
  | nil => intro n; exact ⟨Int.le_refl _, fun y h => (nomatch h), .inl rfl⟩
  | cons z r ih =>
    intro n
    rw [List.foldl_cons]
    obtain ⟨h1, h2, h3⟩ := ih (if n < z then z else n)
    have a1 : n ≤ (if n < z then z else n) := by split <;> omega
    have a2 : z ≤ (if n < z then z else n) := by split <;> omega
    refine ⟨Int.le_trans a1 h1, fun y hy => ?_, ?_⟩
    · rcases List.mem_cons.mp hy with rfl | hy
      · exact Int.le_trans a2 h1
      · exact h2 y hy
    · rcases h3 with h3 | h3
      · rw [h3]
        split
        · exact .inr List.mem_cons_self
        · exact .inl rfl
      · exact .inr (List.mem_cons_of_mem _ h3)
theorem maxI_spec {ns : List Int} {m : Int} (h : maxI ns = some m) : m ∈ ns ∧ ∀ y ∈ ns, y ≤ m := by
  cases ns with
  | nil => cases h
  | cons n r =>
    cases h
    obtain ⟨h1, h2, h3⟩ := foldl_up r n
    refine ⟨?_, fun y hy => ?_⟩
    · rcases h3 with h3 | h3
      · rw [h3]; exact List.mem_cons_self
      · exact List.mem_cons_of_mem _ h3
    · rcases List.mem_cons.mp hy with rfl | hy
      · exact h1
      · exact h2 y hy
theorem maxI_some {ns : List Int} (h : 0 < ns.length) : ∃ m, maxI ns = some m := by
  cases ns with
  | nil => simp at h
  | cons n r => exact ⟨_, rfl⟩
theorem maxI_eq {ns : List Int} {m : Int} (h : m ∈ ns) (k : ∀ y ∈ ns, y ≤ m) : maxI ns = some m := by
  obtain ⟨x, e⟩ := maxI_some (ns := ns) (List.length_pos_of_mem h)
  obtain ⟨a, b⟩ := maxI_spec e
  have := k x a
  have := b m h
  rw [e, show x = m by omega]
/-- max of a tuple of ints -/
def rMaxU (K : PySem.W.Frag) : List V → Hp → VK → Prop := fun vs H Q => ∃ (a : Addr) (ns : List Int) (m : Int), vs = [V.ref a] ∧ SqT K H a (ns.map V.int) ∧ maxI ns = some m ∧ Q (.int m) H
theorem cr_maxU (hc : X.calm = true) (hu : X.A.units + 64 < cLine) : CallR X (.builtin "max") (rMaxU X.K) := by
  intro pins s σ H vs us Q I r h
  obtain ⟨a, ns, m, rfl, hs, em, q⟩ := h
  obtain ⟨its, rv, hl, _⟩ := I.tuple hs
  rw [Vals.ref1 r]
  cases ns with
  | nil => cases em
  | cons n ns =>
    cases em
    refine PySem.W.max_tuple_datum (α := Int) (x := n) (xs := ns) (I.ok.hd hc) hl (PySem.W.HoldAll.of_ints (by simpa using rv.ints)) (by show X.A.units + 1 + 0 < cLine; omega) fun i v h' tk hi hv hk => ?_
    rw [foldl_dat] at hv
    obtain ⟨as, rd⟩ := hv
    cases rd with
    | int i t => exact ⟨.int _, H, I.kept hk, ⟨_, rfl⟩, q⟩
/-! ### built-in functions on values -/
variable {K : KW} {W : WX}
def lenD : D → Mem → R D
  | .str z, μ => .ok (.int (z.length : Int)) μ
  | d, μ => match seqOf μ d with
    | some xs => .ok (.int (xs.length : Int)) μ
    | none => .no
def dLen : List D → Mem → R D
  | [d], μ => lenD d μ
  | _, _ => .no
theorem len1 {ρ : List Addr} {H : Hp} {xs : List V} {d : D} (r : RVs K ρ H xs [d]) : ∃ x, xs = [x] ∧ RV K ρ H x d := by
  cases r with
  | cons a b => cases b; exact ⟨_, rfl, a⟩
theorem rl_len : RLf K (fun xs H Q => ∃ x n, xs = [x] ∧ LenV K x H n ∧ Q (.int n) H) dLen := by
  intro xs ds μ ρ H Q E rp r q
  match ds, r, q with
  | [d], r, q =>
    obtain ⟨x, rfl, rx⟩ := len1 r
    have seqs : ∀ {ys : List D}, seqOf μ d = some ys → Pd K (R.ok (.int (ys.length : Int)) μ) ρ H Q E → ∃ x' n, [x] = [x'] ∧ LenV K x' H n ∧ Q (.int n) H := fun {ys} e q => by
      obtain ⟨p, vs, rfl, h1, h2⟩ := seqOf_rep rp rx e
      refine ⟨.ref p, ys.length, rfl, ?_, Pa.ok (rel := RV K) q rp (.int _)⟩
      rcases h1 with h1 | h1
      · exact .inl ⟨vs, h1, h2.len.symm⟩
      · exact .inr ⟨vs, h1, h2.len.symm⟩
    cases rx with
    | @str z hz => exact ⟨.str z, z.length, rfl, ⟨hz.1, rfl⟩, Pa.ok (rel := RV K) (d := .int (z.length : Int)) q rp (.int _)⟩
    | @tup a vs es h1 h2 => exact seqs (ys := es) rfl q
    | @scr a ns hs => exact seqs (ys := ns.map .int) rfl q
    | @cell n a hn =>
      have q : Pd K (match seqOf μ (.cell n) with
        | some xs => R.ok (.int (xs.length : Int)) μ
        | none => .no) ρ H Q E := q
      cases e : seqOf μ (.cell n) with
      | none => rw [e] at q; exact q.elim
      | some ys => rw [e] at q; exact seqs e q
    | _ => exact q.elim
  | [], r, q => exact q.elim
  | _ :: _ :: _, r, q => exact q.elim
/-- ints alone -/
def intsOf : List D → Option (List Int)
  | [] => some []
  | .int i :: r => (intsOf r).map fun ns => i :: ns
  | _ :: _ => none
theorem intsOf_eq : ∀ {ds : List D} {ns : List Int}, intsOf ds = some ns → ds = ns.map .int
  | [], _, h => by cases h; rfl
  | .int i :: r, _, h => by
    simp only [intsOf] at h
    cases e : intsOf r with
    | none => rw [e] at h; cases h
    | some ms => rw [e] at h; cases h; rw [intsOf_eq e]; rfl
  | .non :: _, _, h => nomatch h
  | .bl _ :: _, _, h => nomatch h
  | .str _ :: _, _, h => nomatch h
  | .tup _ :: _, _, h => nomatch h
  | .cell _ :: _, _, h => nomatch h
  | .scr _ :: _, _, h => nomatch h
  | .ty _ :: _, _, h => nomatch h
  | .cref _ :: _, _, h => nomatch h
@[simp] theorem intsOf_map : ∀ ns : List Int, intsOf (ns.map .int) = some ns
  | [] => rfl
  | n :: ns => by simp only [List.map_cons, intsOf, intsOf_map ns]; rfl
def maxTD : D → Mem → R D
  | .tup xs, μ => match (intsOf xs).bind maxI with
    | some m => .ok (.int m) μ
    | none => .no
  | _, _ => .no
def dMaxT : List D → Mem → R D
  | [d], μ => maxTD d μ
  | _, _ => .no
theorem rl_maxT : RLf K (rMaxU K) dMaxT := by
  intro xs ds μ ρ H Q E rp r q
  match ds, r, q with
  | [d], r, q =>
    obtain ⟨x, rfl, rx⟩ := len1 r
    cases rx with
    | @tup a vs es h1 h2 =>
      simp only [dMaxT, maxTD] at q
      cases e : intsOf es with
      | none => rw [e] at q; exact q.elim
      | some ns =>
        rw [e] at q
        have := intsOf_eq e
        subst this
        have ev := h2.intsV
        subst ev
        cases em : maxI ns with
        | none => simp only [Option.bind_some, em] at q; exact q.elim
        | some m =>
          simp only [Option.bind_some, em] at q
          exact ⟨a, ns, m, rfl, h1, em, Pa.ok (rel := RV K) q rp (.int _)⟩
    | _ => exact q.elim
  | [], _, q => exact q.elim
  | _ :: _ :: _, _, q => exact q.elim
/-- from a list of ints -/
def onInts (k : List Int → Mem → R D) : List D → Mem → R D
  | [d], μ => match lstOf μ d with
    | some xs => match intsOf xs with
      | some ns => k ns μ
      | none => .no
    | none => .no
  | _, _ => .no
theorem onInts_rep {k : List Int → Mem → R D} {xs : List V} {ds : List D} {μ : Mem} {ρ : List Addr} {H : Hp} {Q : VK} {E : XK} (rp : Rep K ρ H μ) (r : RVs K ρ H xs ds) (q : Pd K (onInts k ds μ) ρ H Q E) :
    ∃ a ns, xs = [.ref a] ∧ H a = some (.lst (ns.map V.int)) ∧ Pd K (k ns μ) ρ H Q E := by
  match ds, r, q with
  | [d], r, q =>
    obtain ⟨x, rfl, rx⟩ := len1 r
    simp only [onInts] at q
    cases e : lstOf μ d with
    | none => rw [e] at q; exact q.elim
    | some ys =>
      simp only [e] at q
      obtain ⟨n, a, vs, rfl, rfl, _, _, h1, h2⟩ := lstOf_rep rp rx e
      cases e2 : intsOf ys with
      | none => simp only [e2] at q; exact q.elim
      | some ns =>
        simp only [e2] at q
        have := intsOf_eq e2
        subst this
        have ev := h2.intsV
        subst ev
        exact ⟨a, ns, rfl, h1, q⟩
  | [], _, q => exact q.elim
  | _ :: _ :: _, _, q => exact q.elim
def dMaxL : List D → Mem → R D := onInts fun ns μ => match maxI ns with
  | some m => .ok (.int m) μ
  | none => .no
theorem rl_maxL : RLf K (rMax K) dMaxL := by
  intro xs ds μ ρ H Q E rp r q
  obtain ⟨a, ns, rfl, h1, q⟩ := onInts_rep rp r q
  cases em : maxI ns with
  | none => simp only [em] at q; exact q.elim
  | some m =>
    simp only [em] at q
    obtain ⟨m1, m2⟩ := maxI_spec em
    refine ⟨a, ns, rfl, SqL.of h1, List.length_pos_of_mem m1, fun z z1 z2 => ?_⟩
    have e1 := z2 m m1
    have e2 := m2 z z1
    rw [show z = m by omega]
    exact Pa.ok (rel := RV K) q rp (.int _)
def dSum : List D → Mem → R D := onInts fun ns μ => .ok (.int ns.sum) μ
theorem rl_sum : RLf K (rSum K) dSum := by
  intro xs ds μ ρ H Q E rp r q
  obtain ⟨a, ns, rfl, h1, q⟩ := onInts_rep rp r q
  exact ⟨a, ns, rfl, SqL.of h1, Pa.ok (rel := RV K) q rp (.int _)⟩
def blsOf : List D → Option (List Bool)
  | [] => some []
  | .bl b :: r => (blsOf r).map fun bs => b :: bs
  | _ :: _ => none
theorem blsOf_eq : ∀ {ds : List D} {bs : List Bool}, blsOf ds = some bs → ds = bs.map .bl
  | [], _, h => by cases h; rfl
  | .bl i :: r, _, h => by
    simp only [blsOf] at h
    cases e : blsOf r with
    | none => rw [e] at h; cases h
    | some ms => rw [e] at h; cases h; rw [blsOf_eq e]; rfl
  | .non :: _, _, h => nomatch h
  | .int _ :: _, _, h => nomatch h
  | .str _ :: _, _, h => nomatch h
  | .tup _ :: _, _, h => nomatch h
  | .cell _ :: _, _, h => nomatch h
  | .scr _ :: _, _, h => nomatch h
  | .ty _ :: _, _, h => nomatch h
  | .cref _ :: _, _, h => nomatch h
@[simp] theorem blsOf_map : ∀ bs : List Bool, blsOf (bs.map .bl) = some bs
  | [] => rfl
  | n :: ns => by simp only [List.map_cons, blsOf, blsOf_map ns]; rfl
def dAll : List D → Mem → R D
  | [d], μ => match lstOf μ d with
    | some xs => match blsOf xs with
      | some bs => .ok (.bl (bs.all id)) μ
      | none => .no
    | none => .no
  | _, _ => .no
theorem rl_all : RLf K (rAll K) dAll := by
  intro xs ds μ ρ H Q E rp r q
  match ds, r, q with
  | [d], r, q =>
    obtain ⟨x, rfl, rx⟩ := len1 r
    simp only [dAll] at q
    cases e : lstOf μ d with
    | none => rw [e] at q; exact q.elim
    | some ys =>
      simp only [e] at q
      obtain ⟨n, a, vs, rfl, rfl, _, _, h1, h2⟩ := lstOf_rep rp rx e
      cases e2 : blsOf ys with
      | none => simp only [e2] at q; exact q.elim
      | some bs =>
        simp only [e2] at q
        have := blsOf_eq e2
        subst this
        have ev := h2.bls
        subst ev
        exact ⟨a, bs, rfl, SqL.of h1, Pa.ok (rel := RV K) q rp (.bl _)⟩
  | [], _, q => exact q.elim
  | _ :: _ :: _, _, q => exact q.elim
def dAbs : List D → Mem → R D
  | [.int i], μ => .ok (.int (if i < 0 then -i else i)) μ
  | _, _ => .no
theorem rl_abs : RLf K (fun xs H Q => ∃ i, xs = [.int i] ∧ Q (.int (if i < 0 then -i else i)) H) dAbs := by
  intro xs ds μ ρ H Q E rp r q
  cases r with
  | nil => exact q.elim
  | cons a b =>
    cases b with
    | cons _ _ => cases a <;> exact q.elim
    | nil =>
      cases a with
      | int i => exact ⟨i, rfl, Pa.ok (rel := RV K) (d := .int (if i < 0 then -i else i)) q rp (.int _)⟩
      | _ => exact q.elim
def dInt1 : List D → Mem → R D
  | [.int i], μ => .ok (.int i) μ
  | [.bl b], μ => .ok (.int (if b then 1 else 0)) μ
  | _, _ => .no
theorem rl_int1 : RLf K (fun xs H Q => (∃ i, xs = [.int i] ∧ Q (.int i) H) ∨ ∃ k, xs = [.bl k] ∧ Q (.int (if k then 1 else 0)) H) dInt1 := by
  intro xs ds μ ρ H Q E rp r q
  cases r with
  | nil => exact q.elim
  | cons a b =>
    cases b with
    | cons _ _ => cases a <;> exact q.elim
    | nil =>
      cases a with
      | int i => exact .inl ⟨i, rfl, Pa.ok (rel := RV K) (d := .int i) q rp (.int _)⟩
      | bl b => exact .inr ⟨b, rfl, Pa.ok (rel := RV K) (d := .int (if b then 1 else 0)) q rp (.int _)⟩
      | _ => exact q.elim
def dMax2 : List D → Mem → R D
  | [.int i, .int j], μ => .ok (.int (if j > i then j else i)) μ
  | _, _ => .no
def dMin2 : List D → Mem → R D
  | [.int i, .int j], μ => .ok (.int (if j < i then j else i)) μ
  | _, _ => .no
theorem rl_max2 : RLf K (fun xs H Q => ∃ i j, xs = [.int i, .int j] ∧ Q (.int (if j > i then j else i)) H) dMax2 := by
  intro xs ds μ ρ H Q E rp r q
  cases r with
  | nil => exact q.elim
  | cons a b =>
    cases b with
    | nil => cases a <;> exact q.elim
    | cons b c =>
      cases c with
      | cons _ _ => cases a <;> cases b <;> exact q.elim
      | nil =>
        cases a with
        | int i =>
          cases b with
          | int j => exact ⟨i, j, rfl, Pa.ok (rel := RV K) (d := .int (if j > i then j else i)) q rp (.int _)⟩
          | _ => exact q.elim
        | _ => exact q.elim
theorem rl_min2 : RLf K (fun xs H Q => ∃ i j, xs = [.int i, .int j] ∧ Q (.int (if j < i then j else i)) H) dMin2 := by
  intro xs ds μ ρ H Q E rp r q
  cases r with
  | nil => exact q.elim
  | cons a b =>
    cases b with
    | nil => cases a <;> exact q.elim
    | cons b c =>
      cases c with
      | cons _ _ => cases a <;> cases b <;> exact q.elim
      | nil =>
        cases a with
        | int i =>
          cases b with
          | int j => exact ⟨i, j, rfl, Pa.ok (rel := RV K) (d := .int (if j < i then j else i)) q rp (.int _)⟩
          | _ => exact q.elim
        | _ => exact q.elim
def dTupOf : List D → Mem → R D
  | [d], μ => match seqOf μ d with
    | some xs => .ok (.tup xs) μ
    | none => .no
  | _, _ => .no
theorem rl_tupOf : RLf K (fun xs H Q => ∃ p ys, xs = [.ref p] ∧ ((SqL K H p ys ∧ ∀ l, H l = none → Q (.ref l) (upd H l (.tup ys))) ∨ (SqT K H p ys ∧ Q (.ref p) H))) dTupOf := by
  intro xs ds μ ρ H Q E rp r q
  match ds, r, q with
  | [d], r, q =>
    obtain ⟨x, rfl, rx⟩ := len1 r
    simp only [dTupOf] at q
    cases e : seqOf μ d with
    | none => rw [e] at q; exact q.elim
    | some ys =>
      simp only [e] at q
      obtain ⟨p, vs, rfl, h1, h2⟩ := seqOf_rep rp rx e
      refine ⟨p, vs, rfl, ?_⟩
      rcases h1 with h1 | h1
      · refine .inl ⟨h1, fun l hl => ?_⟩
        have ee := ext_upd (K := K) ρ (o := .tup vs) (Wr.none hl)
        exact q ρ _ _ ee (rp.side hl) (.tup (SqT.of upd_same) (h2.ext ee))
      · exact .inr ⟨h1, Pa.ok (rel := RV K) q rp (.tup h1 h2)⟩
  | [], _, q => exact q.elim
  | _ :: _ :: _, _, q => exact q.elim
def dLstOf : List D → Mem → R D
  | [d], μ => match seqOf μ d with
    | some xs => .ok (.cell μ.length) (μ ++ [.lst xs])
    | none => .no
  | _, _ => .no
theorem rl_lstOf : RLf K (fun xs H Q => ∃ p ys, xs = [.ref p] ∧ (SqL K H p ys ∨ SqT K H p ys) ∧ ∀ l, H l = none → Q (.ref l) (upd H l (.lst ys))) dLstOf := by
  intro xs ds μ ρ H Q E rp r q
  match ds, r, q with
  | [d], r, q =>
    obtain ⟨x, rfl, rx⟩ := len1 r
    simp only [dLstOf] at q
    cases e : seqOf μ d with
    | none => rw [e] at q; exact q.elim
    | some ys =>
      simp only [e] at q
      obtain ⟨p, vs, rfl, h1, h2⟩ := seqOf_rep rp rx e
      refine ⟨p, vs, rfl, h1, fun l hl => ?_⟩
      have ee := ext_new (K := K) ρ (o := .lst vs) hl
      exact q _ _ _ ee (rp.new hl (c := .lst ys) ⟨_, upd_same, h2.ext ee⟩) (.cell (by rw [← rp.len]; simp))
  | [], _, q => exact q.elim
  | _ :: _ :: _, _, q => exact q.elim
/-! what kind a value is -/
def tyN (μ : Mem) : D → Option String
  | .non => some "NoneType" | .bl _ => some "bool" | .int _ => some "int" | .str _ => some "str" | .tup _ => some "tuple"
  | .scr _ => some "list"
  | .cell n => match μ[n]? with
    | some (.lst _) => some "list"
    | some (.dK _) => some "dict"
    | _ => none
  | _ => none
theorem tyN_rep {μ : Mem} {ρ : List Addr} {H : Hp} {v : V} {d : D} {t : String} (rp : Rep K ρ H μ) (r : RV K ρ H v d) (h : tyN μ d = some t) : TyX K H v (.type t) := by
  cases r with
  | non => cases h; exact .base .non
  | bl b => cases h; exact .base (.bl b)
  | int i => cases h; exact .base (.int i)
  | str z => cases h; exact .base (.str _)
  | tup h1 _ =>
    cases h
    rcases h1 with (h1 | ⟨o, h1⟩) | ⟨o, its, n, h1, h2, _⟩
    · exact .base (.tup h1)
    · exact .fTuple h1
    · exact .kTuple h1 h2
  | scr hs =>
    cases h
    rcases hs with ⟨o, h1⟩ | ⟨o, its, n, h1, h2, _⟩
    · exact .base (.frz h1)
    · exact .kList h1 h2
  | @cell n a hn =>
    simp only [tyN] at h
    cases e : μ[n]? with
    | none => rw [e] at h; cases h
    | some c =>
      rw [e] at h
      have rc := rp.get hn e
      cases c with
      | lst xs => cases h; obtain ⟨vs, q1, _⟩ := rc; exact .base (.lst q1)
      | dK xs => cases h; obtain ⟨vs, q1, _⟩ := rc; exact .base (.dK q1)
      | _ => cases h
  | _ => cases h
def dIsi : List D → Mem → R D
  | [d, .ty n], μ => match tyN μ d with
    | some t => match kitB t n with
      | some b => .ok (.bl b) μ
      | none => .no
    | none => .no
  | _, _ => .no
theorem rl_isi : RLf K (rIsi K) dIsi := by
  intro xs ds μ ρ H Q E rp r q
  cases r with
  | nil => exact q.elim
  | cons a b =>
    cases b with
    | nil => exact q.elim
    | cons b c =>
      cases c with
      | cons _ _ => cases b <;> exact q.elim
      | nil =>
        cases b with
        | ty n =>
          rename_i d
          simp only [dIsi] at q
          cases e : tyN μ d with
          | none => rw [e] at q; exact q.elim
          | some t =>
            simp only [e] at q
            cases e2 : kitB t n with
            | none => simp only [e2] at q; exact q.elim
            | some b =>
              simp only [e2] at q
              exact ⟨_, _, _, _, b, rfl, .ty n, tyN_rep rp a e, kit_ty e2, Pa.ok (rel := RV K) q rp (.bl _)⟩
        | _ => exact q.elim
theorem kb_1 : kitB "NoneType" "int" = some false := by decide +kernel
theorem kb_2 : kitB "bool" "int" = some true := by decide +kernel
theorem kb_3 : kitB "int" "int" = some true := by decide +kernel
theorem kb_4 : kitB "str" "int" = some false := by decide +kernel
theorem kb_5 : kitB "tuple" "int" = some false := by decide +kernel
theorem kb_6 : kitB "list" "int" = some false := by decide +kernel
theorem kb_7 : kitB "dict" "int" = some false := by decide +kernel
theorem kb_11 : kitB "NoneType" "bool" = some false := by decide +kernel
theorem kb_12 : kitB "bool" "bool" = some true := by decide +kernel
theorem kb_13 : kitB "int" "bool" = some false := by decide +kernel
theorem kb_14 : kitB "str" "bool" = some false := by decide +kernel
theorem kb_15 : kitB "tuple" "bool" = some false := by decide +kernel
theorem kb_16 : kitB "list" "bool" = some false := by decide +kernel
theorem kb_17 : kitB "dict" "bool" = some false := by decide +kernel
theorem kb_21 : kitB "NoneType" "str" = some false := by decide +kernel
theorem kb_22 : kitB "bool" "str" = some false := by decide +kernel
theorem kb_23 : kitB "int" "str" = some false := by decide +kernel
theorem kb_24 : kitB "str" "str" = some true := by decide +kernel
theorem kb_25 : kitB "tuple" "str" = some false := by decide +kernel
theorem kb_26 : kitB "list" "str" = some false := by decide +kernel
theorem kb_27 : kitB "dict" "str" = some false := by decide +kernel
theorem kb_31 : kitB "NoneType" "tuple" = some false := by decide +kernel
theorem kb_32 : kitB "bool" "tuple" = some false := by decide +kernel
theorem kb_33 : kitB "int" "tuple" = some false := by decide +kernel
theorem kb_34 : kitB "str" "tuple" = some false := by decide +kernel
theorem kb_35 : kitB "tuple" "tuple" = some true := by decide +kernel
theorem kb_36 : kitB "list" "tuple" = some false := by decide +kernel
theorem kb_37 : kitB "dict" "tuple" = some false := by decide +kernel
/-! lists of a range -/
def rgOk (a b : Int) : Prop := RgOk a b
noncomputable instance (a b : Int) : Decidable (rgOk a b) := Classical.propDecidable _
theorem rg_rv {ρ : List Addr} {H : Hp} (a b : Int) : RVs K ρ H (rgV a b) (rngD a (b - a).toNat) := by
  unfold rgV rngD
  induction List.range (b - a).toNat with
  | nil => exact .nil
  | cons x xs ih => exact .cons (.int _) ih
noncomputable def fLstRg1 (f : F) : F := fun env μ => (f env μ).bind fun x μ1 => match x with
  | .int n => if rgOk 0 n then .ok (.cell μ1.length) (μ1 ++ [.lst (rngD 0 (n - 0).toNat)]) else .no
  | _ => .no
noncomputable def fTupRg1 (f : F) : F := fun env μ => (f env μ).bind fun x μ1 => match x with
  | .int n => if rgOk 0 n then .ok (.tup (rngD 0 (n - 0).toNat)) μ1 else .no
  | _ => .no
theorem tef_lstRg1 {ta : TE} {fa : F} (ha : TEf K W ta fa) : TEf K W (tLstRg (tRg1 ta)) (fLstRg1 fa) := by
  intro σ H Q env μ ρ at_ h
  refine ha.go at_ h fun ρ1 H1 v d μ1 e1 a1 r1 h1 => ?_
  cases r1 with
  | int n =>
    have h1 : Pd K (if rgOk 0 n then R.ok (.cell μ1.length) (μ1 ++ [.lst (rngD 0 (n - 0).toNat)]) else .no) ρ1 H1 Q (fun c d H' => W c d σ H') := h1
    by_cases c : rgOk 0 n
    · rw [if_pos c] at h1
      refine ⟨n, rfl, c, fun l hl => ?_⟩
      have ee := ext_new (K := K) ρ1 (o := .lst (rgV 0 n)) hl
      exact h1 _ _ _ ee (a1.rp.new hl (c := .lst (rngD 0 (n - 0).toNat)) ⟨_, upd_same, rg_rv 0 n⟩) (.cell (by rw [← a1.rp.len]; simp))
    · rw [if_neg c] at h1
      exact h1.elim
  | _ => exact h1.elim
theorem tef_tupRg1 {ta : TE} {fa : F} (ha : TEf K W ta fa) : TEf K W (tTupRg (tRg1 ta)) (fTupRg1 fa) := by
  intro σ H Q env μ ρ at_ h
  refine ha.go at_ h fun ρ1 H1 v d μ1 e1 a1 r1 h1 => ?_
  cases r1 with
  | int n =>
    have h1 : Pd K (if rgOk 0 n then R.ok (.tup (rngD 0 (n - 0).toNat)) μ1 else .no) ρ1 H1 Q (fun c d H' => W c d σ H') := h1
    by_cases c : rgOk 0 n
    · rw [if_pos c] at h1
      refine ⟨n, rfl, c, fun l hl => ?_⟩
      have ee := ext_upd (K := K) ρ1 (o := .tup (rgV 0 n)) (Wr.none hl)
      exact h1 ρ1 _ _ ee (a1.rp.side hl) (.tup (SqT.of upd_same) (rg_rv 0 n))
    · rw [if_neg c] at h1
      exact h1.elim
  | _ => exact h1.elim
/-! sets -/
def dedupI : List Int → List Int
  | [] => []
  | x :: xs => if x ∈ xs then dedupI xs else x :: dedupI xs
theorem mem_dedupI {k : Int} : ∀ {xs : List Int}, k ∈ dedupI xs ↔ k ∈ xs
  | [] => Iff.rfl
  | x :: xs => by
    unfold dedupI
    split
    · rename_i h
      rw [mem_dedupI, List.mem_cons]
      exact ⟨.inr, fun z => z.elim (fun e => by rw [e]; exact h) id⟩
    · rw [List.mem_cons, List.mem_cons, mem_dedupI]
theorem dedupI_nodup : ∀ {xs : List Int}, (dedupI xs).Nodup
  | [] => List.nodup_nil
  | x :: xs => by
    unfold dedupI
    split
    · exact dedupI_nodup
    · rename_i h
      rw [List.nodup_cons]
      exact ⟨fun z => h (mem_dedupI.mp z), dedupI_nodup⟩
def setTD : D → Mem → R D
  | .tup xs, μ => match intsOf xs with
    | some ns => if ns.length + 1 < scanBound then .ok (.cell μ.length) (μ ++ [.set (dedupI ns)]) else .no
    | none => .no
  | _, _ => .no
def dSetT : List D → Mem → R D
  | [d], μ => setTD d μ
  | _, _ => .no
theorem rl_setT : RLf K (rSetI K K.w) dSetT := by
  intro xs ds μ ρ H Q E rp r q
  match ds, r, q with
  | [d], r, q =>
    obtain ⟨x, rfl, rx⟩ := len1 r
    cases rx with
    | @tup a vs es h1 h2 =>
      simp only [dSetT, setTD] at q
      cases e : intsOf es with
      | none => rw [e] at q; exact q.elim
      | some ns =>
        simp only [e] at q
        have := intsOf_eq e
        subst this
        have ev := h2.intsV
        subst ev
        by_cases c : ns.length + 1 < scanBound
        · rw [if_pos c] at q
          refine ⟨a, ns, rfl, h1, c, fun p S n hp hS hc hl => ?_⟩
          obtain ⟨ks, k1, k2, k3⟩ := hc
          have en : n = (dedupI ns).length := by
            have m : ∀ k, k ∈ ks ↔ k ∈ dedupI ns := fun k => by
              rw [← k3, hS, mem_dedupI]
              simp
            have a1 := nodup_len ks (dedupI ns) k1 fun k hk => (m k).mp hk
            have a2 := nodup_len (dedupI ns) ks dedupI_nodup fun k hk => (m k).mpr hk
            omega
          subst en
          have ee := ext_new (K := K) ρ (o := SetO K.w p S (dedupI ns).length) hp
          refine q _ _ _ ee (rp.new hp (c := .set (dedupI ns)) ⟨S, upd_same, dedupI_nodup, fun k => ?_⟩) (.cell (by rw [← rp.len]; simp))
          rw [hS, mem_dedupI]
          simp
        · rw [if_neg c] at q
          exact q.elim
    | _ => exact q.elim
  | [], _, q => exact q.elim
  | _ :: _ :: _, _, q => exact q.elim
def setOf (μ : Mem) : D → Option (List Int)
  | .cell n => match μ[n]? with
    | some (.set ks) => some ks
    | _ => none
  | _ => none
def dLenSet : List D → Mem → R D
  | [d], μ => match setOf μ d with
    | some ks => .ok (.int (ks.length : Int)) μ
    | none => .no
  | _, _ => .no
theorem setOf_rep {μ : Mem} {ρ : List Addr} {H : Hp} {v : V} {d : D} {ks : List Int} (rp : Rep K ρ H μ) (r : RV K ρ H v d) (h : setOf μ d = some ks) : ∃ a S, v = .ref a ∧ H a = some (SetO K.w a S ks.length) ∧ ks.Nodup ∧ ∀ k, S k = true ↔ k ∈ ks := by
  cases r with
  | @cell n a hn =>
    simp only [setOf] at h
    cases e : μ[n]? with
    | none => rw [e] at h; cases h
    | some c =>
      rw [e] at h
      cases c with
      | set ys => cases h; obtain ⟨S, q1, q2, q3⟩ := rp.get hn e; exact ⟨a, S, rfl, q1, q2, q3⟩
      | _ => cases h
  | _ => cases h
theorem rl_lenSet : RLf K (rLenSet K.w) dLenSet := by
  intro xs ds μ ρ H Q E rp r q
  match ds, r, q with
  | [d], r, q =>
    obtain ⟨x, rfl, rx⟩ := len1 r
    simp only [dLenSet] at q
    cases e : setOf μ d with
    | none => rw [e] at q; exact q.elim
    | some ks =>
      simp only [e] at q
      obtain ⟨a, S, rfl, h1, _, _⟩ := setOf_rep rp rx e
      exact ⟨a, S, ks.length, rfl, h1, Pa.ok (rel := RV K) q rp (.int _)⟩
  | [], _, q => exact q.elim
  | _ :: _ :: _, _, q => exact q.elim
/-! ### methods -/
def tyM (T : String) (μ : Mem) : D → Bool
  | .str _ => T == "str"
  | .cell n => match μ[n]? with
    | some (.lst _) => T == "list"
    | some (.dK _) => T == "dict"
    | _ => false
  | _ => false
theorem tyM_rep {T : String} {μ : Mem} {ρ : List Addr} {H : Hp} {v : V} {d : D} (rp : Rep K ρ H μ) (r : RV K ρ H v d) (h : tyM T μ d = true) : tyV K T v H := by
  cases r with
  | str z => exact eq_of_beq h
  | @cell n a hn =>
    simp only [tyM] at h
    cases e : μ[n]? with
    | none => rw [e] at h; cases h
    | some c =>
      rw [e] at h
      have rc := rp.get hn e
      cases c with
      | lst xs => obtain ⟨vs, q1, _⟩ := rc; exact .inl ⟨eq_of_beq h, vs, SqL.of q1⟩
      | dK xs => obtain ⟨vs, q1, _⟩ := rc; exact .inr (.inr (.inl ⟨eq_of_beq h, .inl ⟨vs, q1⟩⟩))
      | _ => cases h
  | _ => cases h
def fMe (T : String) (g : D → List D → Mem → R D) (fo : F) (fs : FA) : F := fun env μ => (fo env μ).bind fun x μ1 => if tyM T μ1 x = true then (fs env μ1).bind fun xs μ2 => g x xs μ2 else .no
def fMe0 (T : String) (g : D → List D → Mem → R D) (fo : F) : F := fun env μ => (fo env μ).bind fun x μ1 => if tyM T μ1 x = true then g x [] μ1 else .no
theorem tef_bm {T : String} {r : V → List V → Hp → VK → Prop} {g : D → List D → Mem → R D} {to : TE} {fo : F} {ta : TA} {fs : FA} (hr : RMf K T r g) (ho : TEf K W to fo) (ha : TAf K W ta fs) : TEf K W (tBM K T r to ta) (fMe T g fo fs) := by
  intro σ H Q env μ ρ at_ h
  refine ho.go at_ h fun ρ1 H1 v d μ1 e1 a1 r1 h1 => ?_
  by_cases c : tyM T μ1 d = true
  · rw [if_pos c] at h1
    exact ⟨tyM_rep a1.rp r1 c, ha.go a1 h1 fun ρ2 H2 w d2 μ2 e2 a2 r2 h2 => hr _ _ _ _ _ _ _ _ _ a2.rp (r1.ext e2) r2 h2⟩
  · rw [if_neg c] at h1
    exact h1.elim
theorem tef_bm0 {T : String} {r : V → List V → Hp → VK → Prop} {g : D → List D → Mem → R D} {to : TE} {fo : F} (hr : RMf K T r g) (ho : TEf K W to fo) : TEf K W (tBM0 K T r to) (fMe0 T g fo) := by
  intro σ H Q env μ ρ at_ h
  refine ho.go at_ h fun ρ1 H1 v d μ1 e1 a1 r1 h1 => ?_
  by_cases c : tyM T μ1 d = true
  · rw [if_pos c] at h1
    exact ⟨tyM_rep a1.rp r1 c, hr _ _ _ _ _ _ _ _ _ a1.rp r1 .nil h1⟩
  · rw [if_neg c] at h1
    exact h1.elim
/-- a list changed -/
def onLst (k : Nat → List D → List D → Mem → R D) (a : D) (ds : List D) (μ : Mem) : R D := match a with
  | .cell n => match μ[n]? with
    | some (.lst xs) => k n xs ds μ
    | _ => .no
  | _ => .no
theorem onLst_rep {k : Nat → List D → List D → Mem → R D} {x : V} {a : D} {ds : List D} {μ : Mem} {ρ : List Addr} {H : Hp} {Q : VK} {E : XK} (rp : Rep K ρ H μ) (r : RV K ρ H x a) (q : Pd K (onLst k a ds μ) ρ H Q E) :
    ∃ n p xs vs, x = .ref p ∧ ρ[n]? = some p ∧ μ[n]? = some (.lst xs) ∧ H p = some (.lst vs) ∧ RVs K ρ H vs xs ∧ Pd K (k n xs ds μ) ρ H Q E := by
  cases r with
  | @cell n p hn =>
    simp only [onLst] at q
    cases e : μ[n]? with
    | none => rw [e] at q; exact q.elim
    | some c =>
      rw [e] at q
      cases c with
      | lst xs => obtain ⟨vs, q1, q2⟩ := rp.get hn e; exact ⟨n, p, xs, vs, rfl, hn, e, q1, q2, q⟩
      | _ => exact q.elim
  | _ => exact q.elim
def mAppend : D → List D → Mem → R D := onLst fun n xs ds μ => match ds with
  | [d] => if xs.length < sizeLine then .ok .non (μ.set n (.lst (xs ++ [d]))) else .no
  | _ => .no
theorem rm_append : RMf K "list" rAppend mAppend := by
  intro x a xs ds μ ρ H Q E rp ra rs q
  obtain ⟨n, p, ys, vs, rfl, hn, em, h1, h2, q⟩ := onLst_rep rp ra q
  match ds, rs, q with
  | [d], rs, q =>
    obtain ⟨y, rfl, ry⟩ := len1 rs
    have q : Pd K (if ys.length < sizeLine then R.ok .non (μ.set n (.lst (ys ++ [d]))) else .no) ρ H Q E := q
    by_cases c : ys.length < sizeLine
    · rw [if_pos c] at q
      have ee := ext_upd (K := K) ρ (o := .lst (vs ++ [y])) (Wr.lst h1)
      exact ⟨p, vs, y, rfl, rfl, h1, by rw [h2.len]; exact c, q ρ _ _ ee (rp.write hn (Wr.lst h1) (c := .lst (ys ++ [d])) ⟨_, upd_same, (h2.ext ee).app (.cons (ry.ext ee) .nil)⟩) .non⟩
    · rw [if_neg c] at q
      exact q.elim
  | [], _, q => exact q.elim
  | _ :: _ :: _, _, q => exact q.elim
def mPop : D → List D → Mem → R D := onLst fun n xs ds μ => match ds with
  | [] => match xs[xs.length - 1]? with
    | some d => .ok d (μ.set n (.lst xs.dropLast))
    | none => .no
  | _ => .no
theorem RVs.dropLast {ρ : List Addr} {H : Hp} {vs : List V} {ds : List D} (h : RVs K ρ H vs ds) : RVs K ρ H vs.dropLast ds.dropLast := by
  rw [List.dropLast_eq_take, List.dropLast_eq_take, h.len]
  exact h.take _
theorem rm_pop : RMf K "list" rPop mPop := by
  intro x a xs ds μ ρ H Q E rp ra rs q
  obtain ⟨n, p, ys, vs, rfl, hn, em, h1, h2, q⟩ := onLst_rep rp ra q
  match ds, rs, q with
  | [], rs, q =>
    cases rs
    have q : Pd K (match ys[ys.length - 1]? with
      | some d => R.ok d (μ.set n (.lst ys.dropLast))
      | none => .no) ρ H Q E := q
    cases e : ys[ys.length - 1]? with
    | none => rw [e] at q; exact q.elim
    | some d =>
      rw [e] at q
      obtain ⟨v, w1, w2⟩ := h2.get e
      have ee := ext_upd (K := K) ρ (o := .lst vs.dropLast) (Wr.lst h1)
      exact ⟨p, vs, v, rfl, rfl, h1, by rw [h2.len]; exact w1, q ρ _ _ ee (rp.write hn (Wr.lst h1) (c := .lst ys.dropLast) ⟨_, upd_same, h2.dropLast.ext ee⟩) (w2.ext ee)⟩
  | _ :: _, _, q => exact q.elim
noncomputable def mPopAt : D → List D → Mem → R D := onLst fun n xs ds μ => match ds with
  | [.int i] => if idxOk i then match seqIndex? i xs.length with
      | some k => match xs[k]? with
        | some d => .ok d (μ.set n (.lst (xs.eraseIdx k)))
        | none => .no
      | none => .no
    else .no
  | _ => .no
theorem rm_popAt : RMf K "list" rPopAt mPopAt := by
  intro x a xs ds μ ρ H Q E rp ra rs q
  obtain ⟨n, p, ys, vs, rfl, hn, em, h1, h2, q⟩ := onLst_rep rp ra q
  match ds, rs, q with
  | [d], rs, q =>
    obtain ⟨y, rfl, ry⟩ := len1 rs
    cases ry with
    | int i =>
      have q : Pd K (if idxOk i then match seqIndex? i ys.length with
          | some k => match ys[k]? with
            | some d => R.ok d (μ.set n (.lst (ys.eraseIdx k)))
            | none => .no
          | none => .no
        else .no) ρ H Q E := q
      by_cases c : idxOk i
      · rw [if_pos c] at q
        cases e : seqIndex? i ys.length with
        | none => rw [e] at q; exact q.elim
        | some k =>
          rw [e] at q
          have q : Pd K (match ys[k]? with
            | some d => R.ok d (μ.set n (.lst (ys.eraseIdx k)))
            | none => .no) ρ H Q E := q
          cases e2 : ys[k]? with
          | none => rw [e2] at q; exact q.elim
          | some d =>
            rw [e2] at q
            obtain ⟨v, w1, w2⟩ := h2.get e2
            have ee := ext_upd (K := K) ρ (o := .lst (vs.eraseIdx k)) (Wr.lst h1)
            exact ⟨p, vs, i, k, v, rfl, rfl, h1, c.1, c.2, by rw [h2.len]; exact e, w1, q ρ _ _ ee (rp.write hn (Wr.lst h1) (c := .lst (ys.eraseIdx k)) ⟨_, upd_same, (h2.eraseIdx k).ext ee⟩) (w2.ext ee)⟩
      · rw [if_neg c] at q
        exact q.elim
    | _ => exact q.elim
  | [], _, q => exact q.elim
  | d :: d2 :: t, rs, q => cases d <;> exact q.elim
def mExtend : D → List D → Mem → R D := onLst fun n xs ds μ => match ds with
  | [d] => match lstOf μ d with
    | some ys => if xs.length + ys.length ≤ sizeLine then .ok .non (μ.set n (.lst (xs ++ ys))) else .no
    | none => .no
  | _ => .no
theorem rm_extend : RMf K "list" rExtend mExtend := by
  intro x a xs ds μ ρ H Q E rp ra rs q
  obtain ⟨n, p, ys, vs, rfl, hn, em, h1, h2, q⟩ := onLst_rep rp ra q
  match ds, rs, q with
  | [d], rs, q =>
    obtain ⟨y, rfl, ry⟩ := len1 rs
    have q2 : Pd K (match lstOf μ d with
      | some zs => if ys.length + zs.length ≤ sizeLine then R.ok .non (μ.set n (.lst (ys ++ zs))) else .no
      | none => .no) ρ H Q E := q
    clear q
    cases e : lstOf μ d with
    | none => rw [e] at q2; exact q2.elim
    | some zs =>
      rw [e] at q2
      have q : Pd K (if ys.length + zs.length ≤ sizeLine then R.ok .non (μ.set n (.lst (ys ++ zs))) else .no) ρ H Q E := q2
      clear q2
      obtain ⟨m, p2, ws, rfl, rfl, hm, _, k1, k2⟩ := lstOf_rep rp ry e
      by_cases c : ys.length + zs.length ≤ sizeLine
      · rw [if_pos c] at q
        have ee := ext_upd (K := K) ρ (o := .lst (vs ++ ws)) (Wr.lst h1)
        exact ⟨p, p2, vs, ws, rfl, rfl, h1, k1, by rw [h2.len, k2.len]; exact c, q ρ _ _ ee (rp.write hn (Wr.lst h1) (c := .lst (ys ++ zs)) ⟨_, upd_same, (h2.ext ee).app (k2.ext ee)⟩) .non⟩
      · rw [if_neg c] at q
        exact q.elim
  | [], _, q => exact q.elim
  | _ :: _ :: _, _, q => exact q.elim
def mStrip : D → List D → Mem → R D
  | .str z, [.str c], μ => .ok (.str (Txt.stripChars z c)) μ
  | _, _, _ => .no
end
end Dv

set_option maxRecDepth 100000
set_option maxHeartbeats 4000000
namespace Dv
open PySem PySem.Spec PyProof.Rows L2
/-! ### one rule for several kinds -/
def rOr (r s : R2) : R2 := fun x y H Q => r x y H Q ∨ s x y H Q
def rlOr (r s : List V → Hp → VK → Prop) : List V → Hp → VK → Prop := fun xs H Q => r xs H Q ∨ s xs H Q
def rsOr (r s : V → Option Int → Option Int → Hp → VK → Prop) : V → Option Int → Option Int → Hp → VK → Prop := fun x l h H Q => r x l h H Q ∨ s x l h H Q
section
variable {X : Cx} {K : KW}
theorem opOr {α : Value → Value → Sem Value} {r s : R2} (h1 : OpR X α r) (h2 : OpR X α s) : OpR X α (rOr r s) := fun pins st σ H x y v u Q I rx ry h => h.elim (h1 pins st σ H x y v u Q I rx ry) (h2 pins st σ H x y v u Q I rx ry)
theorem callOr {f : Value} {r s : List V → Hp → VK → Prop} (h1 : CallR X f r) (h2 : CallR X f s) : CallR X f (rlOr r s) := fun pins st σ H xs us Q I rx h => h.elim (h1 pins st σ H xs us Q I rx) (h2 pins st σ H xs us Q I rx)
theorem slOr {r s : V → Option Int → Option Int → Hp → VK → Prop} (h1 : SlR X r) (h2 : SlR X s) : SlR X (rsOr r s) := fun pins st σ H x v vl vu lo hi sl Q I rx hs pl pu h => h.elim (h1 pins st σ H x v vl vu lo hi sl Q I rx hs pl pu) (h2 pins st σ H x v vl vu lo hi sl Q I rx hs pl pu)
def rAddG (K : PySem.W.Frag) : R2 := rOr (rI0 fun i j => .int (i + j)) (rOr (fun x y H Q => ∃ i j, x = .str i ∧ y = .str j ∧ i.length + j.length ≤ sizeLine ∧ Q (.str (i ++ j)) H) (rOr rCat (rCatA K)))
theorem oAdd (hK : X.K = K.K) : OpR X (binaryOp .Add) (rAddG K) := opOr op_add (opOr op_add_str (opOr op_cat (by rw [← hK]; exact op_catA)))
def dAddG (a b : D) (μ : Mem) : R D := match a with
  | .int _ => dAdd a b μ
  | .str _ => dAddS a b μ
  | .tup _ => dCatT a b μ
  | .cell _ => dCatL a b μ
  | _ => .no
theorem r_addG : R2f K (rAddG K) dAddG := by
  intro x y a b μ ρ H Q E rp ra rb q
  cases a with
  | int i => exact .inl (r_add x y _ b μ ρ H Q E rp ra rb q)
  | str i => exact .inr (.inl (r_addS x y _ b μ ρ H Q E rp ra rb q))
  | cell i => exact .inr (.inr (.inl (r_catL x y _ b μ ρ H Q E rp ra rb q)))
  | tup i => exact .inr (.inr (.inr (r_catT x y _ b μ ρ H Q E rp ra rb q)))
  | _ => exact q.elim
def rMulG : R2 := rOr (rI CMul fun i j => .int (i * j)) rRep
theorem oMul : OpR X (binaryOp .Mult) rMulG := opOr op_mul op_rep
noncomputable def dMulG (a b : D) (μ : Mem) : R D := match a with
  | .int _ => dMul a b μ
  | .cell _ => dRepL a b μ
  | _ => .no
theorem r_mulG : R2f K rMulG dMulG := by
  intro x y a b μ ρ H Q E rp ra rb q
  cases a with
  | int i => exact .inl (r_mul x y _ b μ ρ H Q E rp ra rb q)
  | cell i => exact .inr (r_repL x y _ b μ ρ H Q E rp ra rb q)
  | _ => exact q.elim
def rInG (K : PySem.W.Frag) : R2 := rOr (rIn K false) (fun x y H Q => ∃ (c : Nat) (z : Str), x = .str ⟨#[c]⟩ ∧ y = .str z ∧ Q (.bl (decide (c ∈ z.cps.toList))) H)
theorem oIn (hK : X.K = K.K) : OpR X (compareOp .In) (rInG K) := opOr (by rw [← hK]; exact op_in_seq) op_in_sign
def dInG (neg : Bool) (a b : D) (μ : Mem) : R D := match b with
  | .str _ => dInS neg a b μ
  | _ => dIn neg a b μ
theorem r_inG : R2f K (rInG K) (dInG false) := by
  intro x y a b μ ρ H Q E rp ra rb q
  cases b with
  | str i => exact .inr (r_inS x y a _ μ ρ H Q E rp ra rb q)
  | _ => exact .inl (r_in (neg := false) x y a _ μ ρ H Q E rp ra rb q)
def rNotInG (K : PySem.W.Frag) : R2 := rOr (rIn K true) (fun x y H Q => ∃ (c : Nat) (z : Str), x = .str ⟨#[c]⟩ ∧ y = .str z ∧ Q (.bl (!decide (c ∈ z.cps.toList))) H)
theorem oNotIn (hK : X.K = K.K) : OpR X (compareOp .NotIn) (rNotInG K) := opOr (by rw [← hK]; exact op_notIn_seq) op_notIn_sign
theorem r_notInG : R2f K (rNotInG K) (dInG true) := by
  intro x y a b μ ρ H Q E rp ra rb q
  cases b with
  | str i => exact .inr (r_notInS x y a _ μ ρ H Q E rp ra rb q)
  | _ => exact .inl (r_in (neg := true) x y a _ μ ρ H Q E rp ra rb q)
theorem oEq (hu : X.A.units + 64 < cLine) (hK : X.K = K.K) : OpR X (compareOp .Eq) (rEqD K) := by rw [← hK]; exact op_eqD hu
theorem oNe (hu : X.A.units + 64 < cLine) (hK : X.K = K.K) : OpR X (compareOp .NotEq) (rNeD K) := by rw [← hK]; exact op_neD hu
theorem oIx (hK : X.K = K.K) : IxR X (rIx K) := by rw [← hK]; exact ix_seq
def rSlG (K : PySem.W.Frag) : V → Option Int → Option Int → Hp → VK → Prop := rsOr (rSlL K) (rsOr (rSlA K) rSlS)
theorem oSl (hK : X.K = K.K) : SlR X (rSlG K) := slOr (by rw [← hK]; exact sl_list) (slOr (by rw [← hK]; exact sl_tupA) sl_str)
def slG (a : D) (lo hi : Option Int) (μ : Mem) : R D := match a with
  | .tup _ => slT a lo hi μ
  | .str _ => slS a lo hi μ
  | _ => slL a lo hi μ
theorem rs_G : RSf K (rSlG K) slG := by
  intro x a lo hi μ ρ H Q E rp ra q
  cases a with
  | tup _ => exact .inr (.inl (rs_tup x _ lo hi μ ρ H Q E rp ra q))
  | str _ => exact .inr (.inr (rs_str x _ lo hi μ ρ H Q E rp ra q))
  | _ => exact .inl (rs_list x _ lo hi μ ρ H Q E rp ra q)
def rLenG (K : PySem.W.Frag) (w : World) : List V → Hp → VK → Prop := rlOr (fun xs H Q => ∃ x n, xs = [x] ∧ LenV K x H n ∧ Q (.int n) H) (rLenSet w)
theorem oLen (hK : X.K = K.K) (hw : X.w = K.w) : CallR X (.builtin "len") (rLenG K K.w) := callOr (by rw [← hK]; exact call_len) (by rw [← hw]; exact cr_lenSet)
def dLenG (ds : List D) (μ : Mem) : R D := match ds with
  | [d] => match setOf μ d with
    | some ks => .ok (.int (ks.length : Int)) μ
    | none => lenD d μ
  | _ => .no
theorem rl_lenG : RLf K (rLenG K K.w) dLenG := by
  intro xs ds μ ρ H Q E rp r q
  match ds, r, q with
  | [d], r, q =>
    simp only [dLenG] at q
    cases e : setOf μ d with
    | some ks =>
      simp only [e] at q
      exact .inr (rl_lenSet xs [d] μ ρ H Q E rp r (by simp only [dLenSet, e]; exact q))
    | none =>
      simp only [e] at q
      exact .inl (rl_len xs [d] μ ρ H Q E rp r q)
  | [], _, q => exact q.elim
  | _ :: _ :: _, _, q => exact q.elim
def rMaxG (K : PySem.W.Frag) : List V → Hp → VK → Prop := rlOr (rMaxU K) (rMax K)
theorem oMax (hc : X.calm = true) (hu : X.A.units + 64 < cLine) (hK : X.K = K.K) : CallR X (.builtin "max") (rMaxG K) := callOr (by rw [← hK]; exact cr_maxU hc hu) (by rw [← hK]; exact cr_max hc)
def dMaxG (ds : List D) (μ : Mem) : R D := match ds with
  | [.tup _] => dMaxT ds μ
  | _ => dMaxL ds μ
theorem rl_maxG : RLf K (rMaxG K) dMaxG := by
  intro xs ds μ ρ H Q E rp r q
  unfold dMaxG at q
  split at q
  · exact .inl (rl_maxT xs _ μ ρ H Q E rp r q)
  · exact .inr (rl_maxL xs _ μ ρ H Q E rp r q)
theorem oSum (hc : X.calm = true) (hK : X.K = K.K) : CallR X (.builtin "sum") (rSum K) := by rw [← hK]; exact cr_sum hc
theorem oAll (hc : X.calm = true) (hK : X.K = K.K) : CallR X (.builtin "all") (rAll K) := by rw [← hK]; exact cr_all hc
theorem oIsi (hK : X.K = K.K) : CallR X (.builtin "isinstance") (rIsi K) := by rw [← hK]; exact call_isi
theorem oTuple (hK : X.K = K.K) : CallR X (.type "tuple") (fun xs H Q => ∃ p ys, xs = [.ref p] ∧ ((SqL K H p ys ∧ ∀ l, H l = none → Q (.ref l) (upd H l (.tup ys))) ∨ (SqT K H p ys ∧ Q (.ref p) H))) := by rw [← hK]; exact call_tuple_of
theorem oList (hK : X.K = K.K) : CallR X (.type "list") (fun xs H Q => ∃ p ys, xs = [.ref p] ∧ (SqL K H p ys ∨ SqT K H p ys) ∧ ∀ l, H l = none → Q (.ref l) (upd H l (.lst ys))) := by rw [← hK]; exact call_list_of
theorem oSet (hc : X.calm = true) (hK : X.K = K.K) (hw : X.w = K.w) : CallR X (.type "set") (rSetI K K.w) := by rw [← hK, ← hw]; exact cr_setI hc
theorem oBm {c : Expr} {to : TE} {t : TA} {T : String} {r : V → List V → Hp → VK → Prop} (hK : X.K = K.K) (h : PE X c (tBM X.K T r to t)) : PE X c (tBM K T r to t) := by rw [← hK]; exact h
theorem oBm0 {c : Expr} {to : TE} {T : String} {r : V → List V → Hp → VK → Prop} (hK : X.K = K.K) (h : PE X c (tBM0 X.K T r to)) : PE X c (tBM0 K T r to) := by rw [← hK]; exact h
theorem oFld {e : Expr} {f : Str} {pos : Pos} {ta : TE} (hK : X.K = K.K) (h : PE X e ta) (hb : attributeBase e f X.env (eval e X.env) = eval e X.env) : PE X (e.Attribute f pos) (tFld K ta f) := by rw [← hK]; exact pe_fld h hb
theorem oTupI {tg l : Expr} {tl : TE} (hK : X.K = K.K) (h : PE X l tl) : PI X tg l (iTup K tl) := by rw [← hK]; exact pi_tup h
theorem oLstI {tg l : Expr} {tl : TE} (hK : X.K = K.K) (h : PE X l tl) : PI X tg l (iList K tl) := by rw [← hK]; exact pi_list h
theorem oTupG {es : List Expr} {k : Nat} {pos : Pos} {t : TGs} {n : Nat} (hK : X.K = K.K) (hc : X.calm = true) (h : PGs X es t) (hn : (assignEach es X.env).length = n) (hst : (assignEach es X.env).findIdx? (·.1) = none) : PG X (.Tuple es k pos) (gTup K n t) := by rw [← hK]; exact pg_tup hc h hn hst
theorem oTru {a : Expr} {ta : TE} (hK : X.K = K.K) (ha : PE X a ta) (he : ∀ whole, isTrue a X.env whole = (do let v ← whole; standAt a.pos; holding [v] (truthy v))) : PT X a (fun σ H Q => ta σ H fun x H' => ∃ k, TruV K x H' k ∧ Q k H') := by rw [← hK]; exact pt_truth ha he
end
/-! texts' methods -/
section
variable {X : Cx} {K : KW} {W : WX}
theorem strip_sub {p : Nat → Bool} {b c : Bool} {z : Str} : ∀ k ∈ (Txt.stripBy p b c z).cps.toList, k ∈ z.cps.toList := by
  intro k hk
  unfold Txt.stripBy at hk
  split at hk
  · exact hk
  · unfold PySem.stripped Builtin.Str.strSub at hk
    simp only [Array.toList_extract, List.extract_eq_drop_take] at hk
    exact List.mem_of_mem_drop (List.mem_of_mem_take hk)
theorem strip_len {p : Nat → Bool} {b c : Bool} {z : Str} : (Txt.stripBy p b c z).length ≤ z.length := by
  unfold Txt.stripBy
  split
  · exact Nat.le_refl _
  · unfold PySem.stripped Builtin.Str.strSub
    rw [str_len, str_len]
    simp only [Array.toList_extract, List.extract_eq_drop_take, List.length_take, List.length_drop]
    omega
theorem strV_strip {p : Nat → Bool} {b c : Bool} {z : Str} (h : StrV z) : StrV (Txt.stripBy p b c z) := by
  refine ⟨Nat.le_trans strip_len h.1, ?_⟩
  rw [str_all, ← Array.all_toList, List.all_eq_true]
  intro k hk
  exact decide_eq_true (strV_lt h k (strip_sub k hk))
theorem rm_strip : RMf K "str" (fun x xs H Q => ∃ a b, x = .str a ∧ xs = [.str b] ∧ a.length ≤ sizeLine ∧ Q (.str (Txt.stripChars a b)) H) mStrip := by
  intro x a xs ds μ ρ H Q E rp ra rs q
  cases ra with
  | @str z hz =>
    match ds, rs, q with
    | [d], rs, q =>
      obtain ⟨y, rfl, ry⟩ := len1 rs
      cases ry with
      | @str c hc => exact ⟨z, c, rfl, rfl, hz.1, Pa.ok (rel := RV K) (d := .str (Txt.stripChars z c)) q rp (.str (strV_strip hz))⟩
      | _ => exact q.elim
    | [], _, q => exact q.elim
    | d :: d2 :: t, rs, q => cases d <;> exact q.elim
  | _ => exact q.elim
end
/-! ### the outcome of a def's body -/
def outS : RS → R D
  | .rt d μ => .ok d μ
  | .nx _ μ => .ok .non μ
  | .ex x _ μ => .ex x μ
  | _ => .no
@[simp] theorem outS_rt {d : D} {μ : Mem} : outS (.rt d μ) = .ok d μ := rfl
@[simp] theorem outS_nx {e : Env} {μ : Mem} : outS (.nx e μ) = .ok .non μ := rfl
@[simp] theorem outS_ex {x : Exn} {e : Env} {μ : Mem} : outS (.ex x e μ) = .ex x μ := rfl
@[simp] theorem outS_no : outS .no = .no := rfl
def env0 (n : Nat) (ds : List D) : Env := ds.map some ++ List.replicate (n - ds.length) none
def runB (s : S) (n : Nat) (ds : List D) (μ : Mem) : R D := outS (s (env0 n ds) μ)
theorem start_env {K : KW} {ρ : List Addr} {H : Hp} {N : List Str} {vs : List V} {ds : List D} (r : RVs K ρ H vs ds) : EnvR K ρ H (L2.start N vs) (env0 N.length ds) := by
  unfold L2.start env0
  refine ⟨by simp [r.len], fun i d h => ?_⟩
  by_cases hi : i < ds.length
  · rw [List.getElem?_append_left (by simpa using hi), List.getElem?_map] at h
    cases e : ds[i]? with
    | none => rw [e] at h; cases h
    | some d' =>
      rw [e] at h
      cases h
      obtain ⟨v, h1, h2⟩ := r.get e
      refine ⟨v, ?_, h2⟩
      rw [List.getElem?_append_left (by simpa [r.len] using hi), List.getElem?_map, h1]
      rfl
  · rw [List.getElem?_append_right (by simpa using hi)] at h
    rw [List.getElem?_replicate] at h
    split at h <;> cases h
/-- from a def's body to its promise -/
theorem run_start {k : PySem.W.Frag} {w : World} {N : List Str} {ts : TS} {s : S} {n : Nat} {g : List D → Mem → R D} {vs : List V} {H : Hp} {Q : VK} {E : XK} (T : TSf ⟨k, w, none⟩ (fun c d _ H => E c d H) ts s) (h : spD ⟨k, w, none⟩ n g vs H Q E)
    (hg : ∀ (ds : List D) (μ : Mem) (ρ : List Addr) (vs : List V) (H : Hp) (Q : VK) (E : XK), Rep ⟨k, w, none⟩ ρ H μ → RVs ⟨k, w, none⟩ ρ H vs ds → ds.length = n → Pd ⟨k, w, none⟩ (g ds μ) ρ H Q E → Pd ⟨k, w, none⟩ (runB s N.length ds μ) ρ H Q E) :
    ts { nx := fun _ H' => Q .non H', rt := Q } (L2.start N vs) H := by
  obtain ⟨ρ, μ, ds, rp, rs, hn, q⟩ := h
  have q := hg ds μ ρ vs H Q E rp rs hn q
  refine T _ _ _ (env0 N.length ds) μ ρ ⟨rp, start_env rs, fun _ _ _ _ z => by cases z⟩ ?_
  unfold runB at q
  cases e : s (env0 N.length ds) μ with
  | nx env μ1 => rw [e] at q; exact fun ρ' H' σ' e1 a1 => q ρ' H' _ e1 a1.rp .non
  | rt d μ1 => rw [e] at q; exact q
  | bk env μ1 => rw [e] at q; exact q.elim
  | ct env μ1 => rw [e] at q; exact q.elim
  | ex x env μ1 => rw [e] at q; exact fun ρ' H' σ' c d e1 a1 rx => q ρ' H' c d e1 a1.rp rx
  | no => rw [e] at q; exact q.elim
theorem spD_len {K : KW} {n : Nat} {g : List D → Mem → R D} {vs : List V} {H : Hp} {Q : VK} {E : XK} (h : spD K n g vs H Q E) : vs.length = n := by
  obtain ⟨ρ, μ, ds, rp, rs, hn, q⟩ := h
  rw [rs.len, hn]
end Dv

set_option maxRecDepth 100000
set_option maxHeartbeats 4000000
namespace Dv
open PySem PySem.Spec PyProof.Rows L2
/-! ### what is raised -/
section
variable {K : KW} {W : WX}
def sRaise0 (c : Addr) : S := fun env μ => .ex ⟨c, none⟩ env μ
theorem tsf_raise0 {c : Addr} : TSf K W (fun _ σ H => W (.ref c) none σ H) (sRaise0 c) := fun σ H D env μ ρ at_ h => h ρ H σ _ _ Ext.refl at_ ⟨rfl, rfl⟩
/-! ### a text walked -/
def iStrD (f : F) : FI := fun env μ => (f env μ).bind fun d μ1 => match d with
  | .str z => .ok ⟨z.cps.toList.map fun c => .str ⟨#[c]⟩, []⟩ μ1
  | _ => .no
theorem tif_str {te : TE} {f : F} (hf : TEf K W te f) : TIf K W (iStr te) (iStrD f) := by
  intro σ H Q env μ ρ at_ h
  refine hf.go at_ h fun ρ1 H1 v d μ1 e1 a1 r1 h1 => ?_
  cases r1 with
  | @str z hz =>
    refine ⟨z, rfl, Pa.ok (rel := ItR K) h1 a1.rp ?_⟩
    intro ρ' H' μ' e r g i
    refine ⟨fun hi => ?_, fun x hx => ?_⟩
    · show z.cps.size ≤ i
      simpa using hi
    · have hx : (z.cps.toList.map fun c => D.str ⟨#[c]⟩)[i]? = some x := hx
      rw [List.getElem?_map] at hx
      cases e2 : z.cps.toList[i]? with
      | none => rw [e2] at hx; cases hx
      | some c =>
        rw [e2] at hx
        cases hx
        have hi := (List.getElem?_eq_some_iff.mp e2).1
        refine ⟨show i < z.cps.size by simpa using hi, ?_⟩
        rintro v' H2 ⟨rfl, c', hc, rfl⟩
        have : c' = c := by
          have : z.cps.toList[i]? = some c' := by simpa using hc
          rw [e2] at this
          exact (Option.some.inj this).symm
        subst this
        refine ⟨Ext.refl, r, .str (strV_of (l := [c']) rfl (show 1 ≤ sizeLine by decide) fun k hk => ?_)⟩
        rw [List.mem_singleton.mp hk]
        exact strV_lt hz c' (List.mem_of_getElem? e2)
  | _ => exact h1.elim
/-! ### sorted -/
def insI (x : Int) : List Int → List Int
  | [] => [x]
  | y :: r => if x ≤ y then x :: y :: r else y :: insI x r
def srtI : List Int → List Int
  | [] => []
  | x :: r => insI x (srtI r)
theorem insI_perm (x : Int) : ∀ l : List Int, (insI x l).Perm (x :: l)
  | [] => List.Perm.refl _
  | y :: r => by
    unfold insI
    split
    · exact List.Perm.refl _
    · exact ((insI_perm x r).cons y).trans (List.Perm.swap x y r)
theorem srtI_perm : ∀ l : List Int, (srtI l).Perm l
  | [] => List.Perm.refl _
  | x :: r => (insI_perm x _).trans ((srtI_perm r).cons x)
theorem insI_sorted (x : Int) : ∀ {l : List Int}, l.Pairwise (· ≤ ·) → (insI x l).Pairwise (· ≤ ·)
  | [], _ => by simp [insI]
  | y :: r, h => by
    unfold insI
    rw [List.pairwise_cons] at h
    split
    · rename_i hx
      rw [List.pairwise_cons]
      refine ⟨fun z hz => ?_, List.pairwise_cons.mpr h⟩
      rcases List.mem_cons.mp hz with rfl | hz
      · exact hx
      · exact Int.le_trans hx (h.1 z hz)
    · rename_i hx
      rw [List.pairwise_cons]
      refine ⟨fun z hz => ?_, insI_sorted x h.2⟩
      rcases List.mem_cons.mp ((insI_perm x r).mem_iff.mp hz) with rfl | hz
      · omega
      · exact h.1 z hz
theorem srtI_sorted : ∀ l : List Int, (srtI l).Pairwise (· ≤ ·)
  | [] => List.Pairwise.nil
  | x :: r => insI_sorted x (srtI_sorted r)
theorem sorted_eq : ∀ {l m : List Int}, l.Perm m → l.Pairwise (· ≤ ·) → m.Pairwise (· ≤ ·) → l = m
  | [], m, p, _, _ => by rw [List.Perm.nil_eq p]
  | x :: l, [], p, _, _ => absurd p.length_eq (by simp)
  | x :: l, y :: m, p, h, k => by
    rw [List.pairwise_cons] at h k
    have hx : x ∈ y :: m := p.mem_iff.mp List.mem_cons_self
    have hy : y ∈ x :: l := p.mem_iff.mpr List.mem_cons_self
    have e : x = y := by
      have a1 : y ≤ x := by
        rcases List.mem_cons.mp hx with e | hx
        · omega
        · exact k.1 x hx
      have a2 : x ≤ y := by
        rcases List.mem_cons.mp hy with e | hy
        · omega
        · exact h.1 y hy
      omega
    subst e
    rw [sorted_eq (List.Perm.cons_inv p) h.2 k.2]
def rSortG (K : PySem.W.Frag) (w : World) : List V → Hp → VK → Prop := rlOr (rSorted K) (rSortedSet w)
theorem oSorted {X : Cx} (hc : X.calm = true) (hK : X.K = K.K) (hw : X.w = K.w) : CallR X (.builtin "sorted") (rSortG K K.w) := callOr (by rw [← hK]; exact cr_sorted) (by rw [← hw]; exact cr_sortedSet hc)
def dSortG (ds : List D) (μ : Mem) : R D := match ds with
  | [d] => match setOf μ d with
    | some ks => if ks.length < 64 then .ok (.cell μ.length) (μ ++ [.lst ((srtI ks).map .int)]) else .no
    | none => onInts (fun ns μ => if ns.length < 64 then .ok (.cell μ.length) (μ ++ [.lst ((srtI ns).map .int)]) else .no) [d] μ
  | _ => .no
theorem rl_sortG : RLf K (rSortG K K.w) dSortG := by
  intro xs ds μ ρ H Q E rp r q
  match ds, r, q with
  | [d], r, q =>
    have new : ∀ {l : List Int} {p : Addr}, H p = none → Pd K (R.ok (.cell μ.length) (μ ++ [.lst (l.map .int)])) ρ H Q E → Q (.ref p) (upd H p (.lst (l.map V.int))) := fun {l p} hp q => by
      have ee := ext_new (K := K) ρ (o := .lst (l.map V.int)) hp
      exact q _ _ _ ee (rp.new hp (c := .lst (l.map .int)) ⟨_, upd_same, .ints⟩) (.cell (by rw [← rp.len]; simp))
    simp only [dSortG] at q
    cases e : setOf μ d with
    | some ks =>
      simp only [e] at q
      obtain ⟨x, rfl, rx⟩ := len1 r
      obtain ⟨a, S, rfl, h1, nd, hS⟩ := setOf_rep rp rx e
      by_cases c : ks.length < 64
      · rw [if_pos c] at q
        refine .inr ⟨a, S, ks.length, rfl, h1, c, fun ns p n1 n2 n3 hp => ?_⟩
        have en : ns = srtI ks := by
          refine sorted_eq ?_ (n1.imp fun h => Int.le_of_lt h) (srtI_sorted ks)
          refine List.Perm.trans ?_ (srtI_perm ks).symm
          have nd1 : ns.Nodup := n1.imp fun h => by omega
          exact (List.perm_ext_iff_of_nodup nd1 nd).mpr fun k => (n2 k).trans (hS k)
        subst en
        exact new hp q
      · rw [if_neg c] at q
        exact q.elim
    | none =>
      simp only [e] at q
      obtain ⟨a, ns, rfl, h1, q⟩ := onInts_rep rp r q
      by_cases c : ns.length < 64
      · rw [if_pos c] at q
        refine .inl ⟨a, ns, rfl, SqL.of h1, c, fun ms p m1 m2 hp => ?_⟩
        rw [sorted_eq (m1.trans (srtI_perm ns).symm) m2 (srtI_sorted ns)]
        exact new hp q
      · rw [if_neg c] at q
        exact q.elim
  | [], _, q => exact q.elim
  | _ :: _ :: _, _, q => exact q.elim
end
/-! ### within an except suite nothing else is held otherwise -/
section
variable {k : PySem.W.Frag} {w : World} {o o' : Option (Nat × Addr × Option Addr × Exn)} {ρ ρ' : List Addr} {H H' : Hp}
mutual
theorem RV.xa {v : V} {d : D} (h : RV ⟨k, w, o⟩ ρ H v d) : RV ⟨k, w, o'⟩ ρ H v d := by
  cases h with
  | non => exact .non
  | bl b => exact .bl b
  | int i => exact .int i
  | str h => exact .str h
  | tup h r => exact .tup h r.xa
  | cell h => exact .cell h
  | scr h => exact .scr h
  | ty n => exact .ty n
  | cref a => exact .cref a
theorem RVs.xa {vs : List V} {ds : List D} (h : RVs ⟨k, w, o⟩ ρ H vs ds) : RVs ⟨k, w, o'⟩ ρ H vs ds := by
  cases h with
  | nil => exact .nil
  | cons h r => exact .cons h.xa r.xa
end
theorem RF.xa {κ : Type} {vs : List (κ × V)} {ds : List (κ × D)} (h : RF ⟨k, w, o⟩ ρ H vs ds) : RF ⟨k, w, o'⟩ ρ H vs ds := by
  induction h with
  | nil => exact .nil
  | cons h _ ih => exact .cons h.xa ih
theorem RC.xa {a : Addr} {c : C} (h : RC ⟨k, w, o⟩ ρ H a c) : RC ⟨k, w, o'⟩ ρ H a c := by
  cases c with
  | lst ds => obtain ⟨vs, h1, h2⟩ := h; exact ⟨vs, h1, h2.xa⟩
  | dK kvs => obtain ⟨vs, h1, h2⟩ := h; exact ⟨vs, h1, h2.xa⟩
  | ins c fs => obtain ⟨dx, vs, h1, h2⟩ := h; exact ⟨dx, vs, h1, h2.xa⟩
  | set ks => obtain ⟨S, h1, h2⟩ := h; exact ⟨S, h1, h2⟩
theorem Rep.xa {μ : Mem} (h : Rep ⟨k, w, o⟩ ρ H μ) : Rep ⟨k, w, o'⟩ ρ H μ := ⟨h.len, h.nd, fun n c e => let ⟨a, h1, h2⟩ := h.at_ n c e; ⟨a, h1, h2.xa⟩⟩
theorem Ext.xa (h : Ext ⟨k, w, o⟩ ρ H ρ' H') : Ext ⟨k, w, o'⟩ ρ H ρ' H' := ⟨h.pre, h.tup, h.fz, h.xd⟩
theorem EnvR.xa {σ : L2.St} {env : Env} (h : EnvR ⟨k, w, o⟩ ρ H σ env) : EnvR ⟨k, w, o'⟩ ρ H σ env := ⟨h.len, fun i d e => let ⟨v, h1, h2⟩ := h.at_ i d e; ⟨v, h1, h2.xa⟩⟩
theorem RX.xa {c : Value} {d : Option Addr} {x : Exn} (h : RX ⟨k, w, o⟩ ρ H c d x) : RX ⟨k, w, o'⟩ ρ H c d x := by
  refine ⟨h.1, ?_⟩
  have h2 := h.2
  cases hx : x.fs with
  | none => rw [hx] at h2; exact h2
  | some fs =>
    rw [hx] at h2
    obtain ⟨dx, vs, a, b, r⟩ := h2
    exact ⟨dx, vs, a, b, r.xa⟩
end
/-! ### try -/
def clr (i : Nat) : RS → RS
  | .nx env μ => .nx (env.set i none) μ
  | .bk env μ => .bk (env.set i none) μ
  | .ct env μ => .ct (env.set i none) μ
  | .rt d μ => .rt d μ
  | _ => .no
def sTryAs (k : PySem.W.Frag) (c : Value) (i : Nat) (body : S) (suite : Exn → S) : S := fun env μ => match body env μ with
  | .ex x env1 μ1 => match PySem.W.exmOne k (.ref x.c) c with
    | some true => if i < env1.length then clr i (suite x (env1.set i none) μ1) else .no
    | some false => .ex x env1 μ1
    | none => .no
  | r => r
/-- several clauses without a name -/
def hands (k : PySem.W.Frag) (x : Exn) : List (Value × S) → S
  | [] => fun env μ => .ex x env μ
  | (c, s) :: r => fun env μ => match PySem.W.exmOne k (.ref x.c) c with
    | some true => s env μ
    | some false => hands k x r env μ
    | none => .no
def sTry (k : PySem.W.Frag) (body : S) (hs : List (Value × S)) : S := fun env μ => match body env μ with
  | .ex x env1 μ1 => hands k x hs env1 μ1
  | r => r
section
variable {k : PySem.W.Frag} {w : World}
theorem EnvR.drop {K : KW} {ρ : List Addr} {H : Hp} {σ : L2.St} {env : Env} (h : EnvR K ρ H σ env) (i : Nat) (o : Option V) : EnvR K ρ H (σ.set i o) (env.set i none) := by
  refine ⟨by simp [h.len], fun j d e => ?_⟩
  rw [List.getElem?_set] at e
  by_cases z : i = j
  · rw [if_pos z] at e
    split at e <;> cases e
  · rw [if_neg z] at e
    obtain ⟨v, h1, h2⟩ := h.at_ j d e
    exact ⟨v, by rw [List.getElem?_set_ne z]; exact h1, h2⟩
theorem tsf_tryAs {W : WX} {c : Value} {i : Nat} {tb : WX → TS} {ts : Addr → Value → Option Addr → TS} {body : S} {suite : Exn → S} (hb : ∀ W', TSf ⟨k, w, none⟩ W' (tb W') body)
    (hs : ∀ a d x, TSf ⟨k, w, some (i, a, d, x)⟩ W0 (ts a (.ref x.c) d) (suite x)) : TSf ⟨k, w, none⟩ W (fun D σ H => tb (wAs k c i ts W D) D σ H) (sTryAs k c i body suite) := by
  intro σ H D env μ ρ at_ h
  refine hb _ _ _ _ _ _ _ at_ ?_
  unfold sTryAs at h
  cases e : body env μ with
  | nx env1 μ1 => rw [e] at h; exact h
  | rt d μ1 => rw [e] at h; exact h
  | bk env1 μ1 => rw [e] at h; exact h
  | ct env1 μ1 => rw [e] at h; exact h
  | no => rw [e] at h; exact h
  | ex x env1 μ1 =>
    rw [e] at h
    intro ρ1 H1 σ1 cls d e1 a1 rx
    have ec := rx.1
    subst ec
    cases ex : PySem.W.exmOne k (.ref x.c) c with
    | none => simp only [ex] at h; exact h.elim
    | some b =>
      refine ⟨b, ex, fun hbt a ha => ?_, fun hbf => ?_⟩
      · subst hbt
        simp only [ex] at h
        by_cases hi0 : i < env1.length
        · rw [if_pos hi0] at h
          have hi : i < σ1.length := by rw [← a1.en.len]; exact hi0
          have A : At ⟨k, w, some (i, a, d, x)⟩ ρ1 H1 μ1 (σ1.set i (some (.ref a))) (env1.set i none) := by
            refine ⟨a1.rp.xa, (a1.en.drop i _).xa, fun j a' d' x' z => ?_⟩
            cases z
            exact ⟨List.getElem?_set_self hi, rx.xa⟩
          refine hs a d x _ _ _ _ _ _ A ?_
          have h := Ps.mono e1 h
          cases es : suite x (env1.set i none) μ1 with
          | nx env2 μ2 => rw [es] at h; exact fun ρ2 H2 σ2 e2 a2 => h ρ2 H2 _ e2.xa ⟨a2.rp.xa, (a2.en.drop i none).xa, fun _ _ _ _ z => by cases z⟩
          | bk env2 μ2 => rw [es] at h; exact fun ρ2 H2 σ2 e2 a2 => h ρ2 H2 _ e2.xa ⟨a2.rp.xa, (a2.en.drop i none).xa, fun _ _ _ _ z => by cases z⟩
          | ct env2 μ2 => rw [es] at h; exact fun ρ2 H2 σ2 e2 a2 => h ρ2 H2 _ e2.xa ⟨a2.rp.xa, (a2.en.drop i none).xa, fun _ _ _ _ z => by cases z⟩
          | rt d2 μ2 => rw [es] at h; exact fun ρ2 H2 v e2 r2 rv => h ρ2 H2 v e2.xa r2.xa rv.xa
          | ex _ _ _ => rw [es] at h; exact h.elim
          | no => rw [es] at h; exact h.elim
        · rw [if_neg hi0] at h
          exact h.elim
      · subst hbf
        simp only [ex] at h
        exact h ρ1 H1 σ1 _ d e1 a1 rx
/-- clauses -/
inductive HdF (K : KW) (W : WX) : List (Value × (Addr → Value → Option Addr → TS)) → List (Value × S) → Prop where
  | nil : HdF K W [] []
  | cons {c : Value} {ts : Addr → Value → Option Addr → TS} {s : S} {l : List (Value × (Addr → Value → Option Addr → TS))} {m : List (Value × S)} (h : ∀ a cls d, TSf K W (ts a cls d) s) (r : HdF K W l m) : HdF K W ((c, ts) :: l) ((c, s) :: m)
theorem tsf_try {W : WX} {l : List (Value × (Addr → Value → Option Addr → TS))} {hs : List (Value × S)} {tb : WX → TS} {body : S} (hb : ∀ W', TSf ⟨k, w, none⟩ W' (tb W') body)
    (hh : HdF ⟨k, w, none⟩ W l hs) : TSf ⟨k, w, none⟩ W (fun D σ H => tb (wMany k W D l) D σ H) (sTry k body hs) := by
  intro σ H D env μ ρ at_ h
  refine hb _ _ _ _ _ _ _ at_ ?_
  unfold sTry at h
  cases e : body env μ with
  | nx env1 μ1 => rw [e] at h; exact h
  | rt d μ1 => rw [e] at h; exact h
  | bk env1 μ1 => rw [e] at h; exact h
  | ct env1 μ1 => rw [e] at h; exact h
  | no => rw [e] at h; exact h
  | ex x env1 μ1 =>
    rw [e] at h
    intro ρ1 H1 σ1 cls d e1 a1 rx
    have h2 : Ps ⟨k, w, none⟩ (hands k x hs env1 μ1) ρ1 H1 D W := Ps.mono e1 h
    clear h
    have ec := rx.1
    subst ec
    clear hb
    induction hh with
    | nil => exact h2 ρ1 H1 σ1 _ d Ext.refl a1 rx
    | @cons c ts s l m hs1 r ih =>
      unfold hands at h2
      cases ex : PySem.W.exmOne k (.ref x.c) c with
      | none => simp only [ex] at h2; exact h2.elim
      | some b =>
        refine ⟨b, ex, fun hbt a ha => ?_, fun hbf => ?_⟩
        · subst hbt
          simp only [ex] at h2
          exact hs1 a _ d _ _ _ _ _ _ a1 h2
        · subst hbf
          simp only [ex] at h2
          exact ih h2
end
/-! ### the exception within its suite -/
section
variable {k : PySem.W.Frag} {w : World}
def rIsX (k : PySem.W.Frag) (cls : Value) (d : Option Addr) (a : Addr) : List V → Hp → VK → Prop := fun xs H Q => ∃ (c : V) (cv : Value) (b : Bool) (C : Addr), xs = [.ref a, c] ∧ (∀ u, RelV c u → u = cv) ∧ cls = .ref C ∧ L2.ExcC k C ∧ (d = none ∨ ∃ dd fs, d = some dd ∧ H dd = some (.xd fs)) ∧ PySem.W.kitOne k (.ref C) cv = some b ∧ Q (.bl b) H
theorem oIsX {X : Cx} {a : Addr} {oe : Obj} {cls : Value} {d : Option Addr} {pn : List (Addr × Obj)} (hz : Zc cls d oe) (hf : ∃ vs, oe.data = .fields vs) : CallR (X.suite a ((a, oe) :: pn)) (.builtin "isinstance") (rIsX X.K cls d a) := by
  intro pins s σ H xs us Q I r h
  obtain ⟨c, cv, b, C, rfl, hcv, rfl, EC, hd, e, q⟩ := h
  cases r with
  | cons rx rr =>
    cases rr with
    | cons rt rr =>
      cases rr
      cases rx
      have ec := hcv _ rt
      subst ec
      obtain ⟨hget, _⟩ := I.pin (a, oe) (List.mem_append.mpr (.inl List.mem_cons_self))
      obtain ⟨vs, hv⟩ := hf
      obtain ⟨od, J⟩ : ∃ od, PySem.W.InstAt s.heap a oe C od := by
        obtain ⟨oc, od, oda, osl⟩ := oe
        obtain ⟨h1, h2⟩ := hz
        dsimp only at h1 h2 hv
        subst h1 h2 hv
        rcases hd with rfl | ⟨dd, fs, rfl, hx⟩
        · exact ⟨none, hget, rfl, rfl, trivial⟩
        · have hx : ObjOk X.prog X.w H s.heap dd (.xd fs) := I.hok dd _ hx
          obtain ⟨mA, hns, _⟩ := hx
          obtain ⟨o2, ho, _⟩ := lookIn_ns hns
          exact ⟨some o2, hget, rfl, rfl, ho⟩
      have hcl : (PySem.W.clsIn X.K C).isSome = true := by
        obtain ⟨cd, hc, _⟩ := PySem.W.any_some EC.hd
        rw [hc]; rfl
      exact PySem.W.kia_one (PySem.W.kitx_exc hcl EC.hg EC.hk EC.hs EC.ha EC.hn EC.ht EC.hm) I.kIn J e (fun z => nomatch z) fun tk => ⟨.bl b, H, I.kept (t' := tk) fun _ _ z => z, rfl, q⟩
open Classical in
noncomputable def fIsX (k : PySem.W.Frag) (x : Exn) (cv : Value) : F := fun _ μ => if L2.ExcC k x.c then match PySem.W.kitOne k (.ref x.c) cv with
    | some b => .ok (.bl b) μ
    | none => .no
  else .no
theorem rx_dict {ρ : List Addr} {H : Hp} {c : Value} {d : Option Addr} {x : Exn} {K : KW} (h : RX K ρ H c d x) : d = none ∨ ∃ dd fs, d = some dd ∧ H dd = some (.xd fs) := by
  have h2 := h.2
  cases hx : x.fs with
  | none => rw [hx] at h2; exact .inl h2
  | some fs => rw [hx] at h2; obtain ⟨dx, vs, e, q, _⟩ := h2; exact .inr ⟨dx, vs, e, q⟩
theorem tef_isX {W : WX} {i : Nat} {a : Addr} {d : Option Addr} {x : Exn} {cV : V} {cv : Value} (hc : ∀ u, RelV cV u → u = cv) : TEf ⟨k, w, some (i, a, d, x)⟩ W (tCB (rIsX k (.ref x.c) d a) (tCons (tVar i) (tCons (tC cV) tNil))) (fIsX k x cv) := by
  intro σ H Q env μ ρ at_ h
  obtain ⟨h1, h2⟩ := at_.xa i a d x rfl
  unfold fIsX at h
  by_cases c : L2.ExcC k x.c
  · rw [if_pos c] at h
    cases e : PySem.W.kitOne k (.ref x.c) cv with
    | none => rw [e] at h; exact h.elim
    | some b =>
      rw [e] at h
      exact ⟨_, h1, cV, cv, b, x.c, rfl, hc, rfl, c, rx_dict h2, e, Pa.ok (rel := RV _) h at_.rp (.bl b)⟩
  · rw [if_neg c] at h
    exact h.elim
def fXf (x : Exn) (C : Addr) (f : Str) : F := fun _ μ => if x.c = C then match x.fs with
    | some fs => match fs.lookup f with
      | some d => .ok d μ
      | none => .no
    | none => .no
  else .no
theorem rf_look {K : KW} {ρ : List Addr} {H : Hp} {f : Str} {d : D} {vs : List (Str × V)} {ds : List (Str × D)} (h : RF K ρ H vs ds) (e : ds.lookup f = some d) : ∃ v, vs.lookup f = some v ∧ RV K ρ H v d := by
  induction h with
  | nil => cases e
  | @cons g v d' vs ds r rr ih =>
    rw [List.lookup_cons] at e ⊢
    cases q : f == g with
    | true => rw [q] at e; cases e; exact ⟨v, rfl, r⟩
    | false => rw [q] at e; exact ih e
theorem tef_xf {W : WX} {i : Nat} {a C : Addr} {d : Option Addr} {x : Exn} {f : Str} : TEf ⟨k, w, some (i, a, d, x)⟩ W (tXf a (.ref x.c) d C f (tVar i)) (fXf x C f) := by
  intro σ H Q env μ ρ at_ h
  obtain ⟨h1, h2⟩ := at_.xa i a d x rfl
  unfold fXf at h
  by_cases c : x.c = C
  · rw [if_pos c] at h
    cases e : x.fs with
    | none => simp only [e] at h; exact h.elim
    | some fs =>
      simp only [e] at h
      have h2 := h2.2
      rw [e] at h2
      obtain ⟨dx, vs, e1, e2, e3⟩ := h2
      cases e4 : fs.lookup f with
      | none => simp only [e4] at h; exact h.elim
      | some dd =>
        simp only [e4] at h
        obtain ⟨v, v1, v2⟩ := rf_look e3 e4
        exact ⟨_, h1, rfl, by rw [c], dx, vs, v, e1, e2, v1, Pa.ok (rel := RV _) h at_.rp v2⟩
  · rw [if_neg c] at h
    exact h.elim
end
/-! ### own exceptions with one field -/
/-- what __init__ does: self.f = v -/
def spX (K : PySem.W.Frag) (f : Str) : Sp := fun vs H Q _ => ∃ (a C : Addr) (v : V), vs = [.ref a, v] ∧ OexC K C ∧ PySem.W.findIn K (.ref C) f = some none ∧ H a = some (exo a C none) ∧ ∀ dx, H dx = none → dx ≠ a → Q .non (upd (upd H dx (exd dx [(f, v)])) a (exo a C (some dx)))
structure FexTxt (P : Program) (w : World) (K : PySem.W.Frag) (mg : Str → Option Value) (base : Heap) (x : Str) (C : Addr) (f : Str) : Prop where
  gC : mg x = some (.ref C)
  ox : OexC K C
  fld : PySem.W.findIn K (.ref C) f = some none
  ini : ∃ (fI : Addr) (fd : FuncData) (p : Str), PySem.W.findIn K (.ref C) "__init__" = some (some (.ref fI)) ∧ PySem.W.typeIn K (.ref fI) = some (.type "function") ∧ Binds K fd ["self", p] [] ∧ FnOk P w K mg base (L2.CX P w) 1 fI fd ["self", p] (spX K f)
section
variable {X : Cx} {C : Addr} {f x : Str}
theorem pmk_fex {e : Expr} {p pos : Pos} {te : TE} {k : Nat} (T : FexTxt X.prog X.w X.K X.mg X.base x C f) (hr : Room (k + 1) X.A) (hg : Gl X x) (he : PE X e te) (hk : 1 ≤ k := by decide) (hd : (x == ("__debug__" : Str)) = false := by decide)
    (h1 : starEach [e] X.env = (false, eval e X.env) :: starEach [] X.env := by rfl) (h2 : (backTo pos (starEach [] X.env)).any (·.1) = false := by rfl) :
    PMk X (.Call (.Name x p) [e] [] pos) (tMkO C (spX X.K f) [] (tCons te tNil)) := by
  obtain ⟨fI, fd, p', i1, i2, bd, F⟩ := T.ini
  exact pmk_oex (sp := spX X.K f) (dvs := []) (ds := []) T.ox i1 i2 (F.mono hk) hr bd .nil passL hg T.gC (pa_cons he pa_nil h1) hd h1 h2
end
def sRaise1 (c : Addr) (f : Str) (fe : F) : S := fun env μ => (fe env μ).toS env fun d μ1 => .ex ⟨c, some [(f, d)]⟩ env μ1
theorem tsf_raise1 {K : KW} {W : WX} {C : Addr} {f : Str} {te : TE} {fe : F} (hx : OexC K C) (hf : PySem.W.findIn K (.ref C) f = some none) (he : TEf K W te fe) :
    TSf K W (fun _ σ H => tMkO C (spX K f) [] (tCons te tNil) σ H fun cls d H' => W cls d σ H') (sRaise1 C f fe) := by
  intro σ H D env μ ρ at_ h
  refine he.goS at_ h fun ρ1 H1 v d μ1 e1 a1 r1 q => ?_
  refine ⟨(show 1 ≤ 1000 by decide), fun a ha => ⟨a, C, v, rfl, hx, hf, upd_same, fun dx h1 h2 => ?_⟩⟩
  have h3 : H1 dx = none := by rw [← h1, upd_ne h2]
  have e1' : (upd (upd (upd H1 a (exo a C none)) dx (exd dx [(f, v)])) a (exo a C (some dx))) dx = some (exd dx [(f, v)]) := by rw [upd_ne h2, upd_same]
  refine ⟨rfl, dx, [(f, v)], upd_same, e1', h3, ?_⟩
  have eq : upd (del (upd (upd (upd H1 a (exo a C none)) dx (exd dx [(f, v)])) a (exo a C (some dx))) a) dx (.xd [(f, v)]) = upd H1 dx (.xd [(f, v)]) := by
    funext b
    by_cases hb : b = dx
    · subst hb; rw [upd_same, upd_same]
    · rw [upd_ne hb, upd_ne hb]
      by_cases hba : b = a
      · subst hba; rw [del_same, ha]
      · rw [del_ne hba, upd_ne hba, upd_ne hb, upd_ne hba]
  rw [eq]
  have ee := ext_upd (K := K) ρ1 (o := .xd [(f, v)]) (Wr.none h3)
  exact q ρ1 _ σ _ _ ee (a1.ext ee (a1.rp.side h3)) ⟨rfl, dx, [(f, v)], rfl, upd_same, .cons (r1.ext ee) .nil⟩
/-! ### own classes -/
def putD (f : Str) (d : D) : List (Str × D) → List (Str × D)
  | [] => [(f, d)]
  | (g, x) :: r => if g = f then (g, d) :: r else (g, x) :: putD f d r
theorem rf_put {K : KW} {ρ : List Addr} {H : Hp} {f : Str} {v : V} {d : D} (r : RV K ρ H v d) {vs : List (Str × V)} {ds : List (Str × D)} (h : RF K ρ H vs ds) : RF K ρ H (putF f v vs) (putD f d ds) := by
  induction h with
  | nil => exact .cons r .nil
  | @cons g v' d' vs ds r' rr ih =>
    unfold putF putD
    split
    · exact .cons r rr
    · exact .cons r' ih
theorem rf_len {κ : Type} {K : KW} {ρ : List Addr} {H : Hp} {vs : List (κ × V)} {ds : List (κ × D)} (h : RF K ρ H vs ds) : vs.length = ds.length := by
  induction h with
  | nil => rfl
  | cons _ _ ih => simp [ih]
/-- e.f of an instance of C -/
def fldC (C : Addr) (f : Str) (a : D) (μ : Mem) : R D := match a with
  | .cell n => match μ[n]? with
    | some (.ins c fs) => if c = C then match fs.lookup f with
        | some d => .ok d μ
        | none => .no
      else .no
    | _ => .no
  | _ => .no
theorem tef_fld {K : KW} {W : WX} {C : Addr} {f : Str} {te : TE} {fe : F} (hc : Cls K C) (hn : NoAttr K C f) (he : TEf K W te fe) : TEf K W (tFld K te f) (fUn (fldC C f) fe) := by
  intro σ H Q env μ ρ at_ h
  refine he.go at_ h fun ρ1 H1 v d μ1 e1 a1 r1 h1 => ?_
  cases r1 with
  | @cell n a hn' =>
    simp only [fldC] at h1
    cases e : μ1[n]? with
    | none => rw [e] at h1; exact h1.elim
    | some c =>
      rw [e] at h1
      cases c with
      | ins c fs =>
        obtain ⟨dx, vs, q1, q2⟩ := a1.rp.get hn' e
        by_cases hcc : c = C
        · subst hcc
          simp only [if_true] at h1
          cases e2 : fs.lookup f with
          | none => simp only [e2] at h1; exact h1.elim
          | some d =>
            simp only [e2] at h1
            obtain ⟨w, w1, w2⟩ := rf_look q2 e2
            exact ⟨a, c, dx, vs, w, rfl, q1, hc, hn, w1, Pa.ok (rel := RV K) h1 a1.rp w2⟩
        · simp only [if_neg hcc] at h1
          exact h1.elim
      | _ => exact h1.elim
  | _ => exact h1.elim
/-- e.f = d -/
def sFldD (C : Addr) (f : Str) (fe fv : F) : S := fun env μ => (fv env μ).toS env fun d μ1 => (fe env μ1).toS env fun o μ2 => match o with
  | .cell n => match μ2[n]? with
    | some (.ins c fs) => if c = C ∧ fs.length < 1000 then .nx env (μ2.set n (.ins c (putD f d fs))) else .no
    | _ => .no
  | _ => .no
theorem tsf_fld {K : KW} {W : WX} {C : Addr} {f : Str} {te tv : TE} {fe fv : F} (hc : Cls K C) (hn : NoAttr K C f) (he : TEf K W te fe) (hv : TEf K W tv fv) : TSf K W (sFld K te tv f) (sFldD C f fe fv) := by
  intro σ H D env μ ρ at_ h
  refine hv.goS at_ h fun ρ1 H1 v d μ1 e1 a1 r1 h1 => he.goS a1 h1 fun ρ2 H2 ov od μ2 e2 a2 r2 h2 => ?_
  cases r2 with
  | @cell n a hn' =>
    simp only at h2
    cases e : μ2[n]? with
    | none => rw [e] at h2; exact h2.elim
    | some c =>
      rw [e] at h2
      cases c with
      | ins c fs =>
        obtain ⟨dx, vs, q1, q2⟩ := a2.rp.get hn' e
        by_cases hcc : c = C ∧ fs.length < 1000
        · simp only [if_pos hcc] at h2
          obtain ⟨rfl, hl⟩ := hcc
          have ee := ext_upd (K := K) ρ2 (o := .ins c dx (putF f v vs)) (Wr.ins q1)
          exact ⟨a, c, dx, vs, rfl, q1, hc, hn, by rw [rf_len q2]; exact hl, h2 ρ2 _ σ ee (a2.ext ee (a2.rp.write hn' (Wr.ins q1) (c := .ins c (putD f d fs)) ⟨dx, _, upd_same, rf_put ((r1.ext e2).ext ee) (q2.ext ee)⟩))⟩
        · simp only [if_neg hcc] at h2
          exact h2.elim
      | _ => exact h2.elim
  | _ => exact h2.elim
/-- C(..) -/
def fMake (C : Addr) (g : List D → Mem → R D) (n : Nat) (fs : FA) : F := fun env μ => (fs env μ).bind fun ds μ1 => if ds.length + 1 = n then (g (.cell μ1.length :: ds) (μ1 ++ [.ins C []])).bind fun v μ2 => match v with
    | .non => .ok (.cell μ1.length) μ2
    | _ => .no
  else .no
theorem tef_make {K : KW} {W : WX} {C : Addr} {n : Nat} {g : List D → Mem → R D} {ta : TA} {fs : FA} (ha : TAf K W ta fs) : TEf K W (fun σ H Q => tMake C (spD K n g) [] (fun c d H' => W c d σ H') ta σ H Q) (fMake C g n fs) := by
  intro σ H Q env μ ρ at_ h
  refine ha.go at_ h fun ρ1 H1 vs ds μ1 e1 a1 r1 h1 => fun x dx hx hdx hne => ?_
  have h1 : Pd K (if ds.length + 1 = n then (g (.cell μ1.length :: ds) (μ1 ++ [.ins C []])).bind fun v μ2 => match v with
    | .non => .ok (.cell μ1.length) μ2
    | _ => .no
  else .no) ρ1 H1 Q (fun c d H' => W c d σ H') := h1
  by_cases hn : ds.length + 1 = n
  · rw [if_pos hn] at h1
    have hx' : (upd H1 dx (.own x)) x = none := by rw [upd_ne (Ne.symm hne)]; exact hx
    have ea := ext_upd (K := K) ρ1 (o := .own x) (Wr.none hdx)
    have r0 := a1.rp.side (o := .own x) hdx
    have eb := ext_new (K := K) ρ1 (o := .ins C dx []) hx'
    have rb : Rep K (ρ1 ++ [x]) (upd (upd H1 dx (.own x)) x (.ins C dx [])) (μ1 ++ [.ins C []]) := r0.new hx' ⟨dx, [], upd_same, .nil⟩
    have gx : (ρ1 ++ [x])[μ1.length]? = some x := by rw [← a1.rp.len]; simp
    refine ⟨ρ1 ++ [x], μ1 ++ [.ins C []], .cell μ1.length :: ds, rb, ?_, by simpa using hn, ?_⟩
    · rw [List.append_nil]
      exact .cons (.cell gx) ((r1.ext ea).ext eb)
    · have h2 := Pa.mono (ea.trans eb) h1
      refine Pa.imp (Pa.bind h2) ?_ fun _ _ _ z => z
      rintro v H3 ⟨ρ3, d3, μ3, e3, r3, rv, h3⟩
      cases rv with
      | non => exact ⟨rfl, Pa.ok (rel := RV K) h3 r3 (.cell (e3.get gx))⟩
      | _ => exact h3.elim
  · rw [if_neg hn] at h1
    exact h1.elim
end Dv

set_option maxRecDepth 100000
set_option maxHeartbeats 4000000
namespace Dv
open PySem PySem.Spec PyProof.Rows L2
/-- what is known of an own exception with a field -/
structure FexOk (P : Program) (w : World) (K : PySem.W.Frag) (mg : Str → Option Value) (base : Heap) (x : Str) (C : Addr) (f : Str) : Prop extends FexTxt P w K mg base x C f where
  xf : XfC K C
/-! ### a class's __init__ and its methods, what they let out being wished for at the slots -/
structure MakeOk (P : Program) (w : World) (K : PySem.W.Frag) (mg : Str → Option Value) (base : Heap) (x : Str) (C : Addr) (k : Nat) (ps : List Str) (sp : Sp) : Prop where
  ex : ∃ (f : Addr) (fd : FuncData), mg x = some (.ref C) ∧ Mk K C f ∧ Binds K fd ps [] ∧ FnOk P w K mg base (L2.CX P w) k f fd ps sp
structure MethOk (P : Program) (w : World) (K : PySem.W.Frag) (mg : Str → Option Value) (base : Heap) (C : Addr) (m : Str) (k : Nat) (ps : List Str) (sp : Sp) : Prop where
  ex : ∃ (f : Addr) (fd : FuncData), Cls K C ∧ Meth K C m f ∧ Binds K fd ps [] ∧ FnOk P w K mg base (L2.CX P w) k f fd ps sp
section
variable {X : Cx} {C : Addr} {k j : Nat} {ps : List Str} {sp : Sp} {x m : Str} {W : WX}
def tMk (C : Addr) (sp : Sp) (W : WX) (t : TA) : TE := fun σ H Q => t σ H fun vs H1 => ∀ x dx, H1 x = none → H1 dx = none → dx ≠ x →
  sp (.ref x :: vs) (upd (upd H1 dx (.own x)) x (.ins C dx [])) (fun v H2 => v = .non ∧ Q (.ref x) H2) fun c d H2 => W c d σ H2
theorem made_at {f : Addr} {fd : FuncData} {pins : List (Addr × Obj)} {slots : L2.St} {G : Hp} {st : Shared} {Q : VK} {E1 : XK} {us : List Value} {vs : List V} (mk : Mk X.K C f) (fn : FnOk X.prog X.w X.K X.mg X.base (L2.CX X.prog X.w) k f fd ps sp)
    (room : Room (k + 1) X.A) (bd : Binds X.K fd ps []) (out : PassesAt (L2.CX X.prog X.w) X slots E1) (inv : Inv X pins slots G st) (rv : Vals vs us)
    (wish : ∀ x dx, G x = none → G dx = none → dx ≠ x → sp (.ref x :: vs) (upd (upd G dx (.own x)) x (.ins C dx [])) (fun v H2 => v = .non ∧ Q (.ref x) H2) E1) :
    wpAny (model X.prog X.w) X.A (call (.ref C) us) (EP X pins slots Q) X.xe st := by
  have n1 : G st.heap.objs.size = none := inv.hok.fresh (Nat.le_refl _)
  have n2 : G (st.heap.objs.size + 1) = none := inv.hok.fresh (Nat.le_succ _)
  have want := wish _ _ n2 n1 (Nat.ne_of_lt (Nat.lt_succ_self _))
  have inv2 := Inv.made (C := C) inv
  have rv2 : Vals (V.ref (st.heap.objs.size + 1) :: vs) (Value.ref (st.heap.objs.size + 1) :: us) := .cons rfl rv
  have ln : (Value.ref (st.heap.objs.size + 1) :: us).length = ps.length := by rw [← rv2.length]; exact fn.len _ _ _ _ want
  have b2 := bd _ (Value.ref (st.heap.objs.size + 1) :: us) inv2.kIn (by rw [List.append_nil]; exact ln)
  rw [List.append_nil] at b2
  have ran := fn.run _ X.stack _ _ ⟨Value.ref (st.heap.objs.size + 1) :: us, []⟩ (Value.ref (st.heap.objs.size + 1) :: us) _ _ E1 (room.make C us []) (inv2.env0.make C us []) b2 rv2 want
  refine wpAny_call (make_map (f := f) inv.kIn mk.makes mk.init (beq_iff_eq.mp mk.fn) (codeAny_mono ran fun res st' fin => ?_))
  match res, fin with
  | .error er, fin => exact out pins _ _ er st' inv2 fin
  | .ok (.ret u), fin =>
    obtain ⟨v, H3, inv3, rv3, ev, q3⟩ := inv2.after fin
    subst ev
    exact ⟨rv3, ⟨V.ref (st.heap.objs.size + 1), H3, inv3, rfl, q3⟩⟩
  | .ok .next, fin => exact fin.elim
  | .ok .brk, fin => exact fin.elim
  | .ok .cont, fin => exact fin.elim
theorem pe_mkS {e : Expr} {es : List Expr} {p pos : Pos} {ta : TA} (tk : Takes X W) (T : MakeOk X.prog X.w X.K X.mg X.base x C k ps sp) (hr : Room j X.A) (hg : Gl X x) (ha : PA X (e :: es) ta) (hj : k + 1 ≤ j := by decide)
    (hdb : (x == ("__debug__" : Str)) = false := by decide) (he : starEach (e :: es) X.env = (false, eval e X.env) :: starEach es X.env := by rfl) (hpl : (backTo pos (starEach es X.env)).any (·.1) = false := by rfl) :
    PE X (.Call (.Name x p) (e :: es) [] pos) (tMk C sp W ta) := by
  obtain ⟨f, fd, hm, mk, bd, fn⟩ := T.ex
  refine ⟨fun pins st slots G Q inv want => wpAny_Call_Name_kw (ld_glob inv hg hm ?_ hdb)⟩
  refine PySem.W.callWith_K (h₀ := X.base) inv.ok.mod.kin mk.kp (thn (ha.run pos pins st slots G _ inv want) fun us s1 got => ?_) he hpl
  obtain ⟨vs, H1, inv1, rv, q⟩ := got
  exact ⟨inv1.kIn, made_at mk fn (hr.mono hj) bd (passAt tk slots) inv1 rv q⟩
def tMt (C : Addr) (m : Str) (sp : Sp) (W : WX) (ta : TE) (t : TA) : TE := fun σ H Q => ta σ H fun x H1 => ∃ a dx fs, x = .ref a ∧ H1 a = some (.ins C dx fs) ∧ fs.lookup m = none ∧
  t σ H1 fun vs H2 => sp (x :: vs) H2 Q fun c d H2 => W c d σ H2
theorem pe_mtS {o e : Expr} {es : List Expr} {apos pos : Pos} {to : TE} {ta : TA} {pl : Sem Bool} (tk : Takes X W) (T : MethOk X.prog X.w X.K X.mg X.base C m k ps sp) (hr : Room j X.A) (ho : PE X o to) (ha : PA X (e :: es) ta) (hj : k ≤ j := by decide)
    (hst : starEach (e :: es) X.env = (false, eval e X.env) :: starEach es X.env := by rfl) (hpl : (backTo pos (starEach es X.env)).any (·.1) = false := by rfl)
    (ht : eval (.Call (.Attribute o m apos) (e :: es) [] pos) X.env = (do
      let recv ← eval o X.env
      standAt apos.atName
      let (g, first) ← holding [recv] (getMethod recv m pl)
      callWith pos g first (backTo pos (starEach (e :: es) X.env)) (backToKw pos (keywordEach [] X.env))) := by rfl) :
    PE X (.Call (.Attribute o m apos) (e :: es) [] pos) (tMt C m sp W to ta) := by
  obtain ⟨f, fd, cl, mt, bd, fn⟩ := T.ex
  refine ⟨fun pins st slots G Q inv want => PySem.W.methodCall_KW (pl := pl) (thn (ho.run pins st slots G _ inv want) fun u s1 got => ?_) ht⟩
  obtain ⟨x, H1, inv1, rx, a, dx, fs, ex, ea, l, q⟩ := got
  subst ex
  obtain rfl : u = Value.ref a := rx
  refine getmeth_ok inv1 ea cl mt l ?_
  refine PySem.W.callWith_K (first := [.ref a]) (h₀ := X.base) inv.ok.mod.kin mt.kp (thn (ha.run pos pins s1 slots H1 _ inv1 q) fun us s2 got2 => ?_) hst hpl
  obtain ⟨vs, H2, inv2, rv, q2⟩ := got2
  exact ⟨inv2.kIn, run_fnS (E := fun σ => WE W σ) (us := .ref a :: us) (vs := .ref a :: vs) fn (hr.mono hj) bd (passAt tk slots) inv2 (.cons rfl rv) q2⟩
theorem pe_mtS0 {o : Expr} {apos pos : Pos} {to : TE} {pl : Sem Bool} (tk : Takes X W) (T : MethOk X.prog X.w X.K X.mg X.base C m k ps sp) (hr : Room j X.A) (ho : PE X o to) (hj : k ≤ j := by decide)
    (ht : eval (.Call (.Attribute o m apos) [] [] pos) X.env = (do
      let recv ← eval o X.env
      standAt apos.atName
      let (g, first) ← holding [recv] (getMethod recv m pl)
      callWith pos g first (backTo pos (starEach [] X.env)) (backToKw pos (keywordEach [] X.env))) := by rfl) :
    PE X (.Call (.Attribute o m apos) [] [] pos) (tMt C m sp W to tNil) := by
  obtain ⟨f, fd, cl, mt, bd, fn⟩ := T.ex
  refine ⟨fun pins st slots G Q inv want => PySem.W.methodCall_KW (pl := pl) (thn (ho.run pins st slots G _ inv want) fun u s1 got => ?_) ht⟩
  obtain ⟨x, H1, inv1, rx, a, dx, fs, ex, ea, l, q⟩ := got
  subst ex
  obtain rfl : u = Value.ref a := rx
  refine getmeth_ok inv1 ea cl mt l ?_
  refine PySem.W.callWith_K0 (first := [.ref a]) inv1.kIn mt.kp ?_
  exact run_fnS (E := fun σ => WE W σ) (us := [.ref a]) (vs := [.ref a]) fn (hr.mono hj) bd (passAt tk slots) inv1 (.cons rfl .nil) q
end
theorem tef_mk {K : KW} {W : WX} {C : Addr} {n : Nat} {g : List D → Mem → R D} {ta : TA} {fs : FA} (ha : TAf K W ta fs) : TEf K W (tMk C (spD K n g) W ta) (fMake C g n fs) := by
  intro σ H Q env μ ρ at_ h
  refine ha.go at_ h fun ρ1 H1 vs ds μ1 e1 a1 r1 h1 => fun x dx hx hdx hne => ?_
  have h1 : Pd K (if ds.length + 1 = n then (g (.cell μ1.length :: ds) (μ1 ++ [.ins C []])).bind fun v μ2 => match v with
    | .non => .ok (.cell μ1.length) μ2
    | _ => .no
  else .no) ρ1 H1 Q (fun c d H' => W c d σ H') := h1
  by_cases hn : ds.length + 1 = n
  · rw [if_pos hn] at h1
    have hx' : (upd H1 dx (.own x)) x = none := by rw [upd_ne (Ne.symm hne)]; exact hx
    have ea := ext_upd (K := K) ρ1 (o := .own x) (Wr.none hdx)
    have r0 := a1.rp.side (o := .own x) hdx
    have eb := ext_new (K := K) ρ1 (o := .ins C dx []) hx'
    have rb : Rep K (ρ1 ++ [x]) (upd (upd H1 dx (.own x)) x (.ins C dx [])) (μ1 ++ [.ins C []]) := r0.new hx' ⟨dx, [], upd_same, .nil⟩
    have gx : (ρ1 ++ [x])[μ1.length]? = some x := by rw [← a1.rp.len]; simp
    refine ⟨ρ1 ++ [x], μ1 ++ [.ins C []], .cell μ1.length :: ds, rb, .cons (.cell gx) ((r1.ext ea).ext eb), by simpa using hn, ?_⟩
    refine Pa.imp (Pa.bind (Pa.mono (ea.trans eb) h1)) ?_ fun _ _ _ z => z
    rintro v H3 ⟨ρ3, d3, μ3, e3, r3, rv, h3⟩
    cases rv with
    | non => exact ⟨rfl, Pa.ok (rel := RV K) h3 r3 (.cell (e3.get gx))⟩
    | _ => exact h3.elim
  · rw [if_neg hn] at h1
    exact h1.elim
/-- o.m(..) of an instance of C -/
def fMeth (C : Addr) (m : Str) (g : List D → Mem → R D) (n : Nat) (fo : F) (fs : FA) : F := fun env μ => (fo env μ).bind fun o μ1 => match o with
  | .cell c => match μ1[c]? with
    | some (.ins C' fl) => if C' = C ∧ fl.lookup m = none then (fs env μ1).bind fun ds μ2 => if ds.length + 1 = n then g (.cell c :: ds) μ2 else .no else .no
    | _ => .no
  | _ => .no
theorem rf_none {K : KW} {ρ : List Addr} {H : Hp} {f : Str} {vs : List (Str × V)} {ds : List (Str × D)} (h : RF K ρ H vs ds) (e : ds.lookup f = none) : vs.lookup f = none := by
  induction h with
  | nil => rfl
  | @cons g v d' vs ds r rr ih =>
    rw [List.lookup_cons] at e ⊢
    cases q : f == g with
    | true => rw [q] at e; cases e
    | false => rw [q] at e; exact ih e
theorem tef_mt {K : KW} {W : WX} {C : Addr} {m : Str} {n : Nat} {g : List D → Mem → R D} {to : TE} {fo : F} {ta : TA} {fs : FA} (ho : TEf K W to fo) (ha : TAf K W ta fs) : TEf K W (tMt C m (spD K n g) W to ta) (fMeth C m g n fo fs) := by
  intro σ H Q env μ ρ at_ h
  refine ho.go at_ h fun ρ1 H1 v d μ1 e1 a1 r1 h1 => ?_
  cases r1 with
  | @cell c a hc =>
    simp only at h1
    cases e : μ1[c]? with
    | none => rw [e] at h1; exact h1.elim
    | some cc =>
      rw [e] at h1
      cases cc with
      | ins C' fl =>
        obtain ⟨dx, vs, q1, q2⟩ := a1.rp.get hc e
        by_cases hcc : C' = C ∧ fl.lookup m = none
        · simp only [if_pos hcc] at h1
          obtain ⟨rfl, hl⟩ := hcc
          refine ⟨a, dx, vs, rfl, q1, rf_none q2 hl, ha.go a1 h1 fun ρ2 H2 ws ds μ2 e2 a2 r2 h2 => ?_⟩
          by_cases hn : ds.length + 1 = n
          · simp only [if_pos hn] at h2
            exact ⟨ρ2, μ2, .cell c :: ds, a2.rp, .cons (.cell (e2.get hc)) r2, by simpa using hn, h2⟩
          · simp only [if_neg hn] at h2
            exact h2.elim
        · simp only [if_neg hcc] at h1
          exact h1.elim
      | _ => exact h1.elim
  | _ => exact h1.elim
end Dv

set_option maxRecDepth 100000
set_option maxHeartbeats 4000000
namespace Dv
open PySem PySem.Spec PyProof.Rows L2
/-! ### the end -/
theorem kit_by {K : PySem.W.Frag} {D C : Addr} {b : Bool} (h2 : PySem.W.isClsIn K C = true) (h3 : PySem.W.typeIn K (.ref C) = some (.type "type")) (h4 : PySem.W.subIn K (.ref D) (.ref C) = some b) (h5 : PySem.W.subIn K (.ref C) (.ref C) = some true) :
    PySem.W.kitOne K (.ref D) (.ref C) = some b := by
  have e2 : ((PySem.W.clsIn K C).isSome && PySem.W.typeIn K (.ref C) == some (.type "type")) = true := by
    have h2' : (PySem.W.clsIn K C).isSome = true := h2
    rw [h2', h3] <;> rfl
  by_cases e : D = C
  · subst e
    rw [h4] at h5
    cases h5
    show (if ((Value.ref D) == Value.ref D) = true then some true else _) = some true
    rw [if_pos (by simp)]
  · show (if ((Value.ref D) == Value.ref C) = true then some true else if ((PySem.W.clsIn K C).isSome && PySem.W.typeIn K (.ref C) == some (.type "type")) = true then PySem.W.subIn K (.ref D) (.ref C) else none) = some b
    rw [if_neg (by simpa using e), if_pos e2, h4]
theorem kit_ve {K : PySem.W.Frag} {D : Addr} (h : PySem.W.subIn K (.ref D) (.type "ValueError") = some true) : PySem.W.kitOne K (.ref D) (.type "ValueError") = some true := by
  show (if ((Value.ref D) == Value.type "ValueError") = true then some true else if PySem.W.kitMeta "ValueError" = true then PySem.W.subIn K (.ref D) (.type "ValueError") else none) = some true
  have e : (Value.ref D == Value.type "ValueError") = false := by simp
  rw [e, if_neg Bool.false_ne_true, if_pos (by decide +kernel), h]
/-- the law's promise, by its function -/
def spLawD (K : PySem.W.Frag) (w : World) : Sp := fun vs H Q _ => ∃ (a : Addr) (ns : List Int), vs = [.ref a] ∧ Fz ⟨K, w, none⟩ H a (ns.map V.int) ∧ ns.length ≤ 63 ∧ ∀ H', Q (.bl true) H'
theorem fz_of {K : PySem.W.Frag} {w : World} {H : Hp} {a : Addr} {xs : List V} (O : Only H) (h : SqL K H a xs) : Fz ⟨K, w, none⟩ H a xs := by
  rcases h with (h | h) | h
  · rcases O a with z | ⟨o, ys, z⟩
    · rw [z] at h; cases h
    · rw [z] at h; cases h
  · exact .inl h
  · exact .inr h
theorem law_imp {K : PySem.W.Frag} {w : World} {g : List D → Mem → R D} (h : ∀ ns : List Int, ns.length ≤ 63 → ∃ μ, g [.scr ns] [] = .ok (.bl true) μ) (vs : List V) (H : Hp) (Q : VK) (E : XK) (s : spLawD K w vs H Q E) : spD ⟨K, w, none⟩ 1 g vs H Q E := by
  obtain ⟨a, ns, rfl, hf, hl, q⟩ := s
  obtain ⟨μ, e⟩ := h ns hl
  refine ⟨[], [], [.scr ns], ⟨rfl, List.nodup_nil, fun n c z => by simp at z⟩, .cons (.scr hf) .nil, rfl, ?_⟩
  show Pd _ (g [.scr ns] []) _ _ _ _
  rw [e]
  intro ρ' H' v _ _ rv
  cases rv
  exact q H'
end Dv

set_option maxRecDepth 100000
set_option maxHeartbeats 4000000
namespace Dv
open PySem PySem.Spec PyProof.Rows L2
/-! ### t == (w,) where t holds anything behind its head -/
def hdB (w : Str) (μ : Mem) : D → Option Bool
  | .non => some false | .bl _ => some false | .int _ => some false | .str z => some (z == w) | .tup _ => some false | .scr _ => some false
  | .cell n => match μ[n]? with
    | some (.lst _) => some false
    | _ => none
  | _ => none
def dEqHd (a b : D) (μ : Mem) : R D := match a, b with
  | .tup xs, .tup [.str w] => match xs with
    | [] => .ok (.bl false) μ
    | d :: r => match hdB w μ d with
      | some b => .ok (.bl (b && r.isEmpty)) μ
      | none => .no
  | _, _ => .no
/-- v == w, v no dict -/
def HdIs (K : PySem.W.Frag) (H : Hp) (w : Str) (v : V) (b : Bool) : Prop := match v with
  | .non => b = false | .bl _ => b = false | .int _ => b = false | .str z => b = (z == w)
  | .ref a => b = false ∧ ((∃ xs, SqL K H a xs) ∨ ∃ xs, SqT K H a xs)
  | _ => False
def rEqHd (K : PySem.W.Frag) : R2 := fun x y H Q => ∃ (a b : Addr) (vs : List V) (w : Str), x = .ref a ∧ y = .ref b ∧ SqT K H a vs ∧ SqT K H b [.str w] ∧ match vs with
  | [] => Q (.bl false) H
  | v :: r => ∃ e, HdIs K H w v e ∧ Q (.bl (e && r.isEmpty)) H
section
variable {X : Cx} {pins : List (Addr × Obj)} {σ : L2.St} {H : Hp} {s : Shared}
theorem hd_eqAt {A : Around} {v : V} {u : Value} {w : Str} {t : Tok} {e : Bool} (I : Inv X pins σ H s) (r : RelV v u) (h : HdIs X.K H w v e) (hu : A.units < cLine) : SeqAt.EqAt A s u (.str w t) e := by
  cases v with
  | non => cases r; cases h; exact SeqAt.EqAt.none_str w t
  | bl b => cases r; cases h; exact SeqAt.EqAt.bool_str b w t
  | int i => obtain ⟨t', rfl⟩ := r; cases h; exact SeqAt.EqAt.int_str i t' w t
  | str z => obtain ⟨t', rfl⟩ := r; cases h; exact SeqAt.EqAt.str_str z t' w t
  | ref a =>
    cases r
    obtain ⟨rfl, h⟩ := h
    rcases h with ⟨xs, h⟩ | ⟨xs, h⟩
    · obtain ⟨its, rv, pl, hz⟩ := I.list h
      exact SeqAt.EqAt.list_str w t pl.isList hu
    · obtain ⟨its, rv, pl, hz⟩ := I.tuple h
      exact SeqAt.EqAt.tuple_str w t pl hu
  | byt _ => exact h.elim
  | flt _ => exact h.elim
  | ty _ => exact h.elim
theorem oEqHd {X : Cx} {K : KW} (hu : X.A.units + 64 < cLine) (hK : X.K = K.K) : OpR X (compareOp .Eq) (rEqHd K) := by
  rw [← hK]
  intro pins s σ H x y v u Q I rx ry h
  obtain ⟨a, b, vs, w, rfl, rfl, ha, hb, q⟩ := h
  cases rx
  cases ry
  obtain ⟨its, rv, pl, hz⟩ := I.tuple ha
  obtain ⟨its2, rv2, pl2, hz2⟩ := I.tuple hb
  have hu1 : X.A.in1.units < cLine := by
    show X.A.units + 1 < cLine
    omega
  cases rv2 with
  | @cons _ u1 _ ur1 ru1 rur1 =>
    cases rur1
    obtain ⟨t, rfl⟩ := ru1
    cases rv with
    | nil =>
      refine SeqAt.eq_tupleAt (e := fun _ => true) pl pl2 (by omega) (fun j h1 h2 => absurd h1 (by simp)) ?_
      exact ⟨.bl _, H, I, rfl, q⟩
    | @cons v0 u0 vr ur ru rur =>
      obtain ⟨e, he, q⟩ := q
      refine SeqAt.eq_tupleAt (e := fun _ => e) pl pl2 (by omega) (fun j h1 h2 => ?_) ?_
      · have hj : j = 0 := by simp at h2; exact h2
        subst hj
        exact hd_eqAt I ru he hu1
      · have hm : min (u0 :: ur).toArray.size [Value.str w t].toArray.size = 1 := by simp
        rw [hm]
        have e0 : ((List.range 1).all (fun _ => e) && (u0 :: ur).toArray.size == [Value.str w t].toArray.size) = (e && vr.isEmpty) := by
          have e1 : (List.range 1).all (fun _ => e) = e := by cases e <;> rfl
          have e2 : ((u0 :: ur).toArray.size == [Value.str w t].toArray.size) = vr.isEmpty := by cases rur <;> simp
          rw [e1, e2]
        rw [e0]
        exact ⟨.bl _, H, I, rfl, q⟩
end
theorem r_eqHd {K : KW} : R2f K (rEqHd K) dEqHd := by
  intro x y a b μ ρ H Q E rp ra rb q
  cases ra with
  | @tup p vs xs h1 h2 =>
    cases rb with
    | @tup p2 ws ys k1 k2 =>
      cases k2 with
      | nil => exact q.elim
      | cons c1 c2 =>
        cases c1 with
        | @str w hw =>
          cases c2 with
          | cons _ _ => exact q.elim
          | nil =>
            refine ⟨p, p2, vs, w, rfl, rfl, h1, k1, ?_⟩
            cases h2 with
            | nil => exact Pa.ok (rel := RV K) q rp (.bl false)
            | @cons v d vr dr r rr =>
              simp only [dEqHd] at q
              cases e : hdB w μ d with
              | none => rw [e] at q; exact q.elim
              | some b =>
                rw [e] at q
                have fin := Pa.ok (rel := RV K) q rp (.bl _)
                rw [← nil_emp rr] at fin
                refine ⟨b, ?_, fin⟩
                cases r with
                | non => cases e; rfl
                | bl _ => cases e; rfl
                | int _ => cases e; rfl
                | str _ => cases e; rfl
                | tup z _ => cases e; exact ⟨rfl, .inr ⟨_, z⟩⟩
                | scr z => cases e; exact ⟨rfl, .inl ⟨_, z.sq⟩⟩
                | @cell n a hn =>
                  simp only [hdB] at e
                  cases m : μ[n]? with
                  | none => rw [m] at e; cases e
                  | some c =>
                    rw [m] at e
                    cases c with
                    | lst ys => cases e; obtain ⟨vs, q1, _⟩ := rp.get hn m; exact ⟨rfl, .inl ⟨_, SqL.of q1⟩⟩
                    | _ => cases e
                | _ => cases e
        | _ => exact q.elim
    | _ => exact q.elim
  | _ => exact q.elim
end Dv

set_option maxRecDepth 100000
set_option maxHeartbeats 4000000
namespace Dv
open PySem PySem.Spec PyProof.Rows L2
/-! ### how functions are read -/
section
variable {env : Env} {μ : Mem}
@[simp] theorem ap_seq {s1 s2 : S} : sSeq s1 s2 env μ = (s1 env μ).then s2 := rfl
@[simp] theorem ap_next : sNext env μ = .nx env μ := rfl
@[simp] theorem ap_ret {f : F} : sRet f env μ = (f env μ).toS env fun d μ1 => .rt d μ1 := rfl
@[simp] theorem ap_retN : sRetN env μ = .rt .non μ := rfl
@[simp] theorem ap_drop {f : F} : sDrop f env μ = (f env μ).toS env fun _ μ1 => .nx env μ1 := rfl
@[simp] theorem ap_break : sBreak env μ = .bk env μ := rfl
@[simp] theorem ap_cont : sCont env μ = .ct env μ := rfl
@[simp] theorem ap_ifS {c : FB} {s1 s2 : S} : sIf c s1 s2 env μ = (c env μ).toS env fun b μ1 => if b = true then s1 env μ1 else s2 env μ1 := rfl
@[simp] theorem ap_asg {f : F} {t : G} : sAsg f t env μ = (f env μ).toS env fun d μ1 => onG (t d env μ1) .nx := rfl
@[simp] theorem ap_par {i j : Nat} {fs : FA} : sPar i j fs env μ = (fs env μ).toS env fun ds μ1 => match ds with
  | [a, b] => .nx ((env.set i (some a)).set j (some b)) μ1
  | _ => .no := rfl
@[simp] theorem ap_gnm {i : Nat} {d : D} : gNm i d env μ = some (env.set i (some d), μ) := rfl
@[simp] theorem ap_gtup {n : Nat} {t : Gs} {xs : List D} : gTupD n t (.tup xs) env μ = if xs.length = n then t xs env μ else none := rfl
@[simp] theorem ap_gcons {t : G} {u : Gs} {d : D} {r : List D} : gsCons t u (d :: r) env μ = (t d env μ).bind fun p => u r p.1 p.2 := rfl
@[simp] theorem ap_gnil : gsNil [] env μ = some (env, μ) := rfl
@[simp] theorem ap_gsub {fo fi : F} {st : D → D → D → Mem → R Unit} {d : D} : gSubD fo fi st d env μ = (fo env μ).get.bind fun o => (fi env o.2).get.bind fun i => (st o.1 i.1 d i.2).get.bind fun m => some (env, m.2) := rfl
@[simp] theorem ap_var {i : Nat} : fVar i env μ = match env[i]? with
  | some (some d) => .ok d μ
  | _ => .no := rfl
@[simp] theorem ap_con {d : D} : fCon d env μ = .ok d μ := rfl
@[simp] theorem ap_op {g : D → D → Mem → R D} {f1 f2 : F} : fOp g f1 f2 env μ = (f1 env μ).bind fun x μ1 => (f2 env μ1).bind fun y μ2 => g x y μ2 := rfl
@[simp] theorem ap_un {g : D → Mem → R D} {f1 : F} : fUn g f1 env μ = (f1 env μ).bind fun x μ1 => g x μ1 := rfl
@[simp] theorem ap_chain {g h : D → D → Mem → R D} {f1 f2 f3 : F} : fChain g h f1 f2 f3 env μ = (f1 env μ).bind fun x μ1 => (f2 env μ1).bind fun y μ2 => (g x y μ2).bind fun z μ3 => match z with
  | .bl b => if b = true then (f3 env μ3).bind fun w μ4 => h y w μ4 else .ok (.bl false) μ3
  | _ => .no := rfl
@[simp] theorem ap_and {f1 f2 : F} : fAnd f1 f2 env μ = (f1 env μ).bind fun x μ1 => match x with
  | .bl b => if b = true then f2 env μ1 else .ok (.bl false) μ1
  | _ => .no := rfl
@[simp] theorem ap_or {f1 f2 : F} : fOr f1 f2 env μ = (f1 env μ).bind fun x μ1 => match x with
  | .bl b => if b = true then .ok (.bl true) μ1 else f2 env μ1
  | _ => .no := rfl
@[simp] theorem ap_not {f1 : F} : fNot f1 env μ = (f1 env μ).bind fun x μ1 => match x with
  | .bl b => .ok (.bl (!b)) μ1
  | _ => .no := rfl
@[simp] theorem ap_if {c : FB} {f1 f2 : F} : fIf c f1 f2 env μ = (c env μ).bind fun b μ1 => if b = true then f1 env μ1 else f2 env μ1 := rfl
@[simp] theorem ap_test {f1 : F} : bTest f1 env μ = (f1 env μ).bind fun x μ1 => match x with
  | .bl b => .ok b μ1
  | _ => .no := rfl
@[simp] theorem ap_bAnd {c1 c2 : FB} : bAnd c1 c2 env μ = (c1 env μ).bind fun b μ1 => if b = true then c2 env μ1 else .ok false μ1 := rfl
@[simp] theorem ap_bOr {c1 c2 : FB} : bOr c1 c2 env μ = (c1 env μ).bind fun b μ1 => if b = true then .ok true μ1 else c2 env μ1 := rfl
@[simp] theorem ap_bNot {c1 : FB} : bNot c1 env μ = (c1 env μ).bind fun b μ1 => .ok (!b) μ1 := rfl
@[simp] theorem ap_bTru {f1 : F} : bTru f1 env μ = (f1 env μ).bind truD := rfl
@[simp] theorem ap_bYes : bYes env μ = .ok true μ := rfl
@[simp] theorem ap_aNil : aNil env μ = .ok [] μ := rfl
@[simp] theorem ap_aCons {f : F} {fs : FA} : aCons f fs env μ = (f env μ).bind fun x μ1 => (fs env μ1).bind fun xs μ2 => .ok (x :: xs) μ2 := rfl
theorem tup_ok {n : Nat} (h : n ≤ 1000) : n ≤ sizeLine := Nat.le_trans h (by decide)
@[simp] theorem ap_tup {fs : FA} : fTup fs env μ = (fs env μ).bind fun xs μ1 => if xs.length ≤ sizeLine then .ok (.tup xs) μ1 else .no := rfl
@[simp] theorem ap_lst {fs : FA} : fLst fs env μ = (fs env μ).bind fun xs μ1 => if xs.length ≤ sizeLine then .ok (.cell μ1.length) (μ1 ++ [.lst xs]) else .no := rfl
@[simp] theorem ap_dct : fDct env μ = .ok (.cell μ.length) (μ ++ [.dK []]) := rfl
@[simp] theorem ap_B {g : List D → Mem → R D} {fs : FA} : fB g fs env μ = (fs env μ).bind g := rfl
@[simp] theorem ap_call {g : List D → Mem → R D} {fs : FA} : fCall g fs env μ = (fs env μ).bind g := rfl
@[simp] theorem ap_call0 {g : List D → Mem → R D} {fs : FA} : fCall0 g fs env μ = (fs env μ).bind fun ds μ1 => noEx (g ds μ1) := rfl
@[simp] theorem ap_sl {g : D → Option Int → Option Int → Mem → R D} {f : F} {lo hi : FO} : fSl g f lo hi env μ = (f env μ).bind fun x μ1 => (lo env μ1).bind fun l μ2 => (hi env μ2).bind fun h μ3 => g x l h μ3 := rfl
@[simp] theorem ap_oNo : oNo env μ = .ok none μ := rfl
@[simp] theorem ap_oAt {f : F} : oAt f env μ = (f env μ).bind fun x μ1 => match x with
  | .int i => .ok (some i) μ1
  | _ => .no := rfl
@[simp] theorem ap_me {T : String} {g : D → List D → Mem → R D} {fo : F} {fs : FA} : fMe T g fo fs env μ = (fo env μ).bind fun x μ1 => if tyM T μ1 x = true then (fs env μ1).bind fun xs μ2 => g x xs μ2 else .no := rfl
@[simp] theorem ap_me0 {T : String} {g : D → List D → Mem → R D} {fo : F} : fMe0 T g fo env μ = (fo env μ).bind fun x μ1 => if tyM T μ1 x = true then g x [] μ1 else .no := rfl
@[simp] theorem ap_lstRg {f : F} : fLstRg1 f env μ = (f env μ).bind fun x μ1 => match x with
  | .int n => if rgOk 0 n then .ok (.cell μ1.length) (μ1 ++ [.lst (rngD 0 (n - 0).toNat)]) else .no
  | _ => .no := rfl
@[simp] theorem ap_tupRg {f : F} : fTupRg1 f env μ = (f env μ).bind fun x μ1 => match x with
  | .int n => if rgOk 0 n then .ok (.tup (rngD 0 (n - 0).toNat)) μ1 else .no
  | _ => .no := rfl
@[simp] theorem ap_for {f : FI} {t : G} {b : S} : sFor f t b env μ = (f env μ).toS env fun it μ1 => forGo t b it.guard it.items env μ1 := rfl
@[simp] theorem ap_iTup {f : F} : iTupD f env μ = (f env μ).bind fun d μ1 => match d with
  | .tup xs => .ok ⟨xs, []⟩ μ1
  | _ => .no := rfl
@[simp] theorem ap_iLst {f : F} : iLstD f env μ = (f env μ).bind fun d μ1 => match d with
  | .cell n => match μ1[n]? with
    | some (.lst xs) => .ok ⟨xs, [(n, xs)]⟩ μ1
    | _ => .no
  | .scr ns => .ok ⟨ns.map .int, []⟩ μ1
  | _ => .no := rfl
@[simp] theorem ap_iStr {f : F} : iStrD f env μ = (f env μ).bind fun d μ1 => match d with
  | .str z => .ok ⟨z.cps.toList.map fun c => .str ⟨#[c]⟩, []⟩ μ1
  | _ => .no := rfl
@[simp] theorem ap_iRng1 {fs : FA} : iRng1D fs env μ = (fs env μ).bind fun ds μ1 => match ds with
  | [.int j] => if smallR j then .ok ⟨rngD 0 j.toNat, []⟩ μ1 else .no
  | _ => .no := rfl
@[simp] theorem ap_iRng2 {fs : FA} : iRng2D fs env μ = (fs env μ).bind fun ds μ1 => match ds with
  | [.int i, .int j] => if smallR i ∧ smallR j then .ok ⟨rngD i (j - i).toNat, []⟩ μ1 else .no
  | _ => .no := rfl
@[simp] theorem ap_raise0 {c : Addr} : sRaise0 c env μ = .ex ⟨c, none⟩ env μ := rfl
@[simp] theorem ap_raise1 {c : Addr} {f : Str} {fe : F} : sRaise1 c f fe env μ = (fe env μ).toS env fun d μ1 => .ex ⟨c, some [(f, d)]⟩ env μ1 := rfl
end
/-! ways -/
section
variable {α β : Type} {p : Prop} [Decidable p]
@[simp] theorem ite_bind {a b : R α} {k : α → Mem → R β} : (if p then a else b).bind k = if p then a.bind k else b.bind k := by split <;> rfl
@[simp] theorem ite_toS {a b : R α} {env : Env} {k : α → Mem → RS} : (if p then a else b).toS env k = if p then a.toS env k else b.toS env k := by split <;> rfl
@[simp] theorem ite_then {a b : RS} {k : Env → Mem → RS} : (if p then a else b).then k = if p then a.then k else b.then k := by split <;> rfl
@[simp] theorem ite_out {a b : RS} : outS (if p then a else b) = if p then outS a else outS b := by split <;> rfl
@[simp] theorem ite_noEx {a b : R α} : noEx (if p then a else b) = if p then noEx a else noEx b := by split <;> rfl
@[simp] theorem ite_get {a b : R α} : (if p then a else b).get = if p then a.get else b.get := by split <;> rfl
end
@[simp] theorem noEx_no {α : Type} : noEx (R.no : R α) = .no := rfl
@[simp] theorem noEx_ex {α : Type} {x : Exn} {μ : Mem} : noEx (R.ex x μ : R α) = .no := rfl
@[simp] theorem get_no {α : Type} : (R.no : R α).get = none := rfl
theorem runB_def {s : S} {n : Nat} {ds : List D} {μ : Mem} : runB s n ds μ = outS (s (env0 n ds) μ) := rfl
/-! plain things -/
@[simp] theorem dSub_ii {i j : Int} {μ : Mem} : dSub (.int i) (.int j) μ = .ok (.int (i - j)) μ := rfl
@[simp] theorem dAddG_ii {i j : Int} {μ : Mem} : dAddG (.int i) (.int j) μ = .ok (.int (i + j)) μ := rfl
@[simp] theorem dAddG_tt {xs ys : List D} {μ : Mem} : dAddG (.tup xs) (.tup ys) μ = if xs.length + ys.length ≤ sizeLine then .ok (.tup (xs ++ ys)) μ else .no := rfl
@[simp] theorem dLt_ii {i j : Int} {μ : Mem} : dLt (.int i) (.int j) μ = .ok (.bl (decide (i < j))) μ := rfl
@[simp] theorem dLe_ii {i j : Int} {μ : Mem} : dLe (.int i) (.int j) μ = .ok (.bl (decide (i ≤ j))) μ := rfl
@[simp] theorem dGt_ii {i j : Int} {μ : Mem} : dGt (.int i) (.int j) μ = .ok (.bl (decide (j < i))) μ := rfl
@[simp] theorem dGe_ii {i j : Int} {μ : Mem} : dGe (.int i) (.int j) μ = .ok (.bl (decide (j ≤ i))) μ := rfl
@[simp] theorem dEq_ii {i j : Int} {μ : Mem} : dEq (.int i) (.int j) μ = .ok (.bl (decide (i = j))) μ := by simp [dEq]
@[simp] theorem dEq_ss {i j : Str} {μ : Mem} : dEq (.str i) (.str j) μ = .ok (.bl (decide (i = j))) μ := by simp [dEq]
@[simp] theorem dNe_ii {i j : Int} {μ : Mem} : dNe (.int i) (.int j) μ = .ok (.bl (!decide (i = j))) μ := by simp [dNe]
@[simp] theorem dNe_ss {i j : Str} {μ : Mem} : dNe (.str i) (.str j) μ = .ok (.bl (!decide (i = j))) μ := by simp [dNe]
@[simp] theorem dIsN_n {a : D} {μ : Mem} : dIsN a .non μ = .ok (.bl (isNon a)) μ := by cases a <;> rfl
@[simp] theorem dNotN_n {a : D} {μ : Mem} : dNotN a .non μ = .ok (.bl (!isNon a)) μ := by cases a <;> rfl
@[simp] theorem tru_bl {b : Bool} {μ : Mem} : truD (.bl b) μ = .ok b μ := rfl
@[simp] theorem int1_i {i : Int} {μ : Mem} : dInt1 [.int i] μ = .ok (.int i) μ := rfl
@[simp] theorem abs_i {i : Int} {μ : Mem} : dAbs [.int i] μ = .ok (.int (if i < 0 then -i else i)) μ := rfl
@[simp] theorem setL_at {n : Nat} {i : Int} {d : D} {μ : Mem} : setL (.cell n) (.int i) d μ = match μ[n]? with
    | some (.lst xs) => match ixN xs.length i with
      | some j => .ok () (μ.set n (.lst (xs.set j d)))
      | none => .no
    | _ => .no := rfl
@[simp] theorem seqOf_tup {μ : Mem} {xs : List D} : seqOf μ (.tup xs) = some xs := rfl
@[simp] theorem setOf_tup {μ : Mem} {xs : List D} : setOf μ (.tup xs) = none := rfl
@[simp] theorem setOf_str {μ : Mem} {z : Str} : setOf μ (.str z) = none := rfl
@[simp] theorem len_tup {μ : Mem} {xs : List D} : dLenG [.tup xs] μ = .ok (.int (xs.length : Int)) μ := rfl
@[simp] theorem len_str {μ : Mem} {z : Str} : dLenG [.str z] μ = .ok (.int (z.length : Int)) μ := rfl
theorem len_cell {μ : Mem} {n : Nat} {xs : List D} (h : μ[n]? = some (.lst xs)) : dLenG [.cell n] μ = .ok (.int (xs.length : Int)) μ := by simp [dLenG, setOf, h, lenD, seqOf]
@[simp] theorem ix_tup' {xs : List D} {i : Int} {μ : Mem} : ixD (.tup xs) (.int i) μ = match atI xs i with
        | some d => .ok d μ
        | none => .no := rfl
theorem ix_cell {μ : Mem} {n : Nat} {xs : List D} {i : Int} (h : μ[n]? = some (.lst xs)) : ixD (.cell n) (.int i) μ = match atI xs i with
        | some d => .ok d μ
        | none => .no := by cases e : atI xs i <;> simp [ixD, seqOf, h, e]
theorem atI_in {α : Type} {xs : List α} {i : Int} (h0 : 0 ≤ i) (h1 : i < (xs.length : Int)) : atI xs i = xs[i.toNat]? := by
  unfold atI ixN
  rw [if_pos h0, if_pos h1]
  rfl
@[simp] theorem at0 {α : Type} {x : α} {xs : List α} : atI (x :: xs) 0 = some x := by rw [atI_in (by omega) (by simp)]; rfl
@[simp] theorem at1 {α : Type} {x y : α} {xs : List α} : atI (x :: y :: xs) 1 = some y := by rw [atI_in (by omega) (by simp; omega)]; rfl
@[simp] theorem at2 {α : Type} {x y z : α} {xs : List α} : atI (x :: y :: z :: xs) 2 = some z := by rw [atI_in (by omega) (by simp; omega)]; rfl
@[simp] theorem at3 {α : Type} {x y z u : α} {xs : List α} : atI (x :: y :: z :: u :: xs) 3 = some u := by rw [atI_in (by omega) (by simp; omega)]; rfl
@[simp] theorem at4 {α : Type} {x y z u v : α} {xs : List α} : atI (x :: y :: z :: u :: v :: xs) 4 = some v := by rw [atI_in (by omega) (by simp; omega)]; rfl
@[simp] theorem size1000 {n : Nat} : (n ≤ sizeLine) = (n ≤ 16777216) := by rw [sizeLine_eq]
@[simp] theorem size1000' {n : Nat} : (n < sizeLine) = (n < 16777216) := by rw [sizeLine_eq]
end Dv

set_option maxRecDepth 100000
set_option maxHeartbeats 4000000
namespace Dv
open PySem PySem.Spec PyProof.Rows L2
/-! ### how a run of functions is followed -/
def Nexts (Q : Env → Mem → Prop) (r : RS) : Prop := ∃ env μ, r = .nx env μ ∧ Q env μ
def Ends (Q : D → Mem → Prop) (r : RS) : Prop := ∃ d μ, outS r = .ok d μ ∧ Q d μ
def Gives {α : Type} (Q : α → Mem → Prop) (r : R α) : Prop := ∃ d μ, r = .ok d μ ∧ Q d μ
theorem Nexts.seq {Q : Env → Mem → Prop} {P : D → Mem → Prop} {s1 s2 : S} {env : Env} {μ : Mem} (h : Nexts Q (s1 env μ)) (k : ∀ env μ, Q env μ → Ends P (s2 env μ)) : Ends P (sSeq s1 s2 env μ) := by
  obtain ⟨e1, μ1, e, q⟩ := h
  show Ends P ((s1 env μ).then s2)
  rw [e]; exact k _ _ q
theorem Nexts.seqN {Q P : Env → Mem → Prop} {s1 s2 : S} {env : Env} {μ : Mem} (h : Nexts Q (s1 env μ)) (k : ∀ env μ, Q env μ → Nexts P (s2 env μ)) : Nexts P (sSeq s1 s2 env μ) := by
  obtain ⟨e1, μ1, e, q⟩ := h
  show Nexts P ((s1 env μ).then s2)
  rw [e]; exact k _ _ q
theorem Ends.run {P : D → Mem → Prop} {s : S} {n : Nat} {ds : List D} {μ : Mem} (h : Ends P (s (env0 n ds) μ)) : Gives P (runB s n ds μ) := h
theorem Gives.imp {α : Type} {P Q : α → Mem → Prop} {r : R α} (h : Gives P r) (i : ∀ a μ, P a μ → Q a μ) : Gives Q r := by
  obtain ⟨a, μ, e, p⟩ := h; exact ⟨a, μ, e, i _ _ p⟩
theorem nexts_nx {Q : Env → Mem → Prop} {env : Env} {μ : Mem} (h : Q env μ) : Nexts Q (.nx env μ) := ⟨_, _, rfl, h⟩
theorem ends_rt {Q : D → Mem → Prop} {d : D} {μ : Mem} (h : Q d μ) : Ends Q (.rt d μ) := ⟨_, _, rfl, h⟩
/-- a name is given -/
theorem Gives.asg {α : Type} {Q : D → Mem → Prop} {f : F} {i : Nat} {env : Env} {μ : Mem} (h : Gives Q (f env μ)) : Nexts (fun e m => ∃ d, e = env.set i (some d) ∧ Q d m) (sAsg f (gNm i) env μ) := by
  obtain ⟨d, μ1, e, q⟩ := h
  exact ⟨env.set i (some d), μ1, by rw [ap_asg, e]; rfl, d, rfl, q⟩
/-! comprehensions -/
theorem lc_go {t : G} {c : FB} {e : F} {g : List (Nat × List D)} {n0 : Nat} {env0 : Env} (I : Nat → List D → Mem → Prop) (hg : ∀ i acc μ, I i acc μ → gok g μ) :
    ∀ (items : List D) (k : Nat) (acc : List D) (μ : Mem), (∀ i x acc μ, items[i]? = some x → I (k + i) acc μ → μ[n0]? = some (.lst acc) → ∃ env1 μ1, t x env0 μ = some (env1, μ1) ∧ ((∃ μ2, c env1 μ1 = .ok false μ2 ∧ I (k + i + 1) acc μ2 ∧ μ2[n0]? = some (.lst acc)) ∨ (∃ μ2 y μ3, c env1 μ1 = .ok true μ2 ∧ e env1 μ2 = .ok y μ3 ∧ μ3[n0]? = some (.lst acc) ∧ acc.length < sizeLine ∧ I (k + i + 1) (acc ++ [y]) (μ3.set n0 (.lst (acc ++ [y]))))))
      → I k acc μ → μ[n0]? = some (.lst acc) → ∃ acc' μ', lcGo t c e g n0 env0 items μ = some μ' ∧ I (k + items.length) acc' μ' ∧ μ'[n0]? = some (.lst acc') := by
  intro items
  induction items with
  | nil => intro k acc μ _ hi ha; exact ⟨acc, μ, by unfold lcGo; rw [if_pos (hg _ _ _ hi)], hi, ha⟩
  | cons x xs ih =>
    intro k acc μ hs hi ha
    obtain ⟨env1, μ1, h1, h2⟩ := hs 0 x acc μ rfl hi ha
    have hs' : ∀ i x acc μ, xs[i]? = some x → I (k + 1 + i) acc μ → μ[n0]? = some (.lst acc) → ∃ env1 μ1, t x env0 μ = some (env1, μ1) ∧ ((∃ μ2, c env1 μ1 = .ok false μ2 ∧ I (k + 1 + i + 1) acc μ2 ∧ μ2[n0]? = some (.lst acc)) ∨ (∃ μ2 y μ3, c env1 μ1 = .ok true μ2 ∧ e env1 μ2 = .ok y μ3 ∧ μ3[n0]? = some (.lst acc) ∧ acc.length < sizeLine ∧ I (k + 1 + i + 1) (acc ++ [y]) (μ3.set n0 (.lst (acc ++ [y]))))) := by
      intro i x acc μ hx hI hm
      rw [show k + 1 + i = k + (i + 1) by omega] at hI ⊢
      exact hs (i + 1) x acc μ hx hI hm
    have hk : k + 0 + 1 = k + 1 := rfl
    unfold lcGo
    rw [if_pos (hg _ _ _ hi), h1, Option.bind_some]
    rw [List.length_cons, show k + (xs.length + 1) = k + 1 + xs.length by omega]
    rcases h2 with ⟨μ2, c1, i2, m2⟩ | ⟨μ2, y, μ3, c1, e1, m3, hl, i3⟩
    · rw [c1]
      simp only [get_ok, Option.bind_some, Bool.false_eq_true, if_false]
      exact ih (k + 1) acc μ2 hs' i2 m2
    · rw [c1]
      simp only [get_ok, Option.bind_some, if_true, e1, m3]
      rw [if_pos hl]
      refine ih (k + 1) _ _ hs' i3 ?_
      rw [List.getElem?_set_self (List.getElem?_eq_some_iff.mp m3).1]
/-- a list of what e gives at each -/
theorem lc_map {f : FI} {v : Nat} {e : F} {env : Env} {μ μ1 : Mem} {items : List D} {g : List (Nat × List D)} (hf : f env μ = .ok ⟨items, g⟩ μ1) (I : Nat → List D → Mem → Prop) (hg : ∀ i acc μ, I i acc μ → gok g μ)
    (h0 : I 0 [] (μ1 ++ [.lst []]))
    (hs : ∀ i x acc μ, items[i]? = some x → I i acc μ → μ[μ1.length]? = some (.lst acc) → ∃ y μ3, e (env.set v (some x)) μ = .ok y μ3 ∧ μ3[μ1.length]? = some (.lst acc) ∧ acc.length < sizeLine ∧ I (i + 1) (acc ++ [y]) (μ3.set μ1.length (.lst (acc ++ [y])))) :
    Gives (fun d μ' => ∃ acc, d = .cell μ1.length ∧ I items.length acc μ' ∧ μ'[μ1.length]? = some (.lst acc)) (fLc f (gNm v) bYes e [v] env μ) := by
  obtain ⟨acc, μ', h1, h2, h3⟩ := lc_go (t := gNm v) (c := bYes) (e := e) (g := g) (n0 := μ1.length) (env0 := wipeE env [v]) I hg items 0 [] (μ1 ++ [.lst []]) (fun i x acc μ hx hi hm => by
    obtain ⟨y, μ3, e1, e2, e3, e4⟩ := hs i x acc μ hx (by simpa using hi) hm
    refine ⟨_, _, rfl, .inr ⟨μ, y, μ3, rfl, ?_, e2, e3, by simpa using e4⟩⟩
    rw [← e1]
    congr 1
    simp [wipeE]) h0 (by simp)
  refine ⟨.cell μ1.length, μ', ?_, acc, rfl, by simpa using h2, h3⟩
  unfold fLc
  rw [hf]
  simp only [bind_ok, h1]
/-- nothing else changes -/
theorem lc_pure {f : FI} {v : Nat} {e : F} {env : Env} {μ μ1 : Mem} {items : List D} {g : List (Nat × List D)} (φ : D → D) (hf : f env μ = .ok ⟨items, g⟩ μ1) (hg : gok g μ1) (hl : items.length ≤ sizeLine)
    (hs : ∀ x ∈ items, ∀ acc, e (env.set v (some x)) (μ1 ++ [.lst acc]) = .ok (φ x) (μ1 ++ [.lst acc])) :
    fLc f (gNm v) bYes e [v] env μ = .ok (.cell μ1.length) (μ1 ++ [.lst (items.map φ)]) := by
  obtain ⟨d, μ', h1, acc, rfl, ⟨h2, h3⟩, _⟩ := lc_map (v := v) (e := e) hf (fun i acc m => m = μ1 ++ [.lst acc] ∧ acc = (items.take i).map φ) (fun i acc m q p hp => by
      rw [q.1]
      have := hg p hp
      rw [List.getElem?_append_left (List.getElem?_eq_some_iff.mp this).1]
      exact this) ⟨rfl, by simp⟩ (fun i x acc m hx q _ => by
      obtain ⟨q1, q2⟩ := q
      subst q1
      have hi := (List.getElem?_eq_some_iff.mp hx).1
      refine ⟨_, _, hs x (List.mem_of_getElem? hx) acc, by simp, ?_, ?_, ?_⟩
      · rw [q2, List.length_map, List.length_take]; omega
      · simp
      · rw [q2, List.take_add_one, hx]; simp)
  rw [h1, h2, h3, List.take_of_length_le (Nat.le_refl _)]
/-- those of which c tells yes -/
theorem lc_filter {f : FI} {v : Nat} {c : FB} {e : F} {env : Env} {μ μ1 : Mem} {items : List D} {g : List (Nat × List D)} (p : D → Bool) (φ : D → D) (hf : f env μ = .ok ⟨items, g⟩ μ1) (hg : gok g μ1) (hl : items.length ≤ sizeLine)
    (hc : ∀ x ∈ items, ∀ acc, c (env.set v (some x)) (μ1 ++ [.lst acc]) = .ok (p x) (μ1 ++ [.lst acc]))
    (hs : ∀ x ∈ items, p x = true → ∀ acc, e (env.set v (some x)) (μ1 ++ [.lst acc]) = .ok (φ x) (μ1 ++ [.lst acc])) :
    fLc f (gNm v) c e [v] env μ = .ok (.cell μ1.length) (μ1 ++ [.lst ((items.filter p).map φ)]) := by
  have hw : ∀ x : D, (wipeE env [v]).set v (some x) = env.set v (some x) := fun x => by simp [wipeE]
  obtain ⟨acc, μ', h1, ⟨h2, h3⟩, _⟩ := lc_go (t := gNm v) (c := c) (e := e) (g := g) (n0 := μ1.length) (env0 := wipeE env [v]) (fun i acc m => m = μ1 ++ [.lst acc] ∧ acc = ((items.take i).filter p).map φ) (fun i acc m q z hz => by
      rw [q.1]
      have := hg z hz
      rw [List.getElem?_append_left (List.getElem?_eq_some_iff.mp this).1]
      exact this) items 0 [] (μ1 ++ [.lst []]) (fun i x acc m hx q _ => by
      rw [Nat.zero_add] at q ⊢
      obtain ⟨q1, q2⟩ := q
      subst q1
      have hi := (List.getElem?_eq_some_iff.mp hx).1
      refine ⟨_, _, rfl, ?_⟩
      rw [hw]
      have ht : ((items.take (i + 1)).filter p).map φ = acc ++ if p x = true then [φ x] else [] := by
        rw [List.take_add_one, hx, q2]
        simp [List.filter_append]
        by_cases z : p x = true <;> simp [z]
      by_cases z : p x = true
      · refine .inr ⟨_, _, _, by rw [hc x (List.mem_of_getElem? hx), z], hs x (List.mem_of_getElem? hx) z acc, by simp, ?_, by simp, by rw [ht, if_pos z]⟩
        rw [q2, List.length_map]
        refine Nat.lt_of_le_of_lt (List.length_filter_le _ _) ?_
        rw [List.length_take]; omega
      · refine .inl ⟨_, by rw [hc x (List.mem_of_getElem? hx)]; simp [z], ⟨rfl, by rw [ht, if_neg z, List.append_nil]⟩, by simp⟩) ⟨rfl, by simp⟩ (by simp)
  unfold fLc
  rw [hf]
  simp only [bind_ok, h1]
  rw [h2, h3, Nat.zero_add, List.take_of_length_le (Nat.le_refl _)]
theorem for_go {t : G} {b : S} {g : List (Nat × List D)} (I : Nat → Env → Mem → Prop) (hg : ∀ i env μ, I i env μ → gok g μ) : ∀ (items : List D) (k : Nat) (env : Env) (μ : Mem), (∀ i x env μ, items[i]? = some x → I (k + i) env μ → ∃ e1 μ1, t x env μ = some (e1, μ1) ∧ Nexts (I (k + i + 1)) (b e1 μ1)) → I k env μ → Nexts (I (k + items.length)) (forGo t b g items env μ) := by
  intro items
  induction items with
  | nil => intro k env μ _ hi; unfold forGo; rw [if_pos (hg _ _ _ hi)]; exact ⟨env, μ, rfl, hi⟩
  | cons x xs ih =>
    intro k env μ hs hi
    obtain ⟨e1, μ1, h1, e2, μ2, h2, i2⟩ := hs 0 x env μ rfl hi
    unfold forGo
    rw [if_pos (hg _ _ _ hi), h1, onG_some, h2, List.length_cons, show k + (xs.length + 1) = k + 1 + xs.length by omega]
    exact ih (k + 1) e2 μ2 (fun i x env μ hx hI => by
      rw [show k + 1 + i = k + (i + 1) by omega] at hI ⊢
      exact hs (i + 1) x env μ hx hI) i2
/-! loops that tell no -/
theorem for_all {v : Nat} {b : S} {μ : Mem} {g : List (Nat × List D)} (hg : gok g μ) {p : D → Bool} (J : Env → Prop) : ∀ (items : List D) (env : Env), J env → (∀ x ∈ items, ∀ env, J env → ∃ env', J env' ∧ b (env.set v (some x)) μ = if p x = true then .nx env' μ else .rt (.bl false) μ) →
    ∃ env', J env' ∧ forGo (gNm v) b g items env μ = if items.all p = true then .nx env' μ else .rt (.bl false) μ := by
  intro items
  induction items with
  | nil => intro env j _; exact ⟨env, j, by simp [forGo, hg]⟩
  | cons x xs ih =>
    intro env j h
    obtain ⟨e1, j1, h1⟩ := h x (List.mem_cons_self ..) env j
    obtain ⟨e2, j2, h2⟩ := ih e1 j1 fun y hy => h y (List.mem_cons_of_mem _ hy)
    refine ⟨e2, j2, ?_⟩
    unfold forGo
    rw [if_pos hg, ap_gnm, onG_some, h1]
    by_cases c : p x = true
    · simp only [c, if_true, h2, List.all_cons, Bool.true_and]
    · have c' : p x = false := by simpa using c
      simp only [c', Bool.false_eq_true, if_false, List.all_cons, Bool.false_and]
theorem small_of {n : Nat} (h : n ≤ 16777216) : smallR (n : Int) := ⟨by omega, by omega⟩
theorem rg_of {n : Nat} (h : n ≤ 16777216) : rgOk 0 (n : Int) := RgOk.of_le (by omega) (by omega) (by omega) (by omega)
theorem rng1_ok {fs : FA} {env : Env} {μ μ1 : Mem} {n : Nat} (h : fs env μ = .ok [.int (n : Int)] μ1) (hn : n ≤ 16777216) : iRng1D fs env μ = .ok ⟨rngD 0 n, []⟩ μ1 := by
  unfold iRng1D
  rw [h, bind_ok]
  show (if smallR (n : Int) then _ else _) = _
  rw [if_pos (small_of hn)]
  rfl
theorem lstRg_ok {f : F} {env : Env} {μ μ1 : Mem} {n : Nat} (h : f env μ = .ok (.int (n : Int)) μ1) (hn : n ≤ 16777216) : fLstRg1 f env μ = .ok (.cell μ1.length) (μ1 ++ [.lst (rngD 0 n)]) := by
  unfold fLstRg1
  rw [h, bind_ok]
  show (if rgOk 0 (n : Int) then _ else _) = _
  rw [if_pos (rg_of hn)]
  rfl
theorem append_ok {μ : Mem} {n : Nat} {xs : List D} {d : D} (h : μ[n]? = some (.lst xs)) (hl : xs.length < sizeLine) : mAppend (.cell n) [d] μ = .ok .non (μ.set n (.lst (xs ++ [d]))) := by
  unfold mAppend
  simp only [onLst, h]
  rw [if_pos hl]
theorem ev_0 : type_of% (And.intro @ap_seq (And.intro @ap_next (And.intro @ap_ret (And.intro @ap_retN (And.intro @ap_drop (And.intro @ap_break (And.intro @ap_cont (And.intro @ap_ifS (And.intro @ap_asg (And.intro @ap_par (And.intro @ap_gnm (And.intro @ap_gtup (And.intro @ap_gcons (And.intro @ap_gnil (And.intro @ap_gsub (And.intro @ap_var (And.intro @ap_con (And.intro @ap_op (And.intro @ap_un (And.intro @ap_chain (And.intro @ap_and (And.intro @ap_or (And.intro @ap_not (And.intro @ap_if (And.intro @ap_test (And.intro @ap_bAnd (And.intro @ap_bOr (And.intro @ap_bNot (And.intro @ap_bTru (And.intro @ap_bYes (And.intro @ap_aNil (And.intro @ap_aCons (And.intro @ap_tup (And.intro @ap_lst (And.intro @ap_dct (And.intro @ap_B (And.intro @ap_call (And.intro @ap_call0 (And.intro @ap_sl (@ap_oNo)))))))))))))))))))))))))))))))))))))))) := And.intro @ap_seq (And.intro @ap_next (And.intro @ap_ret (And.intro @ap_retN (And.intro @ap_drop (And.intro @ap_break (And.intro @ap_cont (And.intro @ap_ifS (And.intro @ap_asg (And.intro @ap_par (And.intro @ap_gnm (And.intro @ap_gtup (And.intro @ap_gcons (And.intro @ap_gnil (And.intro @ap_gsub (And.intro @ap_var (And.intro @ap_con (And.intro @ap_op (And.intro @ap_un (And.intro @ap_chain (And.intro @ap_and (And.intro @ap_or (And.intro @ap_not (And.intro @ap_if (And.intro @ap_test (And.intro @ap_bAnd (And.intro @ap_bOr (And.intro @ap_bNot (And.intro @ap_bTru (And.intro @ap_bYes (And.intro @ap_aNil (And.intro @ap_aCons (And.intro @ap_tup (And.intro @ap_lst (And.intro @ap_dct (And.intro @ap_B (And.intro @ap_call (And.intro @ap_call0 (And.intro @ap_sl (@ap_oNo)))))))))))))))))))))))))))))))))))))))
theorem ev_1 : type_of% (And.intro @ap_oAt (And.intro @ap_me (And.intro @ap_me0 (And.intro @ap_for (And.intro @ap_iTup (And.intro @ap_iLst (And.intro @ap_iStr (And.intro @ap_raise0 (And.intro @ap_raise1 (And.intro @bind_ok (And.intro @toS_ok (And.intro @get_ok (And.intro @noEx_ok (And.intro @onG_some (And.intro @then_nx (And.intro @then_rt (And.intro @dEq_ii (And.intro @dEq_ss (And.intro @dNe_ii (And.intro @dNe_ss (And.intro @dLt_ii (And.intro @dLe_ii (And.intro @dGt_ii (And.intro @dGe_ii (And.intro @dAddG_ii (And.intro @dSub_ii (And.intro @int1_i (And.intro @abs_i (And.intro @len_tup (And.intro @len_str (And.intro @ix_tup' (And.intro @tru_bl (And.intro @dIsN_n (And.intro @dNotN_n (And.intro @seqOf_tup (And.intro @setOf_tup (And.intro @Dv.at0 (And.intro @Dv.at1 (And.intro @Dv.at2 (@Dv.at3)))))))))))))))))))))))))))))))))))))))) := And.intro @ap_oAt (And.intro @ap_me (And.intro @ap_me0 (And.intro @ap_for (And.intro @ap_iTup (And.intro @ap_iLst (And.intro @ap_iStr (And.intro @ap_raise0 (And.intro @ap_raise1 (And.intro @bind_ok (And.intro @toS_ok (And.intro @get_ok (And.intro @noEx_ok (And.intro @onG_some (And.intro @then_nx (And.intro @then_rt (And.intro @dEq_ii (And.intro @dEq_ss (And.intro @dNe_ii (And.intro @dNe_ss (And.intro @dLt_ii (And.intro @dLe_ii (And.intro @dGt_ii (And.intro @dGe_ii (And.intro @dAddG_ii (And.intro @dSub_ii (And.intro @int1_i (And.intro @abs_i (And.intro @len_tup (And.intro @len_str (And.intro @ix_tup' (And.intro @tru_bl (And.intro @dIsN_n (And.intro @dNotN_n (And.intro @seqOf_tup (And.intro @setOf_tup (And.intro @Dv.at0 (And.intro @Dv.at1 (And.intro @Dv.at2 (@Dv.at3)))))))))))))))))))))))))))))))))))))))
theorem ev_2 : type_of% (@Dv.at4) := @Dv.at4
end Dv

set_option maxRecDepth 100000
set_option maxHeartbeats 4000000
namespace L2
open PySem PySem.Spec PyProof.Rows
/-! ### a tuple many times over -/
def RepFits (len : Nat) (many : Int) : Prop := 1 ≤ len ∧ 2 ≤ many ∧ len * many.toNat ≤ 1000000
noncomputable instance (len : Nat) (many : Int) : Decidable (RepFits len many) := Classical.propDecidable _
def rRepW (K : PySem.W.Frag) : R2 := fun v w H Q => ∃ (a : Addr) (many : Int) (zs : List V), v = .ref a ∧ w = .int many ∧ SqT K H a zs ∧ RepFits zs.length many ∧
  ∀ p, H p = none → Q (.ref p) (upd H p (.tup (List.replicate many.toNat zs).flatten))
theorem op_repW {X : Cx} : OpR X (binaryOp .Mult) (rRepW X.K) := by
  intro pins s σ H v w tv tw Q I ra rb hyp
  obtain ⟨a, many, zs, rfl, rfl, hS, ⟨f1, f2, f3⟩, go⟩ := hyp
  cases ra
  obtain ⟨tok, rfl⟩ := rb
  obtain ⟨vals, rv, ⟨⟨c0, d0, dat, slots⟩, hobj, hcls, nn, hdat⟩, hsize⟩ := I.tuple hS
  simp only at hcls hdat
  subst hcls hdat
  have same : vals.length = zs.length := rv.length.symm
  have some1 : vals.toArray.isEmpty = false := by
    cases vals with
    | nil => simp at same; omega
    | cons _ _ => rfl
  have prod : vals.length * many.toNat ≤ 1000000 := by rw [same]; exact f3
  have manyle : many.toNat ≤ 1000000 := Nat.le_trans (Nat.le_mul_of_pos_left _ (by omega)) prod
  have prodI : ((vals.toArray.size : Nat) : Int) * many ≤ 1000000 := by
    have e : many = ((many.toNat : Nat) : Int) := (Int.toNat_of_nonneg (by omega)).symm
    rw [List.size_toArray, e]
    have z : ((vals.length * many.toNat : Nat) : Int) ≤ ((1000000 : Nat) : Int) := Int.ofNat_le.mpr prod
    rw [Int.natCast_mul] at z
    exact z
  have flat : (List.replicate many.toNat vals).flatten.length ≤ sizeLine := by
    rw [PyProof.Rows.lm_len_rep_flat, sizeLine_eq, Nat.mul_comm]
    omega
  have q0 : (decide (many < -(2 ^ 63)) || decide (many ≥ 2 ^ 63)) = false := by
    rw [Bool.or_eq_false_iff]
    exact ⟨decide_eq_false (by omega), decide_eq_false (by omega)⟩
  have q1 : (vals.toArray.isEmpty || many == 1) = false := by
    rw [Bool.or_eq_false_iff]
    exact ⟨some1, beq_eq_false_iff_ne.mpr (by omega)⟩
  have q2 : (decide (many ≤ 0) || vals.toArray.isEmpty) = false := by
    rw [Bool.or_eq_false_iff]
    exact ⟨decide_eq_false (by omega), some1⟩
  have q4 : Builtin.Tuple.tupleTooMany (((vals.toArray.size : Nat) : Int) * many) = false := by
    unfold Builtin.Tuple.tupleTooMany
    rw [sizeLine_eq]
    exact decide_eq_false (by omega)
  have made := tuple_mulW a vals.toArray nn d0 slots many tok q0 q1 q2 (by omega) q4 (by rw [size_rep, List.size_toArray]; exact flat)
  refine wpAny_binaryOp_repeat_ref (T := "tuple") (U := "int") (by decide) ⟨_, hobj, rfl⟩ (fun s1 => typeIs_int s1 many tok) noFill_tuple_mul F.fills_int_mul F.slot_int_rmul repeat_tuple F.slot_int_index.lookup ?_
  refine call_meets F.slot_int_rmul (typeIs_int s many tok) F.entry_int_rmul (F.args_int_rmul_2 _ _) (int_rmul_tuple many tok a vals.toArray nn d0 slots) ⟨hobj, rfl, ⟨_, hobj, rfl⟩, ?_⟩
  refine call_meets F.slot_tuple_mul ⟨_, hobj, rfl⟩ F.entry_tuple_mul (F.args_tuple_mul_2 _ _) made ⟨hobj, ?_⟩
  rw [size_rep]
  refine ⟨.ref s.heap.objs.size, _, I.laid (t' := s.toks) (o := .tup (List.replicate many.toNat zs).flatten) (fun _ _ g => Heap.get?_push_of_some _ g) (Nat.le_refl _) ?_, rfl, go _ (I.hok.fresh (Nat.le_refl _))⟩
  exact ⟨by rw [PyProof.Rows.lm_len_rep_flat, sizeLine_eq, Nat.mul_comm]; omega, _, rv.rep many.toNat, IsTup.new _ _⟩
end L2
namespace Dv
open PySem PySem.Spec PyProof.Rows L2
theorem oRepW {X : Cx} {K : KW} (hK : X.K = K.K) : OpR X (binaryOp .Mult) (rRepW K.K) := by rw [← hK]; exact op_repW
noncomputable def dRepW : D → D → Mem → R D
  | .tup xs, .int k, μ => if RepFits xs.length k then .ok (.tup (List.replicate k.toNat xs).flatten) μ else .no
  | _, _, _ => .no
theorem r_repW {K : KW} : R2f K (rRepW K.K) dRepW := by
  intro x y a b μ ρ H Q E rp ra rb q
  cases ra with
  | @tup p vs ds h1 h2 =>
    cases rb with
    | int k =>
      have q : Pd K (if RepFits ds.length k then R.ok (.tup (List.replicate k.toNat ds).flatten) μ else .no) ρ H Q E := q
      by_cases c : RepFits ds.length k
      · rw [if_pos c] at q
        refine ⟨p, k, vs, rfl, rfl, h1, by rw [h2.len]; exact c, fun l hl => ?_⟩
        have ee := ext_upd (K := K) ρ (o := .tup (List.replicate k.toNat vs).flatten) (Wr.none hl)
        exact q ρ _ _ ee (rp.side hl) (.tup (SqT.of upd_same) ((h2.rep k.toNat).ext ee))
      · rw [if_neg c] at q
        exact q.elim
    | _ => exact q.elim
  | _ => exact q.elim
theorem repW_at {xs : List D} {k : Int} {μ : Mem} (h : RepFits xs.length k) : dRepW (.tup xs) (.int k) μ = .ok (.tup (List.replicate k.toNat xs).flatten) μ := by
  show (if RepFits xs.length k then _ else _) = _
  rw [if_pos h]
end Dv

set_option maxRecDepth 100000
set_option maxHeartbeats 4000000
namespace Dv
open PySem PySem.Spec PyProof.Rows L2 TL
/-! ### texts joined -/
def strsOf : List D → Option (List Str)
  | [] => some []
  | .str z :: r => (strsOf r).map fun zs => z :: zs
  | _ :: _ => none
theorem strsOf_eq : ∀ {ds : List D} {zs : List Str}, strsOf ds = some zs → ds = zs.map .str := by
  intro ds
  induction ds with
  | nil => intro zs h; cases h; rfl
  | cons d r ih =>
    intro zs h
    cases d with
    | str z =>
      simp only [strsOf] at h
      cases e : strsOf r with
      | none => rw [e] at h; cases h
      | some ys => rw [e] at h; cases h; rw [ih e]; rfl
    | _ => cases h
theorem strsOf_map : ∀ zs : List Str, strsOf (zs.map .str) = some zs
  | [] => rfl
  | z :: zs => by rw [List.map_cons]; show (strsOf (zs.map .str)).map _ = _; rw [strsOf_map zs]; rfl
theorem strs_rv {K : KW} {ρ : List Addr} {H : Hp} : ∀ {zs : List Str} {vs : List V}, RVs K ρ H vs (zs.map .str) → vs = zs.map V.str ∧ ∀ z ∈ zs, StrV z := by
  intro zs
  induction zs with
  | nil => intro vs r; cases r; exact ⟨rfl, fun z h => (nomatch h)⟩
  | cons z zs ih =>
    intro vs r
    cases r with
    | cons a b =>
      obtain ⟨e, h⟩ := ih b
      cases a with
      | str hz =>
        refine ⟨by rw [e]; rfl, fun y hy => ?_⟩
        rcases List.mem_cons.mp hy with rfl | hy
        · exact hz
        · exact h y hy
def joinFits (a : Str) (zs : List Str) : Prop := (zs.map (·.length)).sum + zs.length * a.length ≤ 16777216
noncomputable instance (a : Str) (zs : List Str) : Decidable (joinFits a zs) := Classical.propDecidable _
theorem joinL_mem {S : List Nat} {c : Nat} : ∀ {ps : List (List Nat)}, c ∈ joinL S ps → c ∈ S ∨ ∃ p ∈ ps, c ∈ p
  | [], h => by cases h
  | [p], h => .inr ⟨p, List.mem_singleton.mpr rfl, h⟩
  | p :: q :: r, h => by
    have h : c ∈ p ++ (S ++ joinL S (q :: r)) := h
    rcases List.mem_append.mp h with h | h
    · exact .inr ⟨p, List.mem_cons_self .., h⟩
    · rcases List.mem_append.mp h with h | h
      · exact .inl h
      · rcases joinL_mem h with h | ⟨x, hx, h⟩
        · exact .inl h
        · exact .inr ⟨x, List.mem_cons_of_mem _ hx, h⟩
theorem joinL_len {S : List Nat} : ∀ {ps : List (List Nat)}, (joinL S ps).length ≤ (ps.map List.length).sum + ps.length * S.length
  | [] => Nat.zero_le _
  | [p] => by
    show p.length ≤ _
    rw [List.map_cons, List.sum_cons]
    exact Nat.le_trans (Nat.le_add_right _ _) (Nat.le_add_right _ _)
  | p :: q :: r => by
    have h : (joinL S (p :: q :: r)).length = p.length + (S.length + (joinL S (q :: r)).length) := by
      show (p ++ (S ++ joinL S (q :: r))).length = _
      rw [List.length_append, List.length_append]
    have := joinL_len (S := S) (ps := q :: r)
    rw [h, List.map_cons, List.sum_cons, List.length_cons (a := p), Nat.add_mul, Nat.one_mul]
    omega
theorem strV_join {a : Str} {zs : List Str} (ha : StrV a) (hz : ∀ z ∈ zs, StrV z) (hf : joinFits a zs) : StrV (Txt.join a zs) := by
  have e : (Txt.join a zs).cps.toList = joinL (tl a) (zs.map tl) := by
    show tl (Txt.join a zs) = _
    rw [join_eq, tl_join]
  refine strV_of e ?_ ?_
  · have h := joinL_len (S := tl a) (ps := zs.map tl)
    have h1 : ((zs.map tl).map List.length) = zs.map (·.length) := by
      rw [List.map_map]
      refine List.map_congr_left fun z _ => ?_
      exact (str_len (z := z)).symm
    rw [h1, List.length_map] at h
    have h2 : (tl a).length = a.length := (str_len (z := a)).symm
    rw [h2] at h
    rw [sizeLine_eq]
    exact Nat.le_trans h hf
  · intro c hc
    rcases joinL_mem hc with h | ⟨p, hp, h⟩
    · exact strV_lt ha c h
    · obtain ⟨z, hz2, rfl⟩ := List.mem_map.mp hp
      exact strV_lt (hz z hz2) c h
/-- sep.join(texts) -/
noncomputable def dJoin (x d : D) (μ : Mem) : R D := match x with
  | .str a => match seqOf μ d with
    | some xs => match strsOf xs with
      | some zs => if joinFits a zs then .ok (.str (Txt.join a zs)) μ else .no
      | none => .no
    | none => .no
  | _ => .no
noncomputable def fJoin (fo fe : F) : F := fun env μ => (fo env μ).bind fun x μ1 => match x with
  | .str a => (fe env μ1).bind fun d μ2 => dJoin (.str a) d μ2
  | _ => .no
def rJoin (K : PySem.W.Frag) : V → List V → Hp → VK → Prop := fun x xs H Q => ∃ a p, ∃ ys : List Str, x = .str a ∧ xs = [.ref p] ∧ (SqL K H p (ys.map V.str) ∨ SqT K H p (ys.map V.str)) ∧ (ys.map (·.length)).sum + ys.length * a.length ≤ 16777216 ∧ Q (.str (Txt.join a ys)) H
theorem tef_join {K : KW} {W : WX} {to te : TE} {fo fe : F} (ho : TEf K W to fo) (he : TEf K W te fe) : TEf K W (tM1 (rJoin K.K) to te) (fJoin fo fe) := by
  intro σ H Q env μ ρ at_ h
  refine ho.go at_ h fun ρ1 H1 v d μ1 e1 a1 r1 h1 => ?_
  cases r1 with
  | @str a ha =>
    refine ⟨⟨_, rfl⟩, he.go a1 h1 fun ρ2 H2 w d2 μ2 e2 a2 r2 h2 => ?_⟩
    simp only [dJoin] at h2
    cases e : seqOf μ2 d2 with
    | none => rw [e] at h2; exact h2.elim
    | some xs =>
      rw [e] at h2
      obtain ⟨p, vs, rfl, hs, hv⟩ := seqOf_rep a2.rp r2 e
      simp only at h2
      cases e3 : strsOf xs with
      | none => rw [e3] at h2; exact h2.elim
      | some zs =>
        rw [e3] at h2
        rw [strsOf_eq e3] at hv
        obtain ⟨rfl, hz⟩ := strs_rv hv
        have h2 : Pd K (if joinFits a zs then R.ok (.str (Txt.join a zs)) μ2 else .no) ρ2 H2 Q _ := h2
        by_cases c : joinFits a zs
        · rw [if_pos c] at h2
          exact ⟨a, p, zs, rfl, rfl, hs, c, Pa.ok (rel := RV K) h2 a2.rp (.str (strV_join ha hz c))⟩
        · rw [if_neg c] at h2
          exact h2.elim
  | _ => exact h1.elim
theorem oJoin {X : Cx} {K : KW} (hK : X.K = K.K) {to te : TE} {o e : Expr} {apos pos : Pos} (ho : PE X o to) (he : PE X e te) (hs : starEach [e] X.env = [(false, eval e X.env)] := by rfl) (hbase : attributeBase o "join" X.env (eval o X.env) = eval o X.env := by rfl) (hline : (apos.endLine == pos.line) = true := by rfl) :
    PE X (.Call (.Attribute o "join" apos) [e] [] pos) (tM1 (rJoin K.K) to te) := by
  rw [← hK]
  exact pe_join ho he hs hbase hline
end Dv

set_option maxRecDepth 100000
set_option maxHeartbeats 4000000
namespace Dv
open PySem PySem.Spec PyProof.Rows L2
/-! ### text.find(text), list.index(thing) -/
def rFind2 : V → List V → Hp → VK → Prop := fun x xs H Q => ∃ a b, x = .str a ∧ xs = [.str b] ∧ Q (.int (Txt.find a b)) H
def mFind : D → List D → Mem → R D
  | .str z, [.str c], μ => .ok (.int (Txt.find z c)) μ
  | _, _, _ => .no
theorem rm_find {K : KW} : RMf K "str" rFind2 mFind := by
  intro x a xs ds μ ρ H Q E rp ra rs q
  cases ra with
  | @str z hz =>
    cases rs with
    | nil => exact q.elim
    | cons r1 r2 =>
      cases r2 with
      | cons _ _ => cases r1 <;> exact q.elim
      | nil =>
        cases r1 with
        | @str c hc => exact ⟨z, c, rfl, rfl, Pa.ok (rel := RV K) (d := .int (Txt.find z c)) q rp (.int _)⟩
        | _ => exact q.elim
  | _ => cases rs <;> exact q.elim
/-- where the first one like d stands -/
def idxF (d : D) : List D → Option Nat
  | [] => none
  | x :: r => if eqF x d = true then some 0 else (idxF d r).map (· + 1)
def mIndex : D → List D → Mem → R D := onLst fun n xs ds μ => match ds with
  | [d] => if flatD d = true ∧ xs.all flatD = true then match idxF d xs with
      | some j => .ok (.int (j : Int)) μ
      | none => .no
    else .no
  | _ => .no
theorem idx_rv {K : KW} {ρ : List Addr} {H : Hp} {y : V} {d : D} (ry : RV K ρ H y d) (fy : flatD d = true) : ∀ {xs : List D} {vs : List V} {j : Nat}, RVs K ρ H vs xs → xs.all flatD = true → idxF d xs = some j →
    (∃ z, vs[j]? = some z ∧ eqV z y = true) ∧ ∀ (m : Nat) (z : V), m < j → vs[m]? = some z → eqV z y = false := by
  intro xs
  induction xs with
  | nil => intro vs j _ _ h; cases h
  | cons x r ih =>
    intro vs j rv fl h
    cases rv with
    | @cons v _ ws _ a b =>
      rw [List.all_cons, Bool.and_eq_true] at fl
      have e := eqF_of a ry fl.1 fy
      simp only [idxF] at h
      by_cases c : eqF x d = true
      · rw [if_pos c] at h
        cases h
        exact ⟨⟨v, rfl, by rw [e, c]⟩, fun m z hm => absurd hm (Nat.not_lt_zero _)⟩
      · rw [if_neg c] at h
        cases e2 : idxF d r with
        | none => rw [e2] at h; cases h
        | some k =>
          rw [e2] at h
          cases h
          obtain ⟨⟨z, h1, h2⟩, h3⟩ := ih b fl.2 e2
          refine ⟨⟨z, by simpa using h1, h2⟩, fun m z' hm hz => ?_⟩
          cases m with
          | zero =>
            have : v = z' := by simpa using hz
            subst this
            rw [e]
            simpa using c
          | succ m =>
            have hm : m + 1 < k + 1 := hm
            exact h3 m z' (by omega) (by simpa using hz)
theorem rm_index {K : KW} : RMf K "list" (rIndex K.K) mIndex := by
  intro x a xs ds μ ρ H Q E rp ra rs q
  obtain ⟨n, p, ys, vs, rfl, hn, em, h1, h2, q⟩ := onLst_rep rp ra q
  match ds, rs, q with
  | [d], rs, q =>
    obtain ⟨y, rfl, ry⟩ := len1 rs
    have q : Pd K (if flatD d = true ∧ ys.all flatD = true then match idxF d ys with
      | some j => R.ok (.int (j : Int)) μ
      | none => .no
    else .no) ρ H Q E := q
    by_cases c : flatD d = true ∧ ys.all flatD = true
    · rw [if_pos c] at q
      cases e : idxF d ys with
      | none => rw [e] at q; exact q.elim
      | some j =>
        rw [e] at q
        obtain ⟨⟨z, g1, g2⟩, g3⟩ := idx_rv ry c.1 h2 c.2 e
        exact ⟨p, vs, y, j, z, rfl, rfl, SqL.of h1, flat_of ry c.1, flats_of h2 c.2, g1, g2, g3, Pa.ok (rel := RV K) q rp (.int _)⟩
    · rw [if_neg c] at q
      exact q.elim
  | [], _, q => exact q.elim
  | _ :: _ :: _, _, q => exact q.elim
end Dv

set_option maxRecDepth 100000
set_option maxHeartbeats 4000000
namespace Dv
open PySem PySem.Spec PyProof.Rows L2
/-! ### x *= i -/
theorem ip_mulC {X : Cx} : PIp X .Mult (rI CMul fun i j => .int (i * j)) := fun pins s σ H x y v u Q I r1 r2 h => iop_mul pins s σ H x y v u Q I r1 r2 h
theorem r_imul {K : KW} : RIf K (rI CMul fun i j => .int (i * j)) dMul := r_mul
section
variable {K : KW} {W : WX}
/-! ### s.index(c), found -/
def mIndexS : D → List D → Mem → R D
  | .str a, [.str b], μ => match Txt.index0 a b with
    | some k => .ok (.int (k : Nat)) μ
    | none => .no
  | _, _, _ => .no
theorem tef_indexS {to : TE} {fo : F} {ta : TA} {fs : FA} (ho : TEf K W to fo) (ha : TAf K W ta fs) : TEf K W (tBMS K.K "str" (rIndexX W) to ta) (fMe "str" mIndexS fo fs) := by
  intro σ H Q env μ ρ at_ h
  refine ho.go at_ h fun ρ1 H1 v d μ1 e1 a1 r1 h1 => ?_
  by_cases c : tyM "str" μ1 d = true
  · rw [if_pos c] at h1
    refine ⟨tyM_rep a1.rp r1 c, ha.go a1 h1 fun ρ2 H2 ws ds μ2 e2 a2 r2 h2 => ?_⟩
    cases r1 with
    | @str z hz =>
      cases r2 with
      | nil => exact h2.elim
      | cons r1 r2 =>
        cases r2 with
        | cons _ _ => cases r1 <;> exact h2.elim
        | nil =>
          cases r1 with
          | @str c hc =>
            have h2 : Pd K (match Txt.index0 z c with | some k => R.ok (.int (k : Nat)) μ2 | none => .no) ρ2 H2 Q (fun c d H' => W c d σ H') := h2
            refine ⟨z, c, rfl, rfl, fun k e => ?_, fun e => ?_⟩
            · rw [e] at h2
              exact Pa.ok (rel := RV K) (d := .int (k : Nat)) h2 a2.rp (.int _)
            · rw [e] at h2; exact h2.elim
          | _ => exact h2.elim
    | _ => cases r2 <;> exact h2.elim
  · rw [if_neg c] at h1
    exact h1.elim
theorem oBmS {X : Cx} {c : Expr} {to : TE} {t : TA} {T : String} {r : L2.St → V → List V → Hp → VK → Prop} (hK : X.K = K.K) (h : PE X c (tBMS X.K T r to t)) : PE X c (tBMS K.K T r to t) := by rw [← hK]; exact h
/-! ### enumerate, zip of lists and tuples -/
def enumD (xs : List D) : List D := xs.zipIdx.map fun p => .tup [.int (p.2 : Int), p.1]
theorem enumD_at {xs : List D} {i : Nat} {x : D} (h : (enumD xs)[i]? = some x) : ∃ y, xs[i]? = some y ∧ x = .tup [.int (i : Int), y] := by
  unfold enumD at h
  rw [List.getElem?_map, List.getElem?_zipIdx] at h
  cases e : xs[i]? with
  | none => rw [e] at h; cases h
  | some y => rw [e] at h; simp at h; exact ⟨y, rfl, h.symm⟩
theorem enumD_len {xs : List D} : (enumD xs).length = xs.length := by simp [enumD]
def iEnumD (fs : FA) : FI := fun env μ => (fs env μ).bind fun ds μ1 => match ds with
  | [.cell n] => match μ1[n]? with
    | some (.lst xs) => .ok ⟨enumD xs, [(n, xs)]⟩ μ1
    | _ => .no
  | _ => .no
theorem tif_enum {ta : TA} {fs : FA} (hf : TAf K W ta fs) : TIf K W (iEnum K.K ta) (iEnumD fs) := by
  intro σ H Q env μ ρ at_ h
  refine hf.go at_ h fun ρ1 H1 v d μ1 e1 a1 r1 h1 => ?_
  cases r1 with
  | nil => exact h1.elim
  | cons q r =>
    cases r with
    | cons _ _ => cases q <;> exact h1.elim
    | nil =>
      cases q with
      | @cell n a hn =>
        simp only at h1
        cases e : μ1[n]? with
        | none => rw [e] at h1; exact h1.elim
        | some cc =>
          rw [e] at h1
          cases cc with
          | dK _ => exact h1.elim
          | ins _ _ => exact h1.elim
          | set _ => exact h1.elim
          | lst xs =>
            obtain ⟨vs, q1, q2⟩ := a1.rp.get hn e
            refine ⟨a, vs, rfl, SqL.of q1, Pa.ok (rel := ItR K) h1 a1.rp ?_⟩
            intro ρ' H' μ' e' r g i
            have gk : μ'[n]? = some (.lst xs) := g (n, xs) (List.mem_singleton.mpr rfl)
            obtain ⟨ws, w1, w2⟩ := r.get (e'.get hn) gk
            refine ⟨fun hi => ⟨ws, SqL.of w1, by rw [w2.len]; rw [enumD_len] at hi; exact hi⟩, fun x hx => ?_⟩
            obtain ⟨y, hy, rfl⟩ := enumD_at hx
            obtain ⟨v, h1, h2⟩ := w2.get hy
            refine ⟨⟨ws, v, SqL.of w1, h1⟩, ?_⟩
            rintro v' H2 ⟨T, x, rfl, hT, rfl, hv⟩
            have := hv ws (SqL.of w1)
            rw [h1] at this
            cases this
            have ee := ext_upd (K := K) ρ' (o := .tup [.int (i : Nat), v]) (Wr.none hT)
            exact ⟨ee, r.side hT, .tup (SqT.of upd_same) (.cons (.int _) (.cons (h2.ext ee) .nil))⟩
      | _ => exact h1.elim
def zipD (xs ys : List D) : List D := (xs.zip ys).map fun p => .tup [p.1, p.2]
theorem zipD_at {xs ys : List D} {i : Nat} {x : D} (h : (zipD xs ys)[i]? = some x) : ∃ y z, xs[i]? = some y ∧ ys[i]? = some z ∧ x = .tup [y, z] := by
  unfold zipD at h
  rw [List.getElem?_map] at h
  cases e : (xs.zip ys)[i]? with
  | none => rw [e] at h; cases h
  | some p =>
    rw [e] at h
    obtain ⟨h1, h2⟩ := List.getElem?_zip_eq_some.mp e
    exact ⟨p.1, p.2, h1, h2, by simpa using h.symm⟩
theorem zipD_len {xs ys : List D} : (zipD xs ys).length = min xs.length ys.length := by simp [zipD]
def iZipD (fs : FA) : FI := fun env μ => (fs env μ).bind fun ds μ1 => match ds with
  | [.cell n, .cell m] => match μ1[n]?, μ1[m]? with
    | some (.lst xs), some (.lst ys) => .ok ⟨zipD xs ys, [(n, xs), (m, ys)]⟩ μ1
    | _, _ => .no
  | [.tup xs, .tup ys] => .ok ⟨zipD xs ys, []⟩ μ1
  | _ => .no
theorem gok_two {n m : Nat} {xs ys : List D} {μ : Mem} : gok [(n, xs), (m, ys)] μ ↔ μ[n]? = some (.lst xs) ∧ μ[m]? = some (.lst ys) := by
  unfold gok
  constructor
  · intro h; exact ⟨h _ (List.mem_cons_self ..), h _ (List.mem_cons_of_mem _ (List.mem_cons_self ..))⟩
  · rintro ⟨h1, h2⟩ p hp
    rcases List.mem_cons.mp hp with rfl | hp
    · exact h1
    · rw [List.mem_singleton.mp hp]; exact h2
theorem tif_zip {ta : TA} {fs : FA} (hf : TAf K W ta fs) : TIf K W (RZ.iZipA K.K ta) (iZipD fs) := by
  intro σ H Q env μ ρ at_ h
  refine hf.go at_ h fun ρ1 H1 v d μ1 e1 a1 r1 h1 => ?_
  cases r1 with
  | nil => exact h1.elim
  | cons q r =>
    cases r with
    | nil => cases q <;> exact h1.elim
    | cons q2 r =>
      cases r with
      | cons _ _ => cases q <;> cases q2 <;> exact h1.elim
      | nil =>
        cases q with
        | @cell n a hn =>
          cases q2 with
          | @cell m b hm =>
            simp only at h1
            cases e : μ1[n]? with
            | none => rw [e] at h1; exact h1.elim
            | some cc =>
              rw [e] at h1
              cases cc with
              | dK _ => exact h1.elim
              | ins _ _ => exact h1.elim
              | set _ => exact h1.elim
              | lst xs =>
                cases e2 : μ1[m]? with
                | none => rw [e2] at h1; exact h1.elim
                | some cc =>
                  rw [e2] at h1
                  cases cc with
                  | dK _ => exact h1.elim
                  | ins _ _ => exact h1.elim
                  | set _ => exact h1.elim
                  | lst ys =>
                    obtain ⟨vs, q1, q2⟩ := a1.rp.get hn e
                    obtain ⟨us, p1, p2⟩ := a1.rp.get hm e2
                    refine ⟨a, b, vs, us, rfl, .inl ⟨SqL.of q1, SqL.of p1, Pa.ok (rel := ItR K) h1 a1.rp ?_⟩⟩
                    intro ρ' H' μ' e' r g i
                    obtain ⟨gk, gk2⟩ := gok_two.mp g
                    obtain ⟨ws, w1, w2⟩ := r.get (e'.get hn) gk
                    obtain ⟨zs, z1, z2⟩ := r.get (e'.get hm) gk2
                    refine ⟨fun hi => ⟨ws, zs, SqL.of w1, SqL.of z1, by rw [w2.len, z2.len]; rw [zipD_len] at hi; omega⟩, fun x hx => ?_⟩
                    obtain ⟨y, y', hy, hy', rfl⟩ := zipD_at hx
                    obtain ⟨v, h1, h2⟩ := w2.get hy
                    obtain ⟨u, k1, k2⟩ := z2.get hy'
                    refine ⟨⟨ws, zs, v, u, SqL.of w1, SqL.of z1, h1, k1⟩, ?_⟩
                    rintro v' H2 ⟨T, x, x', rfl, hT, rfl, hv, hu⟩
                    have t1 := hv ws (SqL.of w1)
                    rw [h1] at t1
                    cases t1
                    have t2 := hu zs (SqL.of z1)
                    rw [k1] at t2
                    cases t2
                    have ee := ext_upd (K := K) ρ' (o := .tup [v, u]) (Wr.none hT)
                    exact ⟨ee, r.side hT, .tup (SqT.of upd_same) (.cons (h2.ext ee) (.cons (k2.ext ee) .nil))⟩
          | _ => exact h1.elim
        | @tup a us xs hs rs =>
          cases q2 with
          | @tup b ws ys hz rz =>
            refine ⟨a, b, us, ws, rfl, .inr ⟨hs, hz, Pa.ok (rel := ItR K) h1 a1.rp ?_⟩⟩
            intro ρ' H' μ' e' r g i
            have hs' := e'.tup _ _ hs
            have hz' := e'.tup _ _ hz
            refine ⟨fun hi => ⟨us, ws, hs', hz', by rw [rs.len, rz.len]; rw [zipD_len] at hi; omega⟩, fun x hx => ?_⟩
            obtain ⟨y, y', hy, hy', rfl⟩ := zipD_at hx
            obtain ⟨v, h1, h2⟩ := rs.get hy
            obtain ⟨u, k1, k2⟩ := rz.get hy'
            refine ⟨⟨us, ws, v, u, hs', hz', h1, k1⟩, ?_⟩
            rintro v' H2 ⟨T, x, x', rfl, hT, rfl, hv, hu⟩
            have t1 := hv us hs'
            rw [h1] at t1
            cases t1
            have t2 := hu ws hz'
            rw [k1] at t2
            cases t2
            have ee := ext_upd (K := K) ρ' (o := .tup [v, u]) (Wr.none hT)
            exact ⟨ee, r.side hT, .tup (SqT.of upd_same) (.cons ((h2.ext e').ext ee) (.cons ((k2.ext e').ext ee) .nil))⟩
          | _ => exact h1.elim
        | _ => exact h1.elim
/-! ### comprehensions with two fors -/
/-- the end of a comprehension -/
def lcEnd (n0 : Nat) : Option Mem → R D
  | some μ2 => .ok (.cell n0) μ2
  | none => .no
theorem lc_loop {g : TG} {t : G} {tt : TT} {c : FB} {te : TE} {e : F} {vs : List Nat} {J : It} {d : ItD} {σ : L2.St} {env : Env} {μ1 : Mem} {ρ1 : List Addr} {H1 : Hp} {Q : VK} {E : XK} {n0 : Nat} {A : Addr} {rest : Mem → Option Mem}
    (hg : TGf K g t) (ho : Own g vs) (hc : TBf K W0 tt c) (he : TEf K W0 te e) (a1 : At K ρ1 H1 μ1 (wipe σ vs) (wipeE env vs)) (gA : ρ1[n0]? = some A) (rJ : ItR K ρ1 H1 J d)
    (h1 : Pd K (lcEnd n0 ((lcGo t c e d.guard n0 (wipeE env vs) d.items μ1).bind rest)) ρ1 H1 Q E) :
    ∃ Wf : Nat → Nat → Hp → Prop, (∃ m, Wf 0 m H1) ∧ ∀ i m H, Wf i m H →
      (J.stop i H ∧ ∃ ρ' μ', Ext K ρ1 H1 ρ' H ∧ Rep K ρ' H μ' ∧ Pd K (lcEnd n0 (rest μ')) ρ' H Q E) ∨ (J.go i H ∧ ∃ Nx : Hp → Prop, (∀ H', Nx H' → ∃ m', m' < m ∧ Wf (i + 1) m' H') ∧ ∀ x H', J.yld i H x H' → g x (wipe σ vs) H' fun σ2 H2 => wipe σ2 vs = wipe σ vs ∧ tt σ2 H2 fun b H3 =>
        if b = true then te σ2 H3 fun y H4 => ∃ acc, H4 A = some (.lst acc) ∧ acc.length < sizeLine ∧ Nx (upd H4 A (.lst (acc ++ [y]))) else Nx H3) := by
  refine ⟨fun i m H' => m = d.items.length - i ∧ i ≤ d.items.length ∧ ∃ μ' ρ', Ext K ρ1 H1 ρ' H' ∧ Rep K ρ' H' μ' ∧ Pd K (lcEnd n0 ((lcGo t c e d.guard n0 (wipeE env vs) (d.items.drop i) μ').bind rest)) ρ' H' Q E, ⟨_, rfl, Nat.zero_le _, _, _, Ext.refl, a1.rp, h1⟩, ?_⟩
  rintro i m H2 ⟨rfl, hi2, μ2, ρ2, e2, r2, q2⟩
  have a2 : At K ρ2 H2 μ2 (wipe σ vs) (wipeE env vs) := a1.ext e2 r2
  by_cases hl : i < d.items.length
  · have ex : d.items.drop i = d.items[i] :: d.items.drop (i + 1) := List.drop_eq_getElem_cons hl
    rw [ex] at q2
    unfold lcGo at q2
    by_cases hk : gok d.guard μ2
    · rw [if_pos hk] at q2
      have st := (rJ ρ2 H2 μ2 e2 r2 hk i).2 d.items[i] (List.getElem?_eq_getElem hl)
      refine .inr ⟨st.1, fun H' => ∃ m', m' < d.items.length - i ∧ (m' = d.items.length - (i + 1) ∧ i + 1 ≤ d.items.length ∧ ∃ μ' ρ', Ext K ρ1 H1 ρ' H' ∧ Rep K ρ' H' μ' ∧ Pd K (lcEnd n0 ((lcGo t c e d.guard n0 (wipeE env vs) (d.items.drop (i + 1)) μ').bind rest)) ρ' H' Q E), fun _ z => z, fun v H3 y => ?_⟩
      obtain ⟨e3, r3, rv⟩ := st.2 v H3 y
      have a3 : At K ρ2 H3 μ2 (wipe σ vs) (wipeE env vs) := a2.ext e3 r3
      have key : ∀ Q, g v (wipe σ vs) H3 Q → g v (wipe σ vs) H3 fun σ2 H2 => wipe σ2 vs = wipe σ vs ∧ Q σ2 H2 := fun Q q => by
        have z := ho v _ H3 Q q
        rw [wipe_wipe] at z
        exact z
      refine key _ (hg _ _ _ _ _ _ _ _ a3 rv ?_)
      cases t4 : t d.items[i] (wipeE env vs) μ2 with
      | none => rw [t4] at q2; exact q2.elim
      | some p =>
        rw [t4, Option.bind_some] at q2
        intro ρ4 H4 σ4 e4 a4
        refine hc _ _ _ p.1 p.2 _ a4 ?_
        cases c5 : c p.1 p.2 with
        | no => rw [c5] at q2; exact q2.elim
        | ex _ _ => rw [c5] at q2; exact q2.elim
        | ok k μ5 =>
          rw [c5, get_ok, Option.bind_some] at q2
          rintro ρ5 H5 b e5 r5 rfl
          have a5 := a4.ext e5 r5
          cases b with
          | false =>
            rw [if_neg (by simp)] at q2 ⊢
            exact ⟨d.items.length - (i + 1), by omega, rfl, hl, μ5, ρ5, ((e2.trans e3).trans e4).trans e5, r5, Pa.mono ((e3.trans e4).trans e5) q2⟩
          | true =>
            rw [if_pos rfl] at q2 ⊢
            refine he _ _ _ p.1 μ5 _ a5 ?_
            cases c6 : e p.1 μ5 with
            | no => rw [c6] at q2; exact q2.elim
            | ex _ _ => rw [c6] at q2; exact q2.elim
            | ok y μ6 =>
              rw [c6, get_ok, Option.bind_some] at q2
              intro ρ6 H6 yv e6 r6 ry
              have e26 := (((e2.trans e3).trans e4).trans e5).trans e6
              have gA6 := e26.get gA
              cases m6 : μ6[n0]? with
              | none => rw [m6] at q2; exact q2.elim
              | some cc =>
                rw [m6] at q2
                cases cc with
                | dK _ => exact q2.elim
                | ins _ _ => exact q2.elim
                | set _ => exact q2.elim
                | lst acc =>
                  obtain ⟨vs6, g1, g2⟩ := r6.get gA6 m6
                  simp only at q2
                  by_cases hz : acc.length < sizeLine
                  · rw [if_pos hz] at q2
                    have ew := ext_upd (K := K) ρ6 (o := .lst (vs6 ++ [yv])) (Wr.lst g1)
                    exact ⟨vs6, g1, by rw [g2.len]; exact hz, d.items.length - (i + 1), by omega, rfl, hl, _, ρ6, e26.trans ew, r6.write gA6 (Wr.lst g1) (c := .lst (acc ++ [y])) ⟨_, upd_same, (g2.ext ew).app (.cons (ry.ext ew) .nil)⟩, Pa.mono ((((e3.trans e4).trans e5).trans e6).trans ew) q2⟩
                  · rw [if_neg hz] at q2
                    exact q2.elim
    · rw [if_neg hk] at q2
      exact q2.elim
  · have e0 : i = d.items.length := by omega
    have ex : d.items.drop i = [] := by rw [e0]; exact List.drop_length
    rw [ex] at q2
    unfold lcGo at q2
    by_cases hk : gok d.guard μ2
    · rw [if_pos hk, Option.bind_some] at q2
      exact .inl ⟨(rJ ρ2 H2 μ2 e2 r2 hk i).1 (by omega), ρ2, μ2, e2, r2, q2⟩
    · rw [if_neg hk] at q2
      exact q2.elim
open Classical in
noncomputable def lcGo2 (t : G) (c : FB) (f1 : FI) (t1 : G) (c1 : FB) (e : F) (vs1 : List Nat) (g : List (Nat × List D)) (n0 : Nat) (env0 : Env) : List D → Mem → Option Mem
  | [], μ => if gok g μ then some μ else none
  | x :: xs, μ => if gok g μ then (t x env0 μ).bind fun p => (c p.1 p.2).get.bind fun k => if k.1 = true then (f1 p.1 k.2).get.bind fun it => (lcGo t1 c1 e it.1.guard n0 (wipeE p.1 vs1) it.1.items it.2).bind fun μ' => lcGo2 t c f1 t1 c1 e vs1 g n0 env0 xs μ'
    else lcGo2 t c f1 t1 c1 e vs1 g n0 env0 xs k.2
    else none
noncomputable def fLc2 (f : FI) (t : G) (c : FB) (f1 : FI) (t1 : G) (c1 : FB) (e : F) (vs vs1 : List Nat) : F := fun env μ => (f env μ).bind fun it μ1 => lcEnd μ1.length (lcGo2 t c f1 t1 c1 e vs1 it.guard μ1.length (wipeE env vs) it.items (μ1 ++ [.lst []]))
theorem tef_lc2 {wi wi1 : TI} {fi fi1 : FI} {g g1 : TG} {t t1 : G} {tt tt1 : TT} {c c1 : FB} {te : TE} {e : F} {vs vs1 : List Nat} (hi : TIf K W wi fi) (hg : TGf K g t) (ho : Own g vs) (hc : TBf K W0 tt c) (hi1 : TIf K W0 wi1 fi1) (hg1 : TGf K g1 t1) (ho1 : Own g1 vs1) (hc1 : TBf K W0 tt1 c1) (he : TEf K W0 te e)
    (hfr : ∀ i ∈ vs, Fr K i := by intro i hi; simp at hi; intro _ _ _ h; first | cases h | (simp at h; omega)) (hfr1 : ∀ i ∈ vs1, Fr K i := by intro i hi; simp at hi; intro _ _ _ h; first | cases h | (simp at h; omega)) : TEf K W (tLc2 wi g tt wi1 g1 tt1 te vs vs1) (fLc2 fi t c fi1 t1 c1 e vs vs1) := by
  intro σ H Q env μ ρ at_ h
  have h : Pd K ((fi env μ).bind fun it μ1 => lcEnd μ1.length (lcGo2 t c fi1 t1 c1 e vs1 it.guard μ1.length (wipeE env vs) it.items (μ1 ++ [.lst []]))) ρ H Q (fun c d H' => W c d σ H') := h
  refine hi σ H _ env μ ρ at_ (Pa.imp (Pa.bind h) ?_ fun _ _ _ z => z)
  rintro J H1 ⟨ρ1, d, μ1, e1, r1, rJ, h1⟩ A hA
  have a1 := at_.ext e1 r1
  have ea := ext_new (K := K) ρ1 (o := .lst []) hA
  have ra : Rep K (ρ1 ++ [A]) (upd H1 A (.lst [])) (μ1 ++ [.lst []]) := r1.new hA ⟨[], upd_same, .nil⟩
  have gA : (ρ1 ++ [A])[μ1.length]? = some A := by rw [← r1.len]; simp
  have h1 := Pa.mono (rel := RV K) ea h1
  have en0 : EnvR K (ρ1 ++ [A]) (upd H1 A (.lst [])) (wipe σ vs) (wipeE env vs) := (a1.en.ext ea).wipe vs
  generalize hn0 : μ1.length = n0 at h1 gA
  have xa0 : XaOk K (ρ1 ++ [A]) (upd H1 A (.lst [])) (wipe σ vs) := (a1.xa.ext ea).wipe hfr
  generalize hE : (fun c d H' => W c d σ H') = E at h1
  refine ⟨fun i m H' => m = d.items.length - i ∧ i ≤ d.items.length ∧ ∃ μ' ρ', Ext K (ρ1 ++ [A]) (upd H1 A (.lst [])) ρ' H' ∧ Rep K ρ' H' μ' ∧ Pd K (lcEnd n0 (lcGo2 t c fi1 t1 c1 e vs1 d.guard n0 (wipeE env vs) (d.items.drop i) μ')) ρ' H' Q E, ⟨_, rfl, Nat.zero_le _, _, _, Ext.refl, ra, h1⟩, ?_⟩
  rintro i m H2 ⟨rfl, hi2, μ2, ρ2, e2, r2, q2⟩
  have a2 : At K ρ2 H2 μ2 (wipe σ vs) (wipeE env vs) := ⟨r2, en0.ext e2, xa0.ext e2⟩
  by_cases hl : i < d.items.length
  · have ex : d.items.drop i = d.items[i] :: d.items.drop (i + 1) := List.drop_eq_getElem_cons hl
    rw [ex] at q2
    unfold lcGo2 at q2
    by_cases hk : gok d.guard μ2
    · rw [if_pos hk] at q2
      have st := (rJ ρ2 H2 μ2 (ea.trans e2) r2 hk i).2 d.items[i] (List.getElem?_eq_getElem hl)
      refine .inr ⟨st.1, fun H' => ∃ m', m' < d.items.length - i ∧ (m' = d.items.length - (i + 1) ∧ i + 1 ≤ d.items.length ∧ ∃ μ' ρ', Ext K (ρ1 ++ [A]) (upd H1 A (.lst [])) ρ' H' ∧ Rep K ρ' H' μ' ∧ Pd K (lcEnd n0 (lcGo2 t c fi1 t1 c1 e vs1 d.guard n0 (wipeE env vs) (d.items.drop (i + 1)) μ')) ρ' H' Q E), fun _ z => z, fun v H3 y => ?_⟩
      obtain ⟨e3, r3, rv⟩ := st.2 v H3 y
      have a3 : At K ρ2 H3 μ2 (wipe σ vs) (wipeE env vs) := a2.ext e3 r3
      have key : ∀ Q, g v (wipe σ vs) H3 Q → g v (wipe σ vs) H3 fun σ2 H2 => wipe σ2 vs = wipe σ vs ∧ Q σ2 H2 := fun Q q => by
        have z := ho v _ H3 Q q
        rw [wipe_wipe] at z
        exact z
      refine key _ (hg _ _ _ _ _ _ _ _ a3 rv ?_)
      cases t4 : t d.items[i] (wipeE env vs) μ2 with
      | none => rw [t4] at q2; exact q2.elim
      | some p =>
        rw [t4, Option.bind_some] at q2
        intro ρ4 H4 σ4 e4 a4
        refine hc _ _ _ p.1 p.2 _ a4 ?_
        cases c5 : c p.1 p.2 with
        | no => rw [c5] at q2; exact q2.elim
        | ex _ _ => rw [c5] at q2; exact q2.elim
        | ok k μ5 =>
          rw [c5, get_ok, Option.bind_some] at q2
          rintro ρ5 H5 b e5 r5 rfl
          have a5 := a4.ext e5 r5
          cases b with
          | false =>
            rw [if_neg (by simp)] at q2 ⊢
            exact ⟨d.items.length - (i + 1), by omega, rfl, hl, μ5, ρ5, ((e2.trans e3).trans e4).trans e5, r5, Pa.mono ((e3.trans e4).trans e5) q2⟩
          | true =>
            rw [if_pos rfl] at q2 ⊢
            refine hi1 _ _ _ p.1 μ5 _ a5 ?_
            cases c6 : fi1 p.1 μ5 with
            | no => rw [c6] at q2; exact q2.elim
            | ex _ _ => rw [c6] at q2; exact q2.elim
            | ok it μ6 =>
              rw [c6, get_ok, Option.bind_some] at q2
              intro ρ6 H6 J1 e6 r6 rJ1
              have e26 := (((e2.trans e3).trans e4).trans e5).trans e6
              have gA6 := e26.get gA
              have a6 := a5.ext e6 r6
              have a7 : At K ρ6 H6 μ6 (wipe σ4 vs1) (wipeE p.1 vs1) := ⟨r6, a6.en.wipe vs1, a6.xa.wipe hfr1⟩
              obtain ⟨Wf, w0, w1⟩ := lc_loop hg1 ho1 hc1 he a7 gA6 rJ1 (Pa.mono (rel := RV K) (((e3.trans e4).trans e5).trans e6) q2)
              refine ⟨Wf, w0, fun j k H' hw => ?_⟩
              rcases w1 j k H' hw with ⟨s1, ρ', μ', e', r', q'⟩ | z
              · exact .inl ⟨s1, _, by omega, rfl, hl, μ', ρ', e26.trans e', r', q'⟩
              · exact .inr z
    · rw [if_neg hk] at q2
      exact q2.elim
  · have e0 : i = d.items.length := by omega
    have ex : d.items.drop i = [] := by rw [e0]; exact List.drop_length
    rw [ex] at q2
    unfold lcGo2 at q2
    by_cases hk : gok d.guard μ2
    · rw [if_pos hk] at q2
      subst hE
      exact .inl ⟨(rJ ρ2 H2 μ2 (ea.trans e2) r2 hk i).1 (by omega), Pa.ok (rel := RV K) q2 r2 (.cell (e2.get gA))⟩
    · rw [if_neg hk] at q2
      exact q2.elim
end
end Dv

set_option maxRecDepth 100000
set_option maxHeartbeats 4000000
namespace Dv
open PySem PySem.Spec PyProof.Rows L2
/-! ### what is wanted behind a run of functions -/
def R.wp {α : Type} (r : R α) (Q : α → Mem → Prop) (X : Exn → Mem → Prop) : Prop := match r with
  | .ok a μ => Q a μ
  | .ex x μ => X x μ
  | .no => False
structure Post where
  nx : Env → Mem → Prop
  rt : D → Mem → Prop
  bk : Env → Mem → Prop
  ct : Env → Mem → Prop
  ex : Exn → Env → Mem → Prop
def RS.wp (r : RS) (P : Post) : Prop := match r with
  | .nx e μ => P.nx e μ
  | .rt d μ => P.rt d μ
  | .bk e μ => P.bk e μ
  | .ct e μ => P.ct e μ
  | .ex x e μ => P.ex x e μ
  | .no => False
def tgwp (r : Option (Env × Mem)) (Q : Env → Mem → Prop) : Prop := match r with
  | some p => Q p.1 p.2
  | none => False
/-- behind it the statement s -/
def Post.seq (P : Post) (s : Env → Mem → RS) : Post := { P with nx := fun e μ => (s e μ).wp P }
/-- a def's body -/
def Post.body (Q : D → Mem → Prop) (X : Exn → Mem → Prop) : Post := ⟨fun _ μ => Q .non μ, Q, fun _ _ => False, fun _ _ => False, fun x _ μ => X x μ⟩
/-- a loop's body: what holds behind it, and the loop's own -/
def Post.loop (P : Post) (I : Env → Mem → Prop) : Post := ⟨I, P.rt, P.nx, I, P.ex⟩
def noX : Exn → Mem → Prop := fun _ _ => False
/-- a way that forks: neither side is read before it is known which it is -/
def Br (c A B : Prop) : Prop := (c → A) ∧ (¬ c → B)
theorem br_congr {c c' A B : Prop} (h : c = c') : Br c A B = Br c' A B := by rw [h]
theorem br_true {A B : Prop} : Br True A B = A := by simp [Br]
theorem br_false {A B : Prop} : Br False A B = B := by simp [Br]
theorem br_t {A B : Prop} : Br (true = true) A B = A := by simp [Br]
theorem br_f {A B : Prop} : Br (false = true) A B = B := by simp [Br]
theorem br_of {c A B : Prop} (h : c → A) (k : ¬ c → B) : Br c A B := ⟨h, k⟩
section
variable {α β : Type} {Q : α → Mem → Prop} {X : Exn → Mem → Prop} {μ : Mem} {P : Post} {env : Env}
theorem wp_ok {a : α} : (R.ok a μ).wp Q X = Q a μ := rfl
theorem wp_ex {x : Exn} : (R.ex x μ : R α).wp Q X = X x μ := rfl
theorem wp_no : (R.no : R α).wp Q X = False := rfl
theorem wp_bind {r : R β} {k : β → Mem → R α} : (r.bind k).wp Q X = r.wp (fun a m => (k a m).wp Q X) X := by cases r <;> rfl
theorem wp_noEx {r : R α} : (noEx r).wp Q X = r.wp Q noX := by cases r <;> rfl
theorem wp_out {r : RS} {Q : D → Mem → Prop} : (outS r).wp Q X = r.wp (Post.body Q X) := by cases r <;> rfl
theorem wp_ite {c : Prop} [Decidable c] {a b : R α} : (if c then a else b).wp Q X = Br c (a.wp Q X) (b.wp Q X) := by split <;> rename_i h <;> simp [Br, h]
theorem wpS_nx : (RS.nx env μ).wp P = P.nx env μ := rfl
theorem wpS_rt {d : D} : (RS.rt d μ).wp P = P.rt d μ := rfl
theorem wpS_bk : (RS.bk env μ).wp P = P.bk env μ := rfl
theorem wpS_ct : (RS.ct env μ).wp P = P.ct env μ := rfl
theorem wpS_ex {x : Exn} : (RS.ex x env μ).wp P = P.ex x env μ := rfl
theorem wpS_no : RS.no.wp P = False := rfl
theorem wpS_toS {r : R α} {k : α → Mem → RS} : (r.toS env k).wp P = r.wp (fun a m => (k a m).wp P) (fun x m => P.ex x env m) := by cases r <;> rfl
theorem wpS_then {r : RS} {k : Env → Mem → RS} : (r.then k).wp P = r.wp (P.seq k) := by cases r <;> rfl
theorem wpS_ite {c : Prop} [Decidable c] {a b : RS} : (if c then a else b).wp P = Br c (a.wp P) (b.wp P) := by split <;> rename_i h <;> simp [Br, h]
theorem wpS_onG {r : Option (Env × Mem)} {k : Env → Mem → RS} : (onG r k).wp P = tgwp r fun e m => (k e m).wp P := by cases r <;> rfl
theorem tgwp_some {p : Env × Mem} {Q : Env → Mem → Prop} : tgwp (some p) Q = Q p.1 p.2 := rfl
theorem tgwp_none {Q : Env → Mem → Prop} : tgwp none Q = False := rfl
theorem tgwp_get {r : R α} {k : α × Mem → Option (Env × Mem)} {Q : Env → Mem → Prop} : tgwp (r.get.bind k) Q = r.wp (fun a m => tgwp (k (a, m)) Q) noX := by cases r <;> rfl
theorem seq_nx' {s : Env → Mem → RS} {e : Env} : (P.seq s).nx e μ = (s e μ).wp P := rfl
theorem seq_rt {s : Env → Mem → RS} {d : D} : (P.seq s).rt d μ = P.rt d μ := rfl
theorem seq_bk {s : Env → Mem → RS} : (P.seq s).bk env μ = P.bk env μ := rfl
theorem seq_ct {s : Env → Mem → RS} : (P.seq s).ct env μ = P.ct env μ := rfl
theorem seq_ex {s : Env → Mem → RS} {x : Exn} : (P.seq s).ex x env μ = P.ex x env μ := rfl
theorem body_nx {Q : D → Mem → Prop} : (Post.body Q X).nx env μ = Q .non μ := rfl
theorem body_rt {Q : D → Mem → Prop} {d : D} : (Post.body Q X).rt d μ = Q d μ := rfl
theorem body_ex {Q : D → Mem → Prop} {x : Exn} : (Post.body Q X).ex x env μ = X x μ := rfl
theorem loop_nx {I : Env → Mem → Prop} : (P.loop I).nx env μ = I env μ := rfl
theorem loop_ct {I : Env → Mem → Prop} : (P.loop I).ct env μ = I env μ := rfl
theorem loop_bk {I : Env → Mem → Prop} : (P.loop I).bk env μ = P.nx env μ := rfl
theorem loop_rt {I : Env → Mem → Prop} {d : D} : (P.loop I).rt d μ = P.rt d μ := rfl
theorem loop_ex {I : Env → Mem → Prop} {x : Exn} : (P.loop I).ex x env μ = P.ex x env μ := rfl
end
section
variable {α : Type} {Q Q' : α → Mem → Prop} {X X' : Exn → Mem → Prop}
theorem R.wp.imp {r : R α} (h : r.wp Q X) (i : ∀ a m, Q a m → Q' a m) (j : ∀ x m, X x m → X' x m) : r.wp Q' X' := by
  cases r with
  | ok a m => exact i _ _ h
  | ex x m => exact j _ _ h
  | no => exact h
/-- what raises nothing is good for whatever is wished of what is raised -/
theorem R.wp.imp0 {r : R α} (h : r.wp Q noX) (i : ∀ a m, Q a m → Q' a m) : r.wp Q' X := h.imp i fun _ _ z => z.elim
theorem R.wp.gives {r : R α} (h : r.wp Q noX) : Gives Q r := by
  cases r with
  | ok a m => exact ⟨a, m, rfl, h⟩
  | ex _ _ => exact h.elim
  | no => exact h.elim
theorem Gives.wp {r : R α} (h : Gives Q r) (i : ∀ a m, Q a m → Q' a m) : r.wp Q' X := by
  obtain ⟨a, m, e, q⟩ := h
  rw [e]; exact i _ _ q
theorem wp_eq {r : R α} {a : α} {m : Mem} (e : r = .ok a m) (h : Q a m) : r.wp Q X := by rw [e]; exact h
theorem RS.wp.imp {r : RS} {P P' : Post} (h : r.wp P) (h1 : ∀ e m, P.nx e m → P'.nx e m) (h2 : ∀ e m, P.rt e m → P'.rt e m) (h3 : ∀ e m, P.bk e m → P'.bk e m) (h4 : ∀ e m, P.ct e m → P'.ct e m) (h5 : ∀ x e m, P.ex x e m → P'.ex x e m) : r.wp P' := by
  cases r with
  | nx e m => exact h1 _ _ h
  | rt e m => exact h2 _ _ h
  | bk e m => exact h3 _ _ h
  | ct e m => exact h4 _ _ h
  | ex x e m => exact h5 _ _ _ h
  | no => exact h
end
/-- what holds behind the first of two statements -/
def Post.to (P : Post) (J : Env → Mem → Prop) : Post := { P with nx := J }
section
variable {P : Post} {J : Env → Mem → Prop} {env : Env} {μ : Mem}
theorem to_nx : (P.to J).nx env μ = J env μ := rfl
theorem to_rt {d : D} : (P.to J).rt d μ = P.rt d μ := rfl
theorem to_bk : (P.to J).bk env μ = P.bk env μ := rfl
theorem to_ct : (P.to J).ct env μ = P.ct env μ := rfl
theorem to_ex {x : Exn} : (P.to J).ex x env μ = P.ex x env μ := rfl
theorem cut {s1 s2 : S} (J : Env → Mem → Prop) (h : (s1 env μ).wp (P.to J)) (k : ∀ e m, J e m → (s2 e m).wp P) : (sSeq s1 s2 env μ).wp P := by
  rw [ap_seq, wpS_then]
  exact h.imp k (fun _ _ z => z) (fun _ _ z => z) (fun _ _ z => z) (fun _ _ _ z => z)
theorem body_wp {s : S} {n : Nat} {ds : List D} {Q : D → Mem → Prop} {X : Exn → Mem → Prop} (h : (s (env0 n ds) μ).wp (Post.body Q X)) : (runB s n ds μ).wp Q X := by rw [runB_def, wp_out]; exact h
end
/-! ### loops -/
section
variable {P : Post}
theorem for_wp {t : G} {b : S} {g : List (Nat × List D)} {items : List D} {env : Env} {μ : Mem} (I : Nat → Env → Mem → Prop) (hg : ∀ i e m, I i e m → gok g m) (h0 : I 0 env μ)
    (hs : ∀ i x e m, items[i]? = some x → I i e m → tgwp (t x e m) fun e1 m1 => (b e1 m1).wp (P.loop (I (i + 1)))) (he : ∀ e m, I items.length e m → P.nx e m) : (forGo t b g items env μ).wp P := by
  suffices H : ∀ (its : List D) (k : Nat) (env : Env) (μ : Mem), (∀ i x, its[i]? = some x → items[k + i]? = some x) → k + its.length = items.length → I k env μ → (forGo t b g its env μ).wp P from
    H items 0 env μ (fun i x h => by rw [Nat.zero_add]; exact h) (by simp) h0
  intro its
  induction its with
  | nil =>
    intro k env μ _ hk hi
    unfold forGo
    rw [if_pos (hg _ _ _ hi)]
    exact he _ _ (by rw [← hk]; exact hi)
  | cons x xs ih =>
    intro k env μ hx hk hi
    unfold forGo
    rw [if_pos (hg _ _ _ hi), wpS_onG]
    have h := hs k x env μ (by have := hx 0 x rfl; simpa using this) hi
    cases e : t x env μ with
    | none => rw [e] at h; exact h
    | some p =>
      rw [e] at h
      rw [tgwp_some] at h ⊢
      have next : ∀ e2 m2, I (k + 1) e2 m2 → (forGo t b g xs e2 m2).wp P := fun e2 m2 i2 => ih (k + 1) e2 m2 (fun i x h => by have := hx (i + 1) x h; rw [show k + 1 + i = k + (i + 1) by omega]; exact this) (by rw [← hk]; simp; omega) i2
      cases e2 : b p.1 p.2 with
      | nx e' m' => rw [e2] at h; exact next _ _ h
      | ct e' m' => rw [e2] at h; exact next _ _ h
      | bk e' m' => rw [e2] at h; exact h
      | rt d m' => rw [e2] at h; exact h
      | ex x' e' m' => rw [e2] at h; exact h
      | no => rw [e2] at h; exact h
def kWh (b : S) (e : Env) (P : Post) (I : Env → Mem → Prop) (k : Bool) (m1 : Mem) : Prop := Br (k = true) ((b e m1).wp (P.loop I)) (P.nx e m1)
theorem c_wh1t {b : S} {e : Env} {I : Env → Mem → Prop} {m1 : Mem} : kWh b e P I true m1 = (b e m1).wp (P.loop I) := br_t
theorem c_wh1f {b : S} {e : Env} {I : Env → Mem → Prop} {m1 : Mem} : kWh b e P I false m1 = P.nx e m1 := br_f
theorem wh_of {b : S} {e : Env} {I : Env → Mem → Prop} {m1 : Mem} {k : Bool} (h : k = true → (b e m1).wp (P.loop I)) (h2 : k = false → P.nx e m1) : kWh b e P I k m1 := ⟨h, fun z => h2 (by cases k <;> simp_all)⟩
theorem while_wp {c : FB} {b : S} {env : Env} {μ : Mem} (I : Nat → Env → Mem → Prop) (n0 : Nat) (h0 : I n0 env μ)
    (hs : ∀ n e m, I n e m → (c e m).wp (kWh b e P fun e2 m2 => ∃ n', n' < n ∧ I n' e2 m2) (fun x m1 => P.ex x e m1)) : (sWhile c b env μ).wp P := by
  have H : ∀ n env μ, I n env μ → ∃ r : RS, r.wp P ∧ r ≠ .no ∧ ∃ k, whGo c b k env μ = r := by
    intro n
    induction n using Nat.strongRecOn with
    | _ n ih =>
      intro env μ hi
      have h := hs n env μ hi
      cases e : c env μ with
      | no => rw [e] at h; exact h.elim
      | ex x m1 =>
        rw [e] at h
        exact ⟨.ex x env m1, h, by simp, 1, by unfold whGo; rw [e]; rfl⟩
      | ok k m1 =>
        rw [e] at h
        cases k with
        | false => exact ⟨.nx env m1, h.2 (by simp), by simp, 1, by unfold whGo; rw [e]; rfl⟩
        | true =>
          have h : (b env m1).wp (P.loop fun e2 m2 => ∃ n', n' < n ∧ I n' e2 m2) := h.1 rfl
          cases e2 : b env m1 with
          | nx e' m' =>
            rw [e2] at h
            obtain ⟨n', hn, i'⟩ := h
            obtain ⟨r, hr, hne, k, hk⟩ := ih n' hn e' m' i'
            exact ⟨r, hr, hne, k + 1, by unfold whGo; rw [e]; simp only [toS_ok, if_true, e2]; exact hk⟩
          | ct e' m' =>
            rw [e2] at h
            obtain ⟨n', hn, i'⟩ := h
            obtain ⟨r, hr, hne, k, hk⟩ := ih n' hn e' m' i'
            exact ⟨r, hr, hne, k + 1, by unfold whGo; rw [e]; simp only [toS_ok, if_true, e2]; exact hk⟩
          | bk e' m' => rw [e2] at h; exact ⟨.nx e' m', h, by simp, 1, by unfold whGo; rw [e]; simp only [toS_ok, if_true, e2]⟩
          | rt d m' => rw [e2] at h; exact ⟨.rt d m', h, by simp, 1, by unfold whGo; rw [e]; simp only [toS_ok, if_true, e2]⟩
          | ex x e' m' => rw [e2] at h; exact ⟨.ex x e' m', h, by simp, 1, by unfold whGo; rw [e]; simp only [toS_ok, if_true, e2]⟩
          | no => rw [e2] at h; exact h.elim
  obtain ⟨r, hr, hne, k, hk⟩ := H n0 env μ h0
  rw [sWhile_of k hk hne]
  exact hr
end
/-! ### comprehensions -/
section
variable {Q : D → Mem → Prop} {X : Exn → Mem → Prop}
def kLc (e : F) (e1 : Env) (Q : D → Mem → Prop) (N : Mem → Prop) (k : Bool) (m2 : Mem) : Prop := Br (k = true) ((e e1 m2).wp Q noX) (N m2)
theorem c_lc1t {e : F} {e1 : Env} {Q : D → Mem → Prop} {N : Mem → Prop} {m2 : Mem} : kLc e e1 Q N true m2 = (e e1 m2).wp Q noX := br_t
theorem c_lc1f {e : F} {e1 : Env} {Q : D → Mem → Prop} {N : Mem → Prop} {m2 : Mem} : kLc e e1 Q N false m2 = N m2 := br_f
theorem lc_of {e : F} {e1 : Env} {Q : D → Mem → Prop} {N : Mem → Prop} {m2 : Mem} {k : Bool} (h : k = true → (e e1 m2).wp Q noX) (h2 : k = false → N m2) : kLc e e1 Q N k m2 := ⟨h, fun z => h2 (by cases k <;> simp_all)⟩
theorem lc_wp {f : FI} {t : G} {c : FB} {e : F} {vs : List Nat} {env : Env} {μ : Mem} (h : (f env μ).wp (fun it μ1 => ∃ I : Nat → List D → Mem → Prop, (∀ i acc m, I i acc m → gok it.guard m) ∧ I 0 [] (μ1 ++ [.lst []]) ∧
      (∀ i x acc m, it.items[i]? = some x → I i acc m → m[μ1.length]? = some (.lst acc) → tgwp (t x (wipeE env vs) m) fun e1 m1 => (c e1 m1).wp (kLc e e1 (fun y m3 => m3[μ1.length]? = some (.lst acc) ∧ acc.length < sizeLine ∧ I (i + 1) (acc ++ [y]) (m3.set μ1.length (.lst (acc ++ [y]))))
        (fun m2 => m2[μ1.length]? = some (.lst acc) ∧ I (i + 1) acc m2)) noX) ∧ ∀ acc m, I it.items.length acc m → m[μ1.length]? = some (.lst acc) → Q (.cell μ1.length) m) X) : (fLc f t c e vs env μ).wp Q X := by
  unfold fLc
  rw [wp_bind]
  refine h.imp ?_ fun _ _ z => z
  rintro it μ1 ⟨I, hg, h0, hs, he⟩
  suffices H : ∀ (its : List D) (k : Nat) (acc : List D) (m : Mem), (∀ i x, its[i]? = some x → it.items[k + i]? = some x) → k + its.length = it.items.length → I k acc m → m[μ1.length]? = some (.lst acc) → ∃ acc' m', lcGo t c e it.guard μ1.length (wipeE env vs) its m = some m' ∧ I it.items.length acc' m' ∧ m'[μ1.length]? = some (.lst acc') by
    obtain ⟨acc', m', h1, h2, h3⟩ := H it.items 0 [] _ (fun i x h => by rw [Nat.zero_add]; exact h) (by simp) h0 (by simp)
    rw [h1]
    exact he _ _ h2 h3
  intro its
  induction its with
  | nil =>
    intro k acc m _ hk hi hm
    exact ⟨acc, m, by unfold lcGo; rw [if_pos (hg _ _ _ hi)], by rw [← hk]; exact hi, hm⟩
  | cons x xs ih =>
    intro k acc m hx hk hi hm
    have h := hs k x acc m (by have := hx 0 x rfl; simpa using this) hi hm
    have next : ∀ acc m, I (k + 1) acc m → m[μ1.length]? = some (.lst acc) → ∃ acc' m', lcGo t c e it.guard μ1.length (wipeE env vs) xs m = some m' ∧ I it.items.length acc' m' ∧ m'[μ1.length]? = some (.lst acc') := fun acc m i2 hm => ih (k + 1) acc m (fun i x h => by have := hx (i + 1) x h; rw [show k + 1 + i = k + (i + 1) by omega]; exact this) (by rw [← hk]; simp; omega) i2 hm
    unfold lcGo
    rw [if_pos (hg _ _ _ hi)]
    cases e1 : t x (wipeE env vs) m with
    | none => rw [e1] at h; exact h.elim
    | some p =>
      rw [e1] at h
      rw [tgwp_some] at h
      rw [Option.bind_some]
      cases e2 : c p.1 p.2 with
      | no => rw [e2] at h; exact h.elim
      | ex _ _ => rw [e2] at h; exact h.elim
      | ok k2 m2 =>
        rw [e2] at h
        rw [get_ok, Option.bind_some]
        cases k2 with
        | false =>
          rw [if_neg (by simp)]
          have h : m2[μ1.length]? = some (.lst acc) ∧ I (k + 1) acc m2 := h.2 (by simp)
          exact next _ _ h.2 h.1
        | true =>
          rw [if_pos rfl]
          have h : (e p.1 m2).wp (fun y m3 => m3[μ1.length]? = some (.lst acc) ∧ acc.length < sizeLine ∧ I (k + 1) (acc ++ [y]) (m3.set μ1.length (.lst (acc ++ [y])))) noX := h.1 rfl
          cases e3 : e p.1 m2 with
          | no => rw [e3] at h; exact h.elim
          | ex _ _ => rw [e3] at h; exact h.elim
          | ok y m3 =>
            rw [e3] at h
            obtain ⟨h1, h2, h3⟩ := h
            rw [get_ok, Option.bind_some]
            simp only [h1]
            rw [if_pos h2]
            exact next _ _ h3 (List.getElem?_set_self (List.getElem?_eq_some_iff.mp h1).1)
theorem app_get {μ l : Mem} {n : Nat} {c : C} (h : μ[n]? = some c) : (μ ++ l)[n]? = some c := by rw [List.getElem?_append_left (List.getElem?_eq_some_iff.mp h).1]; exact h
theorem gok.app {g : List (Nat × List D)} {μ l : Mem} (h : gok g μ) : gok g (μ ++ l) := fun p hp => app_get (h p hp)
/-- each gives φ of it, and perhaps new cells -/
theorem lc_grow {f : FI} {t : G} {e : F} {vs : List Nat} {env : Env} {μ μ1 : Mem} {it : ItD} (φ : D → D) (hf : f env μ = .ok it μ1) (hg : gok it.guard μ1) (hl : it.items.length ≤ sizeLine)
    (hs : ∀ x ∈ it.items, ∀ l, tgwp (t x (wipeE env vs) (μ1 ++ l)) fun e1 m1 => m1 = μ1 ++ l ∧ (e e1 (μ1 ++ l)).wp (fun y m => y = φ x ∧ ∃ l', m = μ1 ++ l ++ l') noX)
    (he : ∀ l, Q (.cell μ1.length) (μ1 ++ .lst (it.items.map φ) :: l)) : (fLc f t bYes e vs env μ).wp Q X := by
  refine lc_wp (wp_eq hf ⟨fun i acc m => ∃ l, m = μ1 ++ .lst acc :: l ∧ acc = (it.items.take i).map φ, ?_, ⟨[], rfl, by simp⟩, ?_, ?_⟩)
  · rintro i acc m ⟨l, rfl, _⟩
    exact hg.app
  · rintro i x acc m hx ⟨l, rfl, ha⟩ hm
    have h := hs x (List.mem_of_getElem? hx) (.lst acc :: l)
    have hi := (List.getElem?_eq_some_iff.mp hx).1
    cases e1 : t x (wipeE env vs) (μ1 ++ .lst acc :: l) with
    | none => rw [e1] at h; exact h.elim
    | some p =>
      rw [e1] at h
      rw [tgwp_some] at h ⊢
      obtain ⟨h0, h⟩ := h
      refine wp_eq (m := μ1 ++ .lst acc :: l) (a := true) (by rw [h0]; rfl) ?_
      refine lc_of (fun _ => ?_) (fun z => by cases z)
      refine h.imp ?_ fun _ _ z => z
      rintro y m ⟨rfl, l', rfl⟩
      refine ⟨app_get hm, ?_, l ++ l', ?_, ?_⟩
      · rw [ha, List.length_map, List.length_take]; omega
      · rw [List.append_assoc, List.set_append_right _ _ (Nat.le_refl _)]; simp
      · rw [List.take_add_one, hx]; simp [ha]
  · rintro acc m ⟨l, rfl, ha⟩ hm
    rw [List.take_of_length_le (Nat.le_refl _)] at ha
    rw [ha]; exact he l
end
section
variable {Q : D → Mem → Prop} {X : Exn → Mem → Prop}
/-- those of which p tells yes: each gives φ of it, and perhaps new cells -/
theorem lc_fgrow {f : FI} {t : G} {c : FB} {e : F} {vs : List Nat} {env : Env} {μ μ1 : Mem} {it : ItD} (p : D → Bool) (φ : D → D) (hf : f env μ = .ok it μ1) (hg : gok it.guard μ1) (hl : it.items.length ≤ sizeLine)
    (hs : ∀ x ∈ it.items, ∀ l, tgwp (t x (wipeE env vs) (μ1 ++ l)) fun e1 m1 => m1 = μ1 ++ l ∧ (c e1 (μ1 ++ l)).wp (fun b m => b = p x ∧ m = μ1 ++ l) noX ∧ (p x = true → (e e1 (μ1 ++ l)).wp (fun y m => y = φ x ∧ ∃ l', m = μ1 ++ l ++ l') noX))
    (he : ∀ l, Q (.cell μ1.length) (μ1 ++ .lst ((it.items.filter p).map φ) :: l)) : (fLc f t c e vs env μ).wp Q X := by
  refine lc_wp (wp_eq hf ⟨fun i acc m => ∃ l, m = μ1 ++ .lst acc :: l ∧ acc = ((it.items.take i).filter p).map φ, ?_, ⟨[], rfl, by simp⟩, ?_, ?_⟩)
  · rintro i acc m ⟨l, rfl, _⟩
    exact hg.app
  · rintro i x acc m hx ⟨l, rfl, ha⟩ hm
    have h := hs x (List.mem_of_getElem? hx) (.lst acc :: l)
    have hi := (List.getElem?_eq_some_iff.mp hx).1
    cases e1 : t x (wipeE env vs) (μ1 ++ .lst acc :: l) with
    | none => rw [e1] at h; exact h.elim
    | some q =>
      rw [e1] at h
      rw [tgwp_some] at h ⊢
      obtain ⟨h0, h1, h2⟩ := h
      rw [h0]
      refine h1.imp ?_ fun _ _ z => z
      rintro b m ⟨rfl, rfl⟩
      refine lc_of (fun hp => ?_) (fun hp => ?_)
      · refine (h2 hp).imp ?_ fun _ _ z => z
        rintro y m ⟨rfl, l', rfl⟩
        refine ⟨app_get hm, ?_, l ++ l', ?_, ?_⟩
        · rw [ha, List.length_map]
          refine Nat.lt_of_le_of_lt (List.length_filter_le _ _) ?_
          rw [List.length_take]; omega
        · rw [List.append_assoc, List.set_append_right _ _ (Nat.le_refl _)]; simp
        · rw [List.take_add_one, hx]; simp [ha, hp, List.filter_append]
      · refine ⟨hm, l, rfl, ?_⟩
        rw [List.take_add_one, hx]; simp [ha, hp, List.filter_append]
  · rintro acc m ⟨l, rfl, ha⟩ hm
    rw [List.take_of_length_le (Nat.le_refl _)] at ha
    rw [ha]; exact he l
end
section
variable {Q : D → Mem → Prop} {X : Exn → Mem → Prop} {α : Type}
theorem lc_fa {f : FI} {t : G} {c : FB} {e : F} {vs : List Nat} {env : Env} {μ : Mem} (p : α → Bool) (enc φ : α → D) (h : (f env μ).wp (fun it μ1 => ∃ xs : List α, it.items = xs.map enc ∧ gok it.guard μ1 ∧ xs.length ≤ sizeLine ∧ (∀ a ∈ xs, ∀ l, tgwp (t (enc a) (wipeE env vs) (μ1 ++ l)) fun e1 m1 => m1 = μ1 ++ l ∧ (c e1 (μ1 ++ l)).wp (fun b m => b = p a ∧ m = μ1 ++ l) noX ∧ (p a = true → (e e1 (μ1 ++ l)).wp (fun y m => y = φ a ∧ ∃ l', m = μ1 ++ l ++ l') noX)) ∧
    ∀ l, Q (.cell μ1.length) (μ1 ++ .lst ((xs.filter p).map φ) :: l)) X) : (fLc f t c e vs env μ).wp Q X := by
  refine lc_wp (h.imp ?_ fun _ _ z => z)
  rintro it μ1 ⟨xs, hi, hg, hl, hs, he⟩
  refine ⟨fun i acc m => ∃ l, m = μ1 ++ .lst acc :: l ∧ acc = ((xs.take i).filter p).map φ, ?_, ⟨[], rfl, by simp⟩, ?_, ?_⟩
  · rintro i acc m ⟨l, rfl, _⟩
    exact hg.app
  · rintro i x acc m hx ⟨l, rfl, ha⟩ hm
    rw [hi, List.getElem?_map] at hx
    obtain ⟨a, hxa, rfl⟩ := Option.map_eq_some_iff.mp hx
    have h := hs a (List.mem_of_getElem? hxa) (.lst acc :: l)
    have hil := (List.getElem?_eq_some_iff.mp hxa).1
    cases e1 : t (enc a) (wipeE env vs) (μ1 ++ .lst acc :: l) with
    | none => rw [e1] at h; exact h.elim
    | some q =>
      rw [e1] at h
      rw [tgwp_some] at h ⊢
      obtain ⟨h0, h1, h2⟩ := h
      rw [h0]
      refine h1.imp ?_ fun _ _ z => z
      rintro b m ⟨rfl, rfl⟩
      refine lc_of (fun hp => ?_) (fun hp => ?_)
      · refine (h2 hp).imp ?_ fun _ _ z => z
        rintro y m ⟨rfl, l', rfl⟩
        refine ⟨app_get hm, ?_, l ++ l', ?_, ?_⟩
        · rw [ha, List.length_map]
          refine Nat.lt_of_le_of_lt (List.length_filter_le _ _) ?_
          rw [List.length_take]; omega
        · rw [List.append_assoc, List.set_append_right _ _ (Nat.le_refl _)]; simp
        · rw [List.take_add_one, hxa]; simp [ha, hp, List.filter_append]
      · refine ⟨hm, l, rfl, ?_⟩
        rw [List.take_add_one, hxa]; simp [ha, hp, List.filter_append]
  · rintro acc m ⟨l, rfl, ha⟩ hm
    rw [hi, List.length_map, List.take_of_length_le (Nat.le_refl _)] at ha
    rw [ha]; exact he l
theorem lc_ga {f : FI} {t : G} {e : F} {vs : List Nat} {env : Env} {μ : Mem} (enc φ : α → D) (h : (f env μ).wp (fun it μ1 => ∃ xs : List α, it.items = xs.map enc ∧ gok it.guard μ1 ∧ xs.length ≤ sizeLine ∧ (∀ a ∈ xs, ∀ l, tgwp (t (enc a) (wipeE env vs) (μ1 ++ l)) fun e1 m1 => m1 = μ1 ++ l ∧ (e e1 (μ1 ++ l)).wp (fun y m => y = φ a ∧ ∃ l', m = μ1 ++ l ++ l') noX) ∧
    ∀ l, Q (.cell μ1.length) (μ1 ++ .lst (xs.map φ) :: l)) X) : (fLc f t bYes e vs env μ).wp Q X := by
  refine lc_fa (fun _ => true) enc φ (h.imp ?_ fun _ _ z => z)
  rintro it μ1 ⟨xs, hi, hg, hl, hs, he⟩
  refine ⟨xs, hi, hg, hl, fun a ha l => ?_, fun l => ?_⟩
  · have h := hs a ha l
    cases e1 : t (enc a) (wipeE env vs) (μ1 ++ l) with
    | none => rw [e1] at h; exact h.elim
    | some q =>
      rw [e1] at h
      exact ⟨h.1, ⟨rfl, rfl⟩, fun _ => h.2⟩
  · rw [List.filter_eq_self.mpr (fun _ _ => rfl)]; exact he l
end
section
variable {Q : D → Mem → Prop} {X : Exn → Mem → Prop} {α β : Type}
theorem lcGo_in {t1 : G} {e : F} {env1 : Env} {μ1 : Mem} (enc1 φ : β → D) : ∀ (bs : List β) (acc : List D) (l : Mem), acc.length + bs.length ≤ sizeLine → (∀ b ∈ bs, ∀ l, tgwp (t1 (enc1 b) env1 (μ1 ++ l)) fun e2 m3 => m3 = μ1 ++ l ∧ (e e2 (μ1 ++ l)).wp (fun y m => y = φ b ∧ ∃ l', m = μ1 ++ l ++ l') noX) →
    ∃ l', lcGo t1 bYes e [] μ1.length env1 (bs.map enc1) (μ1 ++ .lst acc :: l) = some (μ1 ++ .lst (acc ++ bs.map φ) :: l')
  | [], acc, l, _, _ => ⟨l, by unfold lcGo; rw [List.map_nil]; simp⟩
  | b :: bs, acc, l, hl, h => by
    have h1 := h b (List.mem_cons_self ..) (.lst acc :: l)
    rw [List.map_cons]
    unfold lcGo
    rw [if_pos gok_nil]
    cases e1 : t1 (enc1 b) env1 (μ1 ++ .lst acc :: l) with
    | none => rw [e1] at h1; exact h1.elim
    | some q =>
      rw [e1] at h1
      rw [tgwp_some] at h1
      obtain ⟨h0, h1⟩ := h1
      rw [Option.bind_some, h0]
      show ∃ l', ((R.ok true (μ1 ++ .lst acc :: l)).get.bind _) = _
      rw [get_ok, Option.bind_some, if_pos rfl]
      obtain ⟨y, m, e2, rfl, l', rfl⟩ := h1.gives
      simp only [e2, get_ok, Option.bind_some]
      have hm : (μ1 ++ .lst acc :: l ++ l')[μ1.length]? = some (.lst acc) := by rw [List.append_assoc]; simp
      rw [hm]
      simp only [List.length_cons] at hl
      simp only []
      rw [if_pos (by omega), List.append_assoc, List.set_append_right _ _ (Nat.le_refl _), Nat.sub_self, List.cons_append, List.set_cons_zero]
      obtain ⟨l2, e3⟩ := lcGo_in enc1 φ bs (acc ++ [φ b]) (l ++ l') (by rw [List.length_append]; simp only [List.length_cons, List.length_nil]; omega) fun b hb => h b (List.mem_cons_of_mem _ hb)
      refine ⟨l2, ?_⟩
      rw [e3]; simp
theorem lc2_ga {f f1 : FI} {t t1 : G} {e : F} {vs vs1 : List Nat} {env : Env} {μ : Mem} (enc : α → D) (enc1 : β → D) (ys : α → List β) (φ : α → β → D) (h : (f env μ).wp (fun it μ1 => ∃ xs : List α, it.items = xs.map enc ∧ gok it.guard μ1 ∧ (xs.flatMap fun a => (ys a).map (φ a)).length ≤ sizeLine ∧ (∀ a ∈ xs, ∀ l, tgwp (t (enc a) (wipeE env vs) (μ1 ++ l)) fun e1 m1 => m1 = μ1 ++ l ∧
      (f1 e1 (μ1 ++ l)).wp (fun it1 m2 => it1.items = (ys a).map enc1 ∧ it1.guard = [] ∧ m2 = μ1 ++ l ∧ ∀ b ∈ ys a, ∀ l, tgwp (t1 (enc1 b) (wipeE e1 vs1) (μ1 ++ l)) fun e2 m3 => m3 = μ1 ++ l ∧ (e e2 (μ1 ++ l)).wp (fun y m => y = φ a b ∧ ∃ l', m = μ1 ++ l ++ l') noX) noX) ∧
    ∀ l, Q (.cell μ1.length) (μ1 ++ .lst (xs.flatMap fun a => (ys a).map (φ a)) :: l)) X) : (fLc2 f t bYes f1 t1 bYes e vs vs1 env μ).wp Q X := by
  unfold fLc2
  rw [wp_bind]
  refine h.imp ?_ fun _ _ z => z
  rintro it μ1 ⟨xs, hi, hg, hl, hs, he⟩
  suffices H : ∀ (as : List α) (acc : List D) (l : Mem), acc.length + (as.flatMap fun a => (ys a).map (φ a)).length ≤ sizeLine → (∀ a ∈ as, a ∈ xs) → ∃ l', lcGo2 t bYes f1 t1 bYes e vs1 it.guard μ1.length (wipeE env vs) (as.map enc) (μ1 ++ .lst acc :: l) = some (μ1 ++ .lst (acc ++ as.flatMap fun a => (ys a).map (φ a)) :: l') by
    obtain ⟨l', e'⟩ := H xs [] [] (by simpa using hl) fun _ h => h
    rw [hi, e']
    exact he l'
  intro as
  induction as with
  | nil => intro acc l _ _; exact ⟨l, by unfold lcGo2; rw [List.map_nil]; simp only [if_pos (hg.app (l := .lst acc :: l))]; simp⟩
  | cons a as ih =>
    intro acc l hl hm
    have h1 := hs a (hm a (List.mem_cons_self ..)) (.lst acc :: l)
    rw [List.map_cons]
    unfold lcGo2
    rw [if_pos (hg.app (l := .lst acc :: l))]
    cases e1 : t (enc a) (wipeE env vs) (μ1 ++ .lst acc :: l) with
    | none => rw [e1] at h1; exact h1.elim
    | some q =>
      rw [e1] at h1
      rw [tgwp_some] at h1
      obtain ⟨h0, h1⟩ := h1
      rw [Option.bind_some, h0]
      show ∃ l', ((R.ok true (μ1 ++ .lst acc :: l)).get.bind _) = _
      rw [get_ok, Option.bind_some, if_pos rfl]
      obtain ⟨it1, m, e2, h2, h3, rfl, h4⟩ := h1.gives
      simp only [e2, get_ok, Option.bind_some, h2, h3]
      rw [List.flatMap_cons, List.length_append, List.length_map] at hl
      obtain ⟨l1, e3⟩ := lcGo_in (t1 := t1) (e := e) (env1 := wipeE q.1 vs1) (μ1 := μ1) enc1 (φ a) (ys a) acc l (by omega) h4
      rw [e3, Option.bind_some]
      obtain ⟨l2, e4⟩ := ih (acc ++ (ys a).map (φ a)) l1 (by rw [List.length_append, List.length_map]; omega) fun b hb => hm b (List.mem_cons_of_mem _ hb)
      refine ⟨l2, ?_⟩
      rw [e4]; simp
end
theorem wipe_nil {env : Env} : wipeE env [] = env := rfl
theorem wipe_cons {env : Env} {v : Nat} {vs : List Nat} : wipeE env (v :: vs) = (wipeE env vs).set v none := rfl
section
variable {Q : D → Mem → Prop} {X : Exn → Mem → Prop}
/-- the same, what is walked being wished for -/
theorem lc_g {f : FI} {t : G} {e : F} {vs : List Nat} {env : Env} {μ : Mem} (φ : D → D) (h : (f env μ).wp (fun it μ1 => gok it.guard μ1 ∧ it.items.length ≤ sizeLine ∧ (∀ x ∈ it.items, ∀ l, tgwp (t x (wipeE env vs) (μ1 ++ l)) fun e1 m1 => m1 = μ1 ++ l ∧ (e e1 (μ1 ++ l)).wp (fun y m => y = φ x ∧ ∃ l', m = μ1 ++ l ++ l') noX) ∧
    ∀ l, Q (.cell μ1.length) (μ1 ++ .lst (it.items.map φ) :: l)) X) : (fLc f t bYes e vs env μ).wp Q X := by
  cases hf : f env μ with
  | ok it μ1 =>
    rw [hf] at h
    obtain ⟨h1, h2, h3, h4⟩ := h
    exact lc_grow φ hf h1 h2 h3 h4
  | ex x m => rw [hf] at h; unfold fLc; rw [hf]; exact h
  | no => rw [hf] at h; exact h.elim
theorem lc_fg {f : FI} {t : G} {c : FB} {e : F} {vs : List Nat} {env : Env} {μ : Mem} (p : D → Bool) (φ : D → D) (h : (f env μ).wp (fun it μ1 => gok it.guard μ1 ∧ it.items.length ≤ sizeLine ∧ (∀ x ∈ it.items, ∀ l, tgwp (t x (wipeE env vs) (μ1 ++ l)) fun e1 m1 => m1 = μ1 ++ l ∧ (c e1 (μ1 ++ l)).wp (fun b m => b = p x ∧ m = μ1 ++ l) noX ∧ (p x = true → (e e1 (μ1 ++ l)).wp (fun y m => y = φ x ∧ ∃ l', m = μ1 ++ l ++ l') noX)) ∧
    ∀ l, Q (.cell μ1.length) (μ1 ++ .lst ((it.items.filter p).map φ) :: l)) X) : (fLc f t c e vs env μ).wp Q X := by
  cases hf : f env μ with
  | ok it μ1 =>
    rw [hf] at h
    obtain ⟨h1, h2, h3, h4⟩ := h
    exact lc_fgrow p φ hf h1 h2 h3 h4
  | ex x m => rw [hf] at h; unfold fLc; rw [hf]; exact h
  | no => rw [hf] at h; exact h.elim
end
/-! ### exceptions that are caught -/
section
variable {P : Post} {env : Env} {μ : Mem} {k : PySem.W.Frag}
/-- within a try -/
def Post.try_ (P : Post) (E : Exn → Env → Mem → Prop) : Post := { P with ex := E }
theorem try_nx {E : Exn → Env → Mem → Prop} : (P.try_ E).nx env μ = P.nx env μ := rfl
theorem try_rt {E : Exn → Env → Mem → Prop} {d : D} : (P.try_ E).rt d μ = P.rt d μ := rfl
theorem try_bk {E : Exn → Env → Mem → Prop} : (P.try_ E).bk env μ = P.bk env μ := rfl
theorem try_ct {E : Exn → Env → Mem → Prop} : (P.try_ E).ct env μ = P.ct env μ := rfl
theorem try_ex {E : Exn → Env → Mem → Prop} {x : Exn} : (P.try_ E).ex x env μ = E x env μ := rfl
theorem wpS_try {body : S} {hs : List (Value × S)} : (sTry k body hs env μ).wp P = (body env μ).wp (P.try_ fun x e m => (hands k x hs e m).wp P) := by
  unfold sTry
  cases body env μ <;> rfl
theorem wpS_tryAs {c : Value} {i : Nat} {body : S} {suite : Exn → S} : (sTryAs k c i body suite env μ).wp P = (body env μ).wp (P.try_ fun x e m => (match PySem.W.exmOne k (.ref x.c) c with
    | some true => if i < e.length then clr i (suite x (e.set i none) m) else .no
    | some false => .ex x e m
    | none => .no : RS).wp P) := by
  unfold sTryAs
  cases body env μ <;> rfl
def Post.clr (P : Post) (i : Nat) : Post := ⟨fun e m => P.nx (e.set i none) m, P.rt, fun e m => P.bk (e.set i none) m, fun e m => P.ct (e.set i none) m, fun _ _ _ => False⟩
theorem wpS_clr {i : Nat} {r : RS} : (Dv.clr i r).wp P = r.wp (P.clr i) := by cases r <;> rfl
theorem clr_nx {i : Nat} : (P.clr i).nx env μ = P.nx (env.set i none) μ := rfl
theorem clr_rt {i : Nat} {d : D} : (P.clr i).rt d μ = P.rt d μ := rfl
theorem clr_bk {i : Nat} : (P.clr i).bk env μ = P.bk (env.set i none) μ := rfl
theorem clr_ct {i : Nat} : (P.clr i).ct env μ = P.ct (env.set i none) μ := rfl
end
/-! ### what is wanted, combinator by combinator: what comes behind is named, never a fun -/
section
variable {α β : Type} {Q : D → Mem → Prop} {X : Exn → Mem → Prop} {μ : Mem} {P : Post} {env : Env} {d x y : D}
def kEx (P : Post) (env : Env) (x : Exn) (m : Mem) : Prop := P.ex x env m
theorem kEx_a {x : Exn} : kEx P env x μ = P.ex x env μ := rfl
theorem c_var {i : Nat} : (fVar i env μ).wp Q X = ((match env[i]? with | some (some d) => .ok d μ | _ => .no : R D)).wp Q X := rfl
theorem c_con : (fCon d env μ).wp Q X = Q d μ := rfl
def kOp1 (g : D → D → Mem → R D) (f2 : F) (env : Env) (Q : D → Mem → Prop) (X : Exn → Mem → Prop) (x : D) (m : Mem) : Prop := (f2 env m).wp (fun y m2 => (g x y m2).wp Q X) X
def kOp2 (g : D → D → Mem → R D) (x : D) (Q : D → Mem → Prop) (X : Exn → Mem → Prop) (y : D) (m : Mem) : Prop := (g x y m).wp Q X
theorem c_op {g : D → D → Mem → R D} {f1 f2 : F} : (fOp g f1 f2 env μ).wp Q X = (f1 env μ).wp (kOp1 g f2 env Q X) X := by rw [ap_op, wp_bind]; congr; funext a m; exact wp_bind
theorem c_op1 {g : D → D → Mem → R D} {f2 : F} : kOp1 g f2 env Q X x μ = (f2 env μ).wp (kOp2 g x Q X) X := rfl
theorem c_op2 {g : D → D → Mem → R D} : kOp2 g x Q X y μ = (g x y μ).wp Q X := rfl
def kUn (g : D → Mem → R D) (Q : D → Mem → Prop) (X : Exn → Mem → Prop) (x : D) (m : Mem) : Prop := (g x m).wp Q X
theorem c_un {g : D → Mem → R D} {f1 : F} : (fUn g f1 env μ).wp Q X = (f1 env μ).wp (kUn g Q X) X := by rw [ap_un, wp_bind]; rfl
theorem c_un1 {g : D → Mem → R D} : kUn g Q X x μ = (g x μ).wp Q X := rfl
def kCh1 (g h : D → D → Mem → R D) (f2 f3 : F) (env : Env) (Q : D → Mem → Prop) (X : Exn → Mem → Prop) (x : D) (m : Mem) : Prop := (f2 env m).wp (fun y m2 => (g x y m2).wp (fun z m3 => match z with | .bl b => Br (b = true) ((f3 env m3).wp (fun w m4 => (h y w m4).wp Q X) X) (Q (.bl false) m3) | _ => False) X) X
def kCh2 (g h : D → D → Mem → R D) (f3 : F) (env : Env) (x : D) (Q : D → Mem → Prop) (X : Exn → Mem → Prop) (y : D) (m2 : Mem) : Prop := (g x y m2).wp (fun z m3 => match z with | .bl b => Br (b = true) ((f3 env m3).wp (fun w m4 => (h y w m4).wp Q X) X) (Q (.bl false) m3) | _ => False) X
def kCh3 (h : D → D → Mem → R D) (f3 : F) (env : Env) (y : D) (Q : D → Mem → Prop) (X : Exn → Mem → Prop) (z : D) (m3 : Mem) : Prop := match z with | .bl b => Br (b = true) ((f3 env m3).wp (kOp2 h y Q X) X) (Q (.bl false) m3) | _ => False
theorem c_chain {g h : D → D → Mem → R D} {f1 f2 f3 : F} : (fChain g h f1 f2 f3 env μ).wp Q X = (f1 env μ).wp (kCh1 g h f2 f3 env Q X) X := by
  rw [ap_chain, wp_bind]; congr; funext a m; rw [wp_bind]; unfold kCh1; congr; funext b m2; rw [wp_bind]; congr; funext z m3
  cases z <;> try rfl
  simp only [wp_ite, wp_bind]; rfl
theorem c_ch1 {g h : D → D → Mem → R D} {f2 f3 : F} : kCh1 g h f2 f3 env Q X x μ = (f2 env μ).wp (kCh2 g h f3 env x Q X) X := rfl
theorem c_ch2 {g h : D → D → Mem → R D} {f3 : F} : kCh2 g h f3 env x Q X y μ = (g x y μ).wp (kCh3 h f3 env y Q X) X := rfl
theorem c_ch3t {h : D → D → Mem → R D} {f3 : F} : kCh3 h f3 env y Q X (.bl true) μ = (f3 env μ).wp (kOp2 h y Q X) X := br_t
theorem c_ch3f {h : D → D → Mem → R D} {f3 : F} : kCh3 h f3 env y Q X (.bl false) μ = Q (.bl false) μ := br_f
def kAnd (f2 : F) (env : Env) (Q : D → Mem → Prop) (X : Exn → Mem → Prop) (z : D) (m : Mem) : Prop := match z with | .bl b => Br (b = true) ((f2 env m).wp Q X) (Q (.bl false) m) | _ => False
def kOr (f2 : F) (env : Env) (Q : D → Mem → Prop) (X : Exn → Mem → Prop) (z : D) (m : Mem) : Prop := match z with | .bl b => Br (b = true) (Q (.bl true) m) ((f2 env m).wp Q X) | _ => False
def kNot (Q : D → Mem → Prop) (z : D) (m : Mem) : Prop := match z with | .bl b => Q (.bl (!b)) m | _ => False
theorem c_and {f1 f2 : F} : (fAnd f1 f2 env μ).wp Q X = (f1 env μ).wp (kAnd f2 env Q X) X := by rw [ap_and, wp_bind]; congr; funext z m; cases z <;> first | rfl | exact wp_ite
theorem c_and1t {f2 : F} : kAnd f2 env Q X (.bl true) μ = (f2 env μ).wp Q X := br_t
theorem c_and1f {f2 : F} : kAnd f2 env Q X (.bl false) μ = Q (.bl false) μ := br_f
theorem c_or {f1 f2 : F} : (fOr f1 f2 env μ).wp Q X = (f1 env μ).wp (kOr f2 env Q X) X := by rw [ap_or, wp_bind]; congr; funext z m; cases z <;> first | rfl | exact wp_ite
theorem c_or1t {f2 : F} : kOr f2 env Q X (.bl true) μ = Q (.bl true) μ := br_t
theorem c_or1f {f2 : F} : kOr f2 env Q X (.bl false) μ = (f2 env μ).wp Q X := br_f
theorem c_not {f1 : F} : (fNot f1 env μ).wp Q X = (f1 env μ).wp (kNot Q) X := by rw [ap_not, wp_bind]; congr; funext z m; cases z <;> rfl
theorem c_not1 {b : Bool} : kNot Q (.bl b) μ = Q (.bl (!b)) μ := rfl
def kIf (f1 f2 : F) (env : Env) (Q : D → Mem → Prop) (X : Exn → Mem → Prop) (b : Bool) (m : Mem) : Prop := Br (b = true) ((f1 env m).wp Q X) ((f2 env m).wp Q X)
theorem c_if {c : FB} {f1 f2 : F} : (fIf c f1 f2 env μ).wp Q X = (c env μ).wp (kIf f1 f2 env Q X) X := by rw [ap_if, wp_bind]; congr; funext b m; exact wp_ite
theorem c_if1t {f1 f2 : F} : kIf f1 f2 env Q X true μ = (f1 env μ).wp Q X := br_t
theorem c_if1f {f1 f2 : F} : kIf f1 f2 env Q X false μ = (f2 env μ).wp Q X := br_f
theorem if_of {f1 f2 : F} {b : Bool} (h : b = true → (f1 env μ).wp Q X) (k : b = false → (f2 env μ).wp Q X) : kIf f1 f2 env Q X b μ := ⟨h, fun z => k (by cases b <;> simp_all)⟩
def kTest (Q : Bool → Mem → Prop) (z : D) (m : Mem) : Prop := match z with | .bl b => Q b m | _ => False
section
variable {Q : Bool → Mem → Prop}
theorem c_test {f1 : F} : (bTest f1 env μ).wp Q X = (f1 env μ).wp (kTest Q) X := by rw [ap_test, wp_bind]; congr; funext z m; cases z <;> rfl
theorem c_test1 {b : Bool} : kTest Q (.bl b) μ = Q b μ := rfl
def kbAnd (c2 : FB) (env : Env) (Q : Bool → Mem → Prop) (X : Exn → Mem → Prop) (b : Bool) (m : Mem) : Prop := Br (b = true) ((c2 env m).wp Q X) (Q false m)
def kbOr (c2 : FB) (env : Env) (Q : Bool → Mem → Prop) (X : Exn → Mem → Prop) (b : Bool) (m : Mem) : Prop := Br (b = true) (Q true m) ((c2 env m).wp Q X)
def kbNot (Q : Bool → Mem → Prop) (b : Bool) (m : Mem) : Prop := Q (!b) m
theorem c_bAnd {c1 c2 : FB} : (bAnd c1 c2 env μ).wp Q X = (c1 env μ).wp (kbAnd c2 env Q X) X := by rw [ap_bAnd, wp_bind]; congr; funext b m; exact wp_ite
theorem c_bAnd1t {c2 : FB} : kbAnd c2 env Q X true μ = (c2 env μ).wp Q X := br_t
theorem c_bAnd1f {c2 : FB} : kbAnd c2 env Q X false μ = Q false μ := br_f
theorem c_bOr {c1 c2 : FB} : (bOr c1 c2 env μ).wp Q X = (c1 env μ).wp (kbOr c2 env Q X) X := by rw [ap_bOr, wp_bind]; congr; funext b m; exact wp_ite
theorem c_bOr1t {c2 : FB} : kbOr c2 env Q X true μ = Q true μ := br_t
theorem c_bOr1f {c2 : FB} : kbOr c2 env Q X false μ = (c2 env μ).wp Q X := br_f
theorem c_bNot {c1 : FB} : (bNot c1 env μ).wp Q X = (c1 env μ).wp (kbNot Q) X := by rw [ap_bNot, wp_bind]; rfl
theorem c_bNot1 {b : Bool} : kbNot Q b μ = Q (!b) μ := rfl
def kTru (Q : Bool → Mem → Prop) (X : Exn → Mem → Prop) (z : D) (m : Mem) : Prop := (truD z m).wp Q X
theorem c_bTru {f1 : F} : (bTru f1 env μ).wp Q X = (f1 env μ).wp (kTru Q X) X := by rw [ap_bTru, wp_bind]; rfl
theorem c_bTru1 : kTru Q X d μ = (truD d μ).wp Q X := rfl
theorem c_bYes : (bYes env μ).wp Q X = Q true μ := rfl
end
section
variable {Q : List D → Mem → Prop} {ds : List D}
def kCo1 (fs : FA) (env : Env) (Q : List D → Mem → Prop) (X : Exn → Mem → Prop) (x : D) (m : Mem) : Prop := (fs env m).wp (fun xs m2 => Q (x :: xs) m2) X
def kCo2 (x : D) (Q : List D → Mem → Prop) (xs : List D) (m : Mem) : Prop := Q (x :: xs) m
theorem c_aNil : (aNil env μ).wp Q X = Q [] μ := rfl
theorem c_aCons {f : F} {fs : FA} : (aCons f fs env μ).wp Q X = (f env μ).wp (kCo1 fs env Q X) X := by rw [ap_aCons, wp_bind]; congr; funext a m; exact wp_bind
theorem c_aCons1 {fs : FA} : kCo1 fs env Q X d μ = (fs env μ).wp (kCo2 d Q) X := rfl
theorem c_aCons2 : kCo2 d Q ds μ = Q (d :: ds) μ := rfl
end
section
variable {ds : List D}
def kTup (Q : D → Mem → Prop) (xs : List D) (m : Mem) : Prop := Br (xs.length ≤ sizeLine) (Q (.tup xs) m) False
def kLst (Q : D → Mem → Prop) (xs : List D) (m : Mem) : Prop := Br (xs.length ≤ sizeLine) (Q (.cell m.length) (m ++ [.lst xs])) False
theorem c_tup {fs : FA} : (fTup fs env μ).wp Q X = (fs env μ).wp (kTup Q) X := by rw [ap_tup, wp_bind]; congr; funext a m; exact wp_ite
theorem c_tup1 : kTup Q ds μ = Br (ds.length ≤ sizeLine) (Q (.tup ds) μ) False := rfl
theorem c_lst {fs : FA} : (fLst fs env μ).wp Q X = (fs env μ).wp (kLst Q) X := by rw [ap_lst, wp_bind]; congr; funext a m; exact wp_ite
theorem c_lst1 : kLst Q ds μ = Br (ds.length ≤ sizeLine) (Q (.cell μ.length) (μ ++ [.lst ds])) False := rfl
theorem c_dct : (fDct env μ).wp Q X = Q (.cell μ.length) (μ ++ [.dK []]) := rfl
def kB (g : List D → Mem → R D) (Q : D → Mem → Prop) (X : Exn → Mem → Prop) (xs : List D) (m : Mem) : Prop := (g xs m).wp Q X
theorem c_B {g : List D → Mem → R D} {fs : FA} : (fB g fs env μ).wp Q X = (fs env μ).wp (kB g Q X) X := by rw [ap_B, wp_bind]; rfl
theorem c_B1 {g : List D → Mem → R D} : kB g Q X ds μ = (g ds μ).wp Q X := rfl
/-- a call -/
def kCal (n : Nat) (g : List D → Mem → R D) (Q : D → Mem → Prop) (X : Exn → Mem → Prop) (xs : List D) (m : Mem) : Prop := Br (xs.length = n) ((g xs m).wp Q X) False
theorem c_call {n : Nat} {g : List D → Mem → R D} {fs : FA} : (fCall (fun ds μ => if ds.length = n then g ds μ else .no) fs env μ).wp Q X = (fs env μ).wp (kCal n g Q X) X := by rw [ap_call, wp_bind]; congr; funext a m; exact wp_ite
theorem c_call1 {n : Nat} {g : List D → Mem → R D} : kCal n g Q X ds μ = Br (ds.length = n) ((g ds μ).wp Q X) False := rfl
def kCal0 (n : Nat) (g : List D → Mem → R D) (Q : D → Mem → Prop) (xs : List D) (m : Mem) : Prop := Br (xs.length = n) ((g xs m).wp Q noX) False
theorem c_call0 {n : Nat} {g : List D → Mem → R D} {fs : FA} : (fCall0 (fun ds μ => if ds.length = n then g ds μ else .no) fs env μ).wp Q X = (fs env μ).wp (kCal0 n g Q) X := by
  rw [ap_call0, wp_bind]; congr; funext a m; rw [wp_noEx, wp_ite]; rfl
theorem c_call01 {n : Nat} {g : List D → Mem → R D} : kCal0 n g Q ds μ = Br (ds.length = n) ((g ds μ).wp Q noX) False := rfl
end
def kSl1 (g : D → Option Int → Option Int → Mem → R D) (lo hi : FO) (env : Env) (Q : D → Mem → Prop) (X : Exn → Mem → Prop) (x : D) (m : Mem) : Prop := (lo env m).wp (fun l m2 => (hi env m2).wp (fun h m3 => (g x l h m3).wp Q X) X) X
def kSl2 (g : D → Option Int → Option Int → Mem → R D) (hi : FO) (env : Env) (x : D) (Q : D → Mem → Prop) (X : Exn → Mem → Prop) (l : Option Int) (m : Mem) : Prop := (hi env m).wp (fun h m3 => (g x l h m3).wp Q X) X
def kSl3 (g : D → Option Int → Option Int → Mem → R D) (x : D) (l : Option Int) (Q : D → Mem → Prop) (X : Exn → Mem → Prop) (h : Option Int) (m : Mem) : Prop := (g x l h m).wp Q X
theorem c_sl {g : D → Option Int → Option Int → Mem → R D} {f : F} {lo hi : FO} : (fSl g f lo hi env μ).wp Q X = (f env μ).wp (kSl1 g lo hi env Q X) X := by
  rw [ap_sl, wp_bind]; congr; funext a m; rw [wp_bind]; unfold kSl1; congr; funext l m2; exact wp_bind
theorem c_sl1 {g : D → Option Int → Option Int → Mem → R D} {lo hi : FO} : kSl1 g lo hi env Q X x μ = (lo env μ).wp (kSl2 g hi env x Q X) X := rfl
theorem c_sl2 {g : D → Option Int → Option Int → Mem → R D} {hi : FO} {l : Option Int} : kSl2 g hi env x Q X l μ = (hi env μ).wp (kSl3 g x l Q X) X := rfl
theorem c_sl3 {g : D → Option Int → Option Int → Mem → R D} {l h : Option Int} : kSl3 g x l Q X h μ = (g x l h μ).wp Q X := rfl
def kAt (Q : Option Int → Mem → Prop) (x : D) (m : Mem) : Prop := match x with | .int i => Q (some i) m | _ => False
theorem c_oNo {Q : Option Int → Mem → Prop} : (oNo env μ).wp Q X = Q none μ := rfl
theorem c_oAt {f : F} {Q : Option Int → Mem → Prop} : (oAt f env μ).wp Q X = (f env μ).wp (kAt Q) X := by rw [ap_oAt, wp_bind]; congr; funext z m; cases z <;> rfl
theorem c_oAt1 {i : Int} {Q : Option Int → Mem → Prop} : kAt Q (.int i) μ = Q (some i) μ := rfl
def kMe1 (T : String) (g : D → List D → Mem → R D) (fs : FA) (env : Env) (Q : D → Mem → Prop) (X : Exn → Mem → Prop) (x : D) (m : Mem) : Prop := Br (tyM T m x = true) ((fs env m).wp (fun xs m2 => (g x xs m2).wp Q X) X) False
def kMe2 (g : D → List D → Mem → R D) (x : D) (Q : D → Mem → Prop) (X : Exn → Mem → Prop) (xs : List D) (m : Mem) : Prop := (g x xs m).wp Q X
theorem c_me {T : String} {g : D → List D → Mem → R D} {fo : F} {fs : FA} : (fMe T g fo fs env μ).wp Q X = (fo env μ).wp (kMe1 T g fs env Q X) X := by
  rw [ap_me, wp_bind]; congr; funext a m; rw [wp_ite, wp_bind]; rfl
theorem c_me1 {T : String} {g : D → List D → Mem → R D} {fs : FA} : kMe1 T g fs env Q X x μ = Br (tyM T μ x = true) ((fs env μ).wp (kMe2 g x Q X) X) False := rfl
theorem c_me2 {g : D → List D → Mem → R D} {ds : List D} : kMe2 g x Q X ds μ = (g x ds μ).wp Q X := rfl
def kMe0 (T : String) (g : D → List D → Mem → R D) (Q : D → Mem → Prop) (X : Exn → Mem → Prop) (x : D) (m : Mem) : Prop := Br (tyM T m x = true) ((g x [] m).wp Q X) False
theorem c_me0 {T : String} {g : D → List D → Mem → R D} {fo : F} : (fMe0 T g fo env μ).wp Q X = (fo env μ).wp (kMe0 T g Q X) X := by rw [ap_me0, wp_bind]; congr; funext a m; exact wp_ite
theorem c_me01 {T : String} {g : D → List D → Mem → R D} : kMe0 T g Q X x μ = Br (tyM T μ x = true) ((g x [] μ).wp Q X) False := rfl
def kRg (Q : D → Mem → Prop) (x : D) (m : Mem) : Prop := match x with | .int n => Br (rgOk 0 n) (Q (.cell m.length) (m ++ [.lst (rngD 0 (n - 0).toNat)])) False | _ => False
def kRgT (Q : D → Mem → Prop) (x : D) (m : Mem) : Prop := match x with | .int n => Br (rgOk 0 n) (Q (.tup (rngD 0 (n - 0).toNat)) m) False | _ => False
theorem c_lstRg {f : F} : (fLstRg1 f env μ).wp Q X = (f env μ).wp (kRg Q) X := by rw [ap_lstRg, wp_bind]; congr; funext z m; cases z <;> first | rfl | exact wp_ite
theorem c_tupRg {f : F} : (fTupRg1 f env μ).wp Q X = (f env μ).wp (kRgT Q) X := by rw [ap_tupRg, wp_bind]; congr; funext z m; cases z <;> first | rfl | exact wp_ite
theorem c_lstRg1 {n : Nat} (h : n ≤ 16777216) : kRg Q (.int (n : Int)) μ = Q (.cell μ.length) (μ ++ [.lst (rngD 0 n)]) := by
  show Br (rgOk 0 (n : Int)) _ False = _
  rw [show rgOk 0 (n : Int) = True from eq_true (rg_of h), br_true]; rfl
theorem c_tupRg1 {n : Nat} (h : n ≤ 16777216) : kRgT Q (.int (n : Int)) μ = Q (.tup (rngD 0 n)) μ := by
  show Br (rgOk 0 (n : Int)) _ False = _
  rw [show rgOk 0 (n : Int) = True from eq_true (rg_of h), br_true]; rfl
def kJ1 (fe : F) (env : Env) (Q : D → Mem → Prop) (X : Exn → Mem → Prop) (x : D) (m : Mem) : Prop := match x with | .str a => (fe env m).wp (fun d m2 => (dJoin (.str a) d m2).wp Q X) X | _ => False
def kJ2 (a : Str) (Q : D → Mem → Prop) (X : Exn → Mem → Prop) (d : D) (m2 : Mem) : Prop := (dJoin (.str a) d m2).wp Q X
theorem c_join {fo fe : F} : (fJoin fo fe env μ).wp Q X = (fo env μ).wp (kJ1 fe env Q X) X := by
  unfold fJoin; rw [wp_bind]; congr; funext x m; cases x <;> first | rfl | exact wp_bind
theorem c_join1 {fe : F} {a : Str} : kJ1 fe env Q X (.str a) μ = (fe env μ).wp (kJ2 a Q X) X := rfl
theorem c_join2 {a : Str} : kJ2 a Q X d μ = (dJoin (.str a) d μ).wp Q X := rfl
/-! own objects -/
theorem c_fld {C : Addr} {f : Str} {fe : F} : (fUn (fldC C f) fe env μ).wp Q X = (fe env μ).wp (kUn (fldC C f) Q X) X := c_un
def kMk1 (C : Addr) (g : List D → Mem → R D) (n : Nat) (Q : D → Mem → Prop) (X : Exn → Mem → Prop) (ds : List D) (m : Mem) : Prop := Br (ds.length + 1 = n) ((g (.cell m.length :: ds) (m ++ [.ins C []])).wp (fun v m2 => match v with | .non => Q (.cell m.length) m2 | _ => False) X) False
def kMk2 (n : Nat) (Q : D → Mem → Prop) (v : D) (m2 : Mem) : Prop := match v with | .non => Q (.cell n) m2 | _ => False
theorem c_mk {C : Addr} {g : List D → Mem → R D} {n : Nat} {fs : FA} : (fMake C g n fs env μ).wp Q X = (fs env μ).wp (kMk1 C g n Q X) X := by
  unfold fMake; rw [wp_bind]; congr; funext a m; rw [wp_ite, wp_bind]; unfold kMk1; congr; funext v m2; cases v <;> rfl
theorem c_mk1 {C : Addr} {g : List D → Mem → R D} {n : Nat} {ds : List D} : kMk1 C g n Q X ds μ = Br (ds.length + 1 = n) ((g (.cell μ.length :: ds) (μ ++ [.ins C []])).wp (kMk2 μ.length Q) X) False := rfl
theorem c_mk2 {n : Nat} : kMk2 n Q .non μ = Q (.cell n) μ := rfl
def kMt1 (C : Addr) (m : Str) (g : List D → Mem → R D) (n : Nat) (fs : FA) (env : Env) (Q : D → Mem → Prop) (X : Exn → Mem → Prop) (o : D) (μ1 : Mem) : Prop := match o with
  | .cell c => match μ1[c]? with
    | some (.ins C' fl) => Br (C' = C ∧ fl.lookup m = none) ((fs env μ1).wp (fun ds μ2 => Br (ds.length + 1 = n) ((g (.cell c :: ds) μ2).wp Q X) False) X) False
    | _ => False
  | _ => False
def kMt2 (g : List D → Mem → R D) (n : Nat) (c : Nat) (Q : D → Mem → Prop) (X : Exn → Mem → Prop) (ds : List D) (μ2 : Mem) : Prop := Br (ds.length + 1 = n) ((g (.cell c :: ds) μ2).wp Q X) False
theorem c_mt {C : Addr} {m : Str} {g : List D → Mem → R D} {n : Nat} {fo : F} {fs : FA} : (fMeth C m g n fo fs env μ).wp Q X = (fo env μ).wp (kMt1 C m g n fs env Q X) X := by
  unfold fMeth; rw [wp_bind]; congr; funext o μ1; cases o <;> try rfl
  rename_i c
  simp only [kMt1]
  cases μ1[c]? <;> try rfl
  rename_i cc
  cases cc <;> try rfl
  simp only [wp_ite, wp_bind]; rfl
theorem c_mt1 {C : Addr} {m : Str} {g : List D → Mem → R D} {n : Nat} {fs : FA} {c : Nat} {fl : List (Str × D)} (h : μ[c]? = some (.ins C fl)) (hm : fl.lookup m = none) : kMt1 C m g n fs env Q X (.cell c) μ = (fs env μ).wp (kMt2 g n c Q X) X := by
  simp only [kMt1, h, hm, and_self, br_true]; rfl
theorem c_mt2 {g : List D → Mem → R D} {n c : Nat} {ds : List D} : kMt2 g n c Q X ds μ = Br (ds.length + 1 = n) ((g (.cell c :: ds) μ).wp Q X) False := rfl
theorem fld_at {C : Addr} {f : Str} {n : Nat} {fl : List (Str × D)} {d : D} (h : μ[n]? = some (.ins C fl)) (hf : fl.lookup f = some d) : fldC C f (.cell n) μ = .ok d μ := by simp [fldC, h, hf]
end
/-! ### statements -/
section
variable {μ : Mem} {P : Post} {env : Env} {d x y : D}
def kRet (P : Post) (d : D) (m : Mem) : Prop := P.rt d m
def kDrop (P : Post) (env : Env) (_ : D) (m : Mem) : Prop := P.nx env m
def kIfS (s1 s2 : S) (env : Env) (P : Post) (b : Bool) (m : Mem) : Prop := Br (b = true) ((s1 env m).wp P) ((s2 env m).wp P)
theorem c_seq {s1 s2 : S} : (sSeq s1 s2 env μ).wp P = (s1 env μ).wp (P.seq s2) := by rw [ap_seq]; exact wpS_then
theorem c_next : (sNext env μ).wp P = P.nx env μ := rfl
theorem c_ret {f : F} : (sRet f env μ).wp P = (f env μ).wp (kRet P) (kEx P env) := by rw [ap_ret]; exact wpS_toS
theorem c_ret1 : kRet P d μ = P.rt d μ := rfl
theorem c_retN : (sRetN env μ).wp P = P.rt .non μ := rfl
theorem c_drop {f : F} : (sDrop f env μ).wp P = (f env μ).wp (kDrop P env) (kEx P env) := by rw [ap_drop]; exact wpS_toS
theorem c_drop1 : kDrop P env d μ = P.nx env μ := rfl
theorem c_break : (sBreak env μ).wp P = P.bk env μ := rfl
theorem c_cont : (sCont env μ).wp P = P.ct env μ := rfl
theorem c_ifS {c : FB} {s1 s2 : S} : (sIf c s1 s2 env μ).wp P = (c env μ).wp (kIfS s1 s2 env P) (kEx P env) := by rw [ap_ifS, wpS_toS]; congr; funext b m; exact wpS_ite
theorem c_ifS1t {s1 s2 : S} : kIfS s1 s2 env P true μ = (s1 env μ).wp P := br_t
theorem c_ifS1f {s1 s2 : S} : kIfS s1 s2 env P false μ = (s2 env μ).wp P := br_f
theorem ifS_of {s1 s2 : S} {b : Bool} (h : b = true → (s1 env μ).wp P) (k : b = false → (s2 env μ).wp P) : kIfS s1 s2 env P b μ := ⟨h, fun z => k (by cases b <;> simp_all)⟩
def kAsg (t : G) (env : Env) (P : Post) (d : D) (m : Mem) : Prop := tgwp (t d env m) P.nx
theorem c_asg {f : F} {t : G} : (sAsg f t env μ).wp P = (f env μ).wp (kAsg t env P) (kEx P env) := by rw [ap_asg, wpS_toS]; congr; funext a m; exact wpS_onG
theorem c_asg1 {t : G} : kAsg t env P d μ = tgwp (t d env μ) P.nx := rfl
def kPar (i j : Nat) (env : Env) (P : Post) (ds : List D) (m : Mem) : Prop := match ds with | [a, b] => P.nx ((env.set i (some a)).set j (some b)) m | _ => False
theorem c_par {i j : Nat} {fs : FA} : (sPar i j fs env μ).wp P = (fs env μ).wp (kPar i j env P) (kEx P env) := by
  rw [ap_par, wpS_toS]; congr; funext a m
  rcases a with _ | ⟨x, _ | ⟨y, _ | _⟩⟩ <;> rfl
theorem c_par1 {i j : Nat} {a b : D} : kPar i j env P [a, b] μ = P.nx ((env.set i (some a)).set j (some b)) μ := rfl
def kAug (i : Nat) (g : D → D → Mem → R D) (env : Env) (x : D) (P : Post) (y : D) (m : Mem) : Prop := (g x y m).wp (fun z m2 => P.nx (env.set i (some z)) m2) (kEx P env)
def kAug2 (i : Nat) (env : Env) (P : Post) (z : D) (m2 : Mem) : Prop := P.nx (env.set i (some z)) m2
theorem c_aug {i : Nat} {g : D → D → Mem → R D} {f : F} (h : env[i]? = some (some x)) : (sAug i g f env μ).wp P = (f env μ).wp (kAug i g env x P) (kEx P env) := by
  unfold sAug
  rw [h]
  simp only [wpS_toS]
  rfl
theorem c_aug1 {i : Nat} {g : D → D → Mem → R D} : kAug i g env x P y μ = (g x y μ).wp (kAug2 i env P) (kEx P env) := rfl
theorem c_aug2 {i : Nat} : kAug2 i env P d μ = P.nx (env.set i (some d)) μ := rfl
def kFor (t : G) (b : S) (env : Env) (P : Post) (it : ItD) (m : Mem) : Prop := (forGo t b it.guard it.items env m).wp P
theorem c_for {f : FI} {t : G} {b : S} : (sFor f t b env μ).wp P = (f env μ).wp (kFor t b env P) (kEx P env) := by rw [ap_for]; exact wpS_toS
theorem c_for1 {t : G} {b : S} {xs : List D} {g : List (Nat × List D)} : kFor t b env P ⟨xs, g⟩ μ = (forGo t b g xs env μ).wp P := rfl
theorem c_raise0 {c : Addr} : (sRaise0 c env μ).wp P = P.ex ⟨c, none⟩ env μ := rfl
def kRais (c : Addr) (f : Str) (env : Env) (P : Post) (d : D) (m : Mem) : Prop := P.ex ⟨c, some [(f, d)]⟩ env m
theorem c_raise1 {c : Addr} {f : Str} {fe : F} : (sRaise1 c f fe env μ).wp P = (fe env μ).wp (kRais c f env P) (kEx P env) := by rw [ap_raise1]; exact wpS_toS
theorem c_raise11 {c : Addr} {f : Str} : kRais c f env P d μ = P.ex ⟨c, some [(f, d)]⟩ env μ := rfl
def kSF1 (C : Addr) (f : Str) (fe : F) (env : Env) (P : Post) (d : D) (m : Mem) : Prop := (fe env m).wp (fun o m2 => (match o with
  | .cell n => match m2[n]? with
    | some (.ins C' fs) => Br (C' = C ∧ fs.length < 1000) (P.nx env (m2.set n (.ins C' (putD f d fs)))) False
    | _ => False
  | _ => False : Prop)) (kEx P env)
def kSF2 (C : Addr) (f : Str) (env : Env) (P : Post) (d : D) (o : D) (m2 : Mem) : Prop := match o with
  | .cell n => match m2[n]? with
    | some (.ins C' fs) => Br (C' = C ∧ fs.length < 1000) (P.nx env (m2.set n (.ins C' (putD f d fs)))) False
    | _ => False
  | _ => False
theorem c_sf {C : Addr} {f : Str} {fe fv : F} : (sFldD C f fe fv env μ).wp P = (fv env μ).wp (kSF1 C f fe env P) (kEx P env) := by
  unfold sFldD
  rw [wpS_toS]; congr; funext d m; rw [wpS_toS]; unfold kSF1; congr; funext o m2
  cases o <;> try rfl
  rename_i n
  simp only []
  cases m2[n]? <;> try rfl
  rename_i cc; cases cc <;> try rfl
  simp only []
  exact wpS_ite
theorem c_sf1 {C : Addr} {f : Str} {fe : F} : kSF1 C f fe env P d μ = (fe env μ).wp (kSF2 C f env P d) (kEx P env) := rfl
theorem c_sf2 {C : Addr} {f : Str} {n : Nat} {fs : List (Str × D)} (h : μ[n]? = some (.ins C fs)) (hl : fs.length < 1000) : kSF2 C f env P d (.cell n) μ = P.nx env (μ.set n (.ins C (putD f d fs))) := by simp only [kSF2, h, hl, and_self, br_true]
def kAugM (o : Option (Option D)) (i : Nat) (g : D → D → Mem → R D) (f : F) (env : Env) (m : Mem) (P : Post) : Prop := match o with | some (some x) => (f env m).wp (kAug i g env x P) (kEx P env) | _ => False
theorem c_augM {i : Nat} {g : D → D → Mem → R D} {f : F} : (sAug i g f env μ).wp P = kAugM env[i]? i g f env μ P := by
  unfold sAug kAugM
  cases h : env[i]? with
  | none => rfl
  | some o => cases o with
    | none => rfl
    | some x => simp only [wpS_toS]; rfl
theorem c_augM1 {i : Nat} {g : D → D → Mem → R D} {f : F} : kAugM (some (some x)) i g f env μ P = (f env μ).wp (kAug i g env x P) (kEx P env) := rfl
/-! targets -/
section
variable {Q : Env → Mem → Prop}
theorem g_nm {i : Nat} : tgwp (gNm i d env μ) Q = Q (env.set i (some d)) μ := rfl
theorem g_tup {n : Nat} {t : Gs} {xs : List D} : tgwp (gTupD n t (.tup xs) env μ) Q = Br (xs.length = n) (tgwp (t xs env μ) Q) False := by rw [ap_gtup]; split <;> rename_i h <;> simp [Br, h, tgwp_none]
def kG (u : Gs) (r : List D) (Q : Env → Mem → Prop) (e : Env) (m : Mem) : Prop := tgwp (u r e m) Q
theorem g_cons {t : G} {u : Gs} {r : List D} : tgwp (gsCons t u (d :: r) env μ) Q = tgwp (t d env μ) (kG u r Q) := by rw [ap_gcons]; cases t d env μ <;> rfl
theorem g_cons1 {u : Gs} {r : List D} : kG u r Q env μ = tgwp (u r env μ) Q := rfl
theorem g_nil : tgwp (gsNil [] env μ) Q = Q env μ := rfl
def kS1 (fi : F) (st : D → D → D → Mem → R Unit) (d : D) (env : Env) (Q : Env → Mem → Prop) (o : D) (m : Mem) : Prop := (fi env m).wp (fun i m2 => (st o i d m2).wp (fun _ m3 => Q env m3) noX) noX
def kS2 (st : D → D → D → Mem → R Unit) (d : D) (env : Env) (o : D) (Q : Env → Mem → Prop) (i : D) (m2 : Mem) : Prop := (st o i d m2).wp (fun _ m3 => Q env m3) noX
def kS3 (env : Env) (Q : Env → Mem → Prop) (_ : Unit) (m3 : Mem) : Prop := Q env m3
theorem g_sub {fo fi : F} {st : D → D → D → Mem → R Unit} : tgwp (gSubD fo fi st d env μ) Q = (fo env μ).wp (kS1 fi st d env Q) noX := by
  rw [ap_gsub, tgwp_get]; congr; funext o m; simp only [tgwp_get]; rfl
theorem g_sub1 {fi : F} {st : D → D → D → Mem → R Unit} : kS1 fi st d env Q x μ = (fi env μ).wp (kS2 st d env x Q) noX := rfl
theorem g_sub2 {st : D → D → D → Mem → R Unit} : kS2 st d env x Q y μ = (st x y d μ).wp (kS3 env Q) noX := rfl
theorem g_sub3 {u : Unit} : kS3 env Q u μ = Q env μ := rfl
end
/-! iterables -/
section
variable {Q : ItD → Mem → Prop} {X : Exn → Mem → Prop}
def kIt (Q : ItD → Mem → Prop) (d : D) (m : Mem) : Prop := match d with | .tup xs => Q ⟨xs, []⟩ m | _ => False
def kIl (Q : ItD → Mem → Prop) (d : D) (m : Mem) : Prop := match d with
  | .cell n => match m[n]? with | some (.lst xs) => Q ⟨xs, [(n, xs)]⟩ m | _ => False
  | .scr ns => Q ⟨ns.map .int, []⟩ m
  | _ => False
def kIs (Q : ItD → Mem → Prop) (d : D) (m : Mem) : Prop := match d with | .str z => Q ⟨z.cps.toList.map fun c => .str ⟨#[c]⟩, []⟩ m | _ => False
def kIr1 (Q : ItD → Mem → Prop) (ds : List D) (m : Mem) : Prop := match ds with | [.int j] => Br (smallR j) (Q ⟨rngD 0 j.toNat, []⟩ m) False | _ => False
def kIr2 (Q : ItD → Mem → Prop) (ds : List D) (m : Mem) : Prop := match ds with | [.int i, .int j] => Br (smallR i ∧ smallR j) (Q ⟨rngD i (j - i).toNat, []⟩ m) False | _ => False
def kIe (Q : ItD → Mem → Prop) (ds : List D) (m : Mem) : Prop := match ds with
  | [.cell n] => match m[n]? with | some (.lst xs) => Q ⟨enumD xs, [(n, xs)]⟩ m | _ => False
  | _ => False
def kIz (Q : ItD → Mem → Prop) (ds : List D) (m : Mem) : Prop := match ds with
  | [.cell n, .cell k] => match m[n]?, m[k]? with | some (.lst xs), some (.lst ys) => Q ⟨zipD xs ys, [(n, xs), (k, ys)]⟩ m | _, _ => False
  | [.tup xs, .tup ys] => Q ⟨zipD xs ys, []⟩ m
  | _ => False
theorem c_iTup {f : F} : (iTupD f env μ).wp Q X = (f env μ).wp (kIt Q) X := by rw [ap_iTup, wp_bind]; congr; funext z m; cases z <;> rfl
theorem c_iTup1 {xs : List D} : kIt Q (.tup xs) μ = Q ⟨xs, []⟩ μ := rfl
theorem c_iLst {f : F} : (iLstD f env μ).wp Q X = (f env μ).wp (kIl Q) X := by
  rw [ap_iLst, wp_bind]; congr; funext z m; cases z <;> try rfl
  rename_i n
  simp only [kIl]
  cases m[n]? <;> try rfl
  rename_i cc; cases cc <;> rfl
theorem c_iLst1 {n : Nat} {xs : List D} (h : μ[n]? = some (.lst xs)) : kIl Q (.cell n) μ = Q ⟨xs, [(n, xs)]⟩ μ := by simp only [kIl, h]
theorem c_iLst2 {ns : List Int} : kIl Q (.scr ns) μ = Q ⟨ns.map .int, []⟩ μ := rfl
theorem c_iStr {f : F} : (iStrD f env μ).wp Q X = (f env μ).wp (kIs Q) X := by rw [ap_iStr, wp_bind]; congr; funext z m; cases z <;> rfl
theorem c_iStr1 {z : Str} : kIs Q (.str z) μ = Q ⟨z.cps.toList.map fun c => .str ⟨#[c]⟩, []⟩ μ := rfl
theorem c_iRng1 {fs : FA} : (iRng1D fs env μ).wp Q X = (fs env μ).wp (kIr1 Q) X := by
  rw [ap_iRng1, wp_bind]; congr; funext z m
  rcases z with _ | ⟨x, _ | ⟨y, _⟩⟩ <;> try rfl
  · cases x <;> try rfl
    exact wp_ite
  · cases x <;> rfl
theorem c_iRng11 {j : Int} (h : j ≤ 16777216) (h0 : -16777216 ≤ j) : kIr1 Q [.int j] μ = Q ⟨rngD 0 j.toNat, []⟩ μ := by
  show Br (smallR j) _ False = _
  rw [show smallR j = True from eq_true ⟨by omega, by omega⟩, br_true]
theorem c_iRng2 {fs : FA} : (iRng2D fs env μ).wp Q X = (fs env μ).wp (kIr2 Q) X := by
  unfold iRng2D
  rw [wp_bind]; congr; funext z m
  rcases z with _ | ⟨x, _ | ⟨y, _ | ⟨u, _⟩⟩⟩ <;> try rfl
  · cases x <;> rfl
  · cases x <;> cases y <;> try rfl
    exact wp_ite
  · cases x <;> cases y <;> rfl
theorem c_iRng21 {i j : Int} (h : j ≤ 16777216) (h0 : -16777216 ≤ j) (h1 : i ≤ 16777216) (h2 : -16777216 ≤ i) : kIr2 Q [.int i, .int j] μ = Q ⟨rngD i (j - i).toNat, []⟩ μ := by
  show Br (smallR i ∧ smallR j) _ False = _
  rw [show (smallR i ∧ smallR j) = True from eq_true ⟨⟨by omega, by omega⟩, by omega, by omega⟩, br_true]
theorem c_iEnum {fs : FA} : (iEnumD fs env μ).wp Q X = (fs env μ).wp (kIe Q) X := by
  unfold iEnumD
  rw [wp_bind]; congr; funext z m
  rcases z with _ | ⟨x, _ | ⟨y, _⟩⟩ <;> try rfl
  · cases x <;> try rfl
    rename_i n
    simp only [kIe]
    cases m[n]? <;> try rfl
    rename_i cc; cases cc <;> rfl
  · cases x <;> rfl
theorem c_iEnum1 {n : Nat} {xs : List D} (h : μ[n]? = some (.lst xs)) : kIe Q [.cell n] μ = Q ⟨enumD xs, [(n, xs)]⟩ μ := by simp only [kIe, h]
theorem c_iZip {fs : FA} : (iZipD fs env μ).wp Q X = (fs env μ).wp (kIz Q) X := by
  unfold iZipD
  rw [wp_bind]; congr; funext z m
  rcases z with _ | ⟨x, _ | ⟨y, _ | ⟨u, _⟩⟩⟩ <;> try rfl
  · cases x <;> rfl
  · cases x <;> cases y <;> try rfl
    rename_i n k
    simp only [kIz]
    cases m[n]? <;> try rfl
    rename_i cc; cases cc <;> try rfl
    cases m[k]? <;> try rfl
    rename_i cc; cases cc <;> rfl
  · cases x <;> cases y <;> rfl
theorem c_iZip1 {n k : Nat} {xs ys : List D} (h : μ[n]? = some (.lst xs)) (h2 : μ[k]? = some (.lst ys)) : kIz Q [.cell n, .cell k] μ = Q ⟨zipD xs ys, [(n, xs), (k, ys)]⟩ μ := by simp only [kIz, h, h2]
theorem c_iZip2 {xs ys : List D} : kIz Q [.tup xs, .tup ys] μ = Q ⟨zipD xs ys, []⟩ μ := rfl
end
end
/-- the rules of reading, forty together -/
theorem wp_0 : type_of% (And.intro @wipe_nil (And.intro @wipe_cons (And.intro @bind_ok (And.intro @toS_ok (And.intro @get_ok (And.intro @noEx_ok (And.intro @onG_some (And.intro @dEq_ii (And.intro @dEq_ss (And.intro @dNe_ii (And.intro @dNe_ss (And.intro @dLt_ii (And.intro @dLe_ii (And.intro @dGt_ii (And.intro @dGe_ii (And.intro @dAddG_ii (And.intro @dSub_ii (And.intro @int1_i (And.intro @abs_i (And.intro @br_true (And.intro @br_false (And.intro @len_tup (And.intro @len_str (And.intro @ix_tup' (And.intro @tru_bl (And.intro @dIsN_n (And.intro @dNotN_n (And.intro @seqOf_tup (And.intro @setOf_tup (And.intro @Dv.at0 (And.intro @Dv.at1 (And.intro @Dv.at2 (And.intro @Dv.at3 (And.intro @Dv.at4 (And.intro @runB_def (And.intro @wp_ok (And.intro @wp_ex (And.intro @wp_no (And.intro @wp_ite (@wp_out)))))))))))))))))))))))))))))))))))))))) := And.intro @wipe_nil (And.intro @wipe_cons (And.intro @bind_ok (And.intro @toS_ok (And.intro @get_ok (And.intro @noEx_ok (And.intro @onG_some (And.intro @dEq_ii (And.intro @dEq_ss (And.intro @dNe_ii (And.intro @dNe_ss (And.intro @dLt_ii (And.intro @dLe_ii (And.intro @dGt_ii (And.intro @dGe_ii (And.intro @dAddG_ii (And.intro @dSub_ii (And.intro @int1_i (And.intro @abs_i (And.intro @br_true (And.intro @br_false (And.intro @len_tup (And.intro @len_str (And.intro @ix_tup' (And.intro @tru_bl (And.intro @dIsN_n (And.intro @dNotN_n (And.intro @seqOf_tup (And.intro @setOf_tup (And.intro @Dv.at0 (And.intro @Dv.at1 (And.intro @Dv.at2 (And.intro @Dv.at3 (And.intro @Dv.at4 (And.intro @runB_def (And.intro @wp_ok (And.intro @wp_ex (And.intro @wp_no (And.intro @wp_ite (@wp_out)))))))))))))))))))))))))))))))))))))))
theorem wp_1 : type_of% (And.intro @wpS_nx (And.intro @wpS_rt (And.intro @wpS_bk (And.intro @wpS_ct (And.intro @wpS_ex (And.intro @wpS_no (And.intro @wpS_ite (And.intro @tgwp_some (And.intro @tgwp_none (And.intro @seq_nx' (And.intro @seq_rt (And.intro @seq_bk (And.intro @seq_ct (And.intro @seq_ex (And.intro @body_nx (And.intro @body_rt (And.intro @body_ex (And.intro @loop_nx (And.intro @loop_ct (And.intro @loop_bk (And.intro @loop_rt (And.intro @loop_ex (And.intro @to_nx (And.intro @to_rt (And.intro @to_bk (And.intro @to_ct (And.intro @to_ex (And.intro @try_nx (And.intro @try_rt (And.intro @try_bk (And.intro @try_ct (And.intro @try_ex (And.intro @wpS_try (And.intro @wpS_tryAs (And.intro @wpS_clr (And.intro @clr_nx (And.intro @clr_rt (And.intro @clr_bk (And.intro @clr_ct (@kEx_a)))))))))))))))))))))))))))))))))))))))) := And.intro @wpS_nx (And.intro @wpS_rt (And.intro @wpS_bk (And.intro @wpS_ct (And.intro @wpS_ex (And.intro @wpS_no (And.intro @wpS_ite (And.intro @tgwp_some (And.intro @tgwp_none (And.intro @seq_nx' (And.intro @seq_rt (And.intro @seq_bk (And.intro @seq_ct (And.intro @seq_ex (And.intro @body_nx (And.intro @body_rt (And.intro @body_ex (And.intro @loop_nx (And.intro @loop_ct (And.intro @loop_bk (And.intro @loop_rt (And.intro @loop_ex (And.intro @to_nx (And.intro @to_rt (And.intro @to_bk (And.intro @to_ct (And.intro @to_ex (And.intro @try_nx (And.intro @try_rt (And.intro @try_bk (And.intro @try_ct (And.intro @try_ex (And.intro @wpS_try (And.intro @wpS_tryAs (And.intro @wpS_clr (And.intro @clr_nx (And.intro @clr_rt (And.intro @clr_bk (And.intro @clr_ct (@kEx_a)))))))))))))))))))))))))))))))))))))))
theorem wp_2 : type_of% (And.intro @size1000 (And.intro @c_B (And.intro @c_B1 (And.intro @c_aCons (And.intro @c_aCons1 (And.intro @c_aCons2 (And.intro @c_aNil (And.intro @c_and (And.intro @c_and1f (And.intro @c_and1t (And.intro @c_asg (And.intro @c_asg1 (And.intro @c_aug1 (And.intro @c_aug2 (And.intro @c_augM (And.intro @c_augM1 (And.intro @c_bAnd (And.intro @c_bAnd1f (And.intro @c_bAnd1t (And.intro @c_bNot (And.intro @c_bNot1 (And.intro @c_bOr (And.intro @c_bOr1f (And.intro @c_bOr1t (And.intro @c_bTru (And.intro @c_bTru1 (And.intro @c_bYes (And.intro @c_break (And.intro @c_call (And.intro @c_call0 (And.intro @c_call01 (And.intro @c_call1 (And.intro @c_ch1 (And.intro @c_ch2 (And.intro @c_ch3f (And.intro @c_ch3t (And.intro @c_chain (And.intro @c_con (And.intro @c_cont (@c_dct)))))))))))))))))))))))))))))))))))))))) := And.intro @size1000 (And.intro @c_B (And.intro @c_B1 (And.intro @c_aCons (And.intro @c_aCons1 (And.intro @c_aCons2 (And.intro @c_aNil (And.intro @c_and (And.intro @c_and1f (And.intro @c_and1t (And.intro @c_asg (And.intro @c_asg1 (And.intro @c_aug1 (And.intro @c_aug2 (And.intro @c_augM (And.intro @c_augM1 (And.intro @c_bAnd (And.intro @c_bAnd1f (And.intro @c_bAnd1t (And.intro @c_bNot (And.intro @c_bNot1 (And.intro @c_bOr (And.intro @c_bOr1f (And.intro @c_bOr1t (And.intro @c_bTru (And.intro @c_bTru1 (And.intro @c_bYes (And.intro @c_break (And.intro @c_call (And.intro @c_call0 (And.intro @c_call01 (And.intro @c_call1 (And.intro @c_ch1 (And.intro @c_ch2 (And.intro @c_ch3f (And.intro @c_ch3t (And.intro @c_chain (And.intro @c_con (And.intro @c_cont (@c_dct)))))))))))))))))))))))))))))))))))))))
theorem wp_3 : type_of% (And.intro @c_drop (And.intro @c_drop1 (And.intro @c_for (And.intro @c_for1 (And.intro @c_iEnum (And.intro @c_iLst (And.intro @c_iLst2 (And.intro @c_iRng1 (And.intro @c_iRng2 (And.intro @c_iStr (And.intro @c_iStr1 (And.intro @c_iTup (And.intro @c_iTup1 (And.intro @c_iZip (And.intro @c_iZip2 (And.intro @c_if1f (And.intro @c_if1t (And.intro @c_ifS (And.intro @c_ifS1f (And.intro @c_ifS1t (And.intro @c_join (And.intro @c_join1 (And.intro @c_join2 (And.intro @c_lst (And.intro @c_lst1 (And.intro @c_lstRg (And.intro @c_me (And.intro @c_me0 (And.intro @c_me01 (And.intro @c_me1 (And.intro @c_me2 (And.intro @c_mk (And.intro @c_mk1 (And.intro @c_mk2 (And.intro @c_mt (And.intro @c_mt2 (And.intro @c_next (And.intro @c_not (And.intro @c_not1 (@c_oAt)))))))))))))))))))))))))))))))))))))))) := And.intro @c_drop (And.intro @c_drop1 (And.intro @c_for (And.intro @c_for1 (And.intro @c_iEnum (And.intro @c_iLst (And.intro @c_iLst2 (And.intro @c_iRng1 (And.intro @c_iRng2 (And.intro @c_iStr (And.intro @c_iStr1 (And.intro @c_iTup (And.intro @c_iTup1 (And.intro @c_iZip (And.intro @c_iZip2 (And.intro @c_if1f (And.intro @c_if1t (And.intro @c_ifS (And.intro @c_ifS1f (And.intro @c_ifS1t (And.intro @c_join (And.intro @c_join1 (And.intro @c_join2 (And.intro @c_lst (And.intro @c_lst1 (And.intro @c_lstRg (And.intro @c_me (And.intro @c_me0 (And.intro @c_me01 (And.intro @c_me1 (And.intro @c_me2 (And.intro @c_mk (And.intro @c_mk1 (And.intro @c_mk2 (And.intro @c_mt (And.intro @c_mt2 (And.intro @c_next (And.intro @c_not (And.intro @c_not1 (@c_oAt)))))))))))))))))))))))))))))))))))))))
theorem wp_4 : type_of% (And.intro @c_oAt1 (And.intro @c_oNo (And.intro @c_op (And.intro @c_op1 (And.intro @c_op2 (And.intro @c_or (And.intro @c_or1f (And.intro @c_or1t (And.intro @c_par (And.intro @c_par1 (And.intro @c_raise0 (And.intro @c_raise1 (And.intro @c_raise11 (And.intro @c_ret (And.intro @c_ret1 (And.intro @c_retN (And.intro @c_sf (And.intro @c_sf1 (And.intro @c_sl (And.intro @c_sl1 (And.intro @c_sl2 (And.intro @c_sl3 (And.intro @c_test (And.intro @c_test1 (And.intro @c_tup (And.intro @c_tup1 (And.intro @c_tupRg (And.intro @c_un (And.intro @c_un1 (And.intro @c_var (And.intro @g_cons (And.intro @g_cons1 (And.intro @g_nil (And.intro @g_nm (And.intro @g_sub (And.intro @g_sub1 (And.intro @g_sub2 (And.intro @g_sub3 (And.intro @g_tup (@c_wh1t)))))))))))))))))))))))))))))))))))))))) := And.intro @c_oAt1 (And.intro @c_oNo (And.intro @c_op (And.intro @c_op1 (And.intro @c_op2 (And.intro @c_or (And.intro @c_or1f (And.intro @c_or1t (And.intro @c_par (And.intro @c_par1 (And.intro @c_raise0 (And.intro @c_raise1 (And.intro @c_raise11 (And.intro @c_ret (And.intro @c_ret1 (And.intro @c_retN (And.intro @c_sf (And.intro @c_sf1 (And.intro @c_sl (And.intro @c_sl1 (And.intro @c_sl2 (And.intro @c_sl3 (And.intro @c_test (And.intro @c_test1 (And.intro @c_tup (And.intro @c_tup1 (And.intro @c_tupRg (And.intro @c_un (And.intro @c_un1 (And.intro @c_var (And.intro @g_cons (And.intro @g_cons1 (And.intro @g_nil (And.intro @g_nm (And.intro @g_sub (And.intro @g_sub1 (And.intro @g_sub2 (And.intro @g_sub3 (And.intro @g_tup (@c_wh1t)))))))))))))))))))))))))))))))))))))))
theorem wp_5 : type_of% (And.intro @c_wh1f (And.intro @c_lc1t (@c_lc1f))) := And.intro @c_wh1f (And.intro @c_lc1t (@c_lc1f))
theorem append_wp {μ : Mem} {n : Nat} {xs : List D} {d : D} {Q : D → Mem → Prop} {X : Exn → Mem → Prop} (h : μ[n]? = some (.lst xs)) (hl : xs.length < 1000000) (k : Q .non (μ.set n (.lst (xs ++ [d])))) : (mAppend (.cell n) [d] μ).wp Q X := by
  rw [append_ok h (by rw [sizeLine_eq]; omega)]; exact k
end Dv

set_option maxRecDepth 100000
set_option maxHeartbeats 4000000
namespace Law
open PySem PySem.Spec PyProof.Rows L2 Dv
/-- where the written classes stand -/
structure Adr where
  WalkError : Addr
  NoWords : Addr
  BadQuestion : Addr
  Readings : Addr
  Question : Addr
  none_ : Addr
noncomputable def b__law_pool : S := (sSeq (sAsg (fLc (iLstD (fSl slG (fVar 0) oNo (oAt (fCon (.int 63))))) (gNm 3) (bTest (fOp dGe (fB dAbs (aCons (fVar 3) aNil)) (fOp dPow (fCon (.int 10)) (fCon (.int 18))))) (fB dAbs (aCons (fVar 3) aNil)) [3]) (gNm 1))
    (sSeq (sAsg (fLc (iLstD (fSl slG (fVar 0) oNo (oAt (fCon (.int 63))))) (gNm 3) (bTest (fOp dLt (fB dAbs (aCons (fVar 3) aNil)) (fOp dPow (fCon (.int 10)) (fCon (.int 18))))) (fOp dMod (fB dInt1 (aCons (fVar 3) aNil)) (fCon (.int 1000003))) [3]) (gNm 2))
    (sRet (fLst (aCons (fVar 1) (aCons (fVar 2) (aCons (fCon (.int 0)) (aCons (fCon (.int 0)) aNil))))))))
noncomputable def g__law_pool : List D → Mem → R D := runB (b__law_pool) 4
noncomputable def b__law_draw : S := (sSeq (sIf (bAnd (bTest (fOp dLe (fOp ixD (fVar 0) (fCon (.int 2))) (fCon (.int 1)))) (bTest (fOp dGt (fB dLenG (aCons (fOp ixD (fVar 0) (fCon (.int 0))) aNil)) (fCon (.int 0))))) (sSeq (sAsg (fOp ixD (fOp ixD (fVar 0) (fCon (.int 0))) (fCon (.int 0))) (gSubD (fVar 0) (fCon (.int 2)) setL))
        (sAsg (fSl slG (fOp ixD (fVar 0) (fCon (.int 0))) (oAt (fCon (.int 1))) oNo) (gSubD (fVar 0) (fCon (.int 0)) setL))) sNext)
    (sSeq (sIf (bTest (fOp dGt (fOp ixD (fVar 0) (fCon (.int 2))) (fCon (.int 1)))) (sSeq (sAsg (fOp dMod (fB dInt1 (aCons (fOp ixD (fVar 0) (fCon (.int 2))) aNil)) (fVar 1)) (gNm 2))
        (sSeq (sAsg (fOp dFdiv (fOp ixD (fVar 0) (fCon (.int 2))) (fVar 1)) (gSubD (fVar 0) (fCon (.int 2)) setL))
        (sRet (fVar 2)))) sNext)
    (sSeq (sAsg (fOp dAddG (fOp ixD (fVar 0) (fCon (.int 3))) (fCon (.int 1))) (gSubD (fVar 0) (fCon (.int 3)) setL))
    (sSeq (sAsg (fCon (.int 0)) (gNm 3))
    (sSeq (sIf (bTest (fOp dGt (fB dLenG (aCons (fOp ixD (fVar 0) (fCon (.int 1))) aNil)) (fCon (.int 0)))) (sAsg (fOp ixD (fOp ixD (fVar 0) (fCon (.int 1))) (fOp dMod (fB dInt1 (aCons (fOp ixD (fVar 0) (fCon (.int 3))) aNil)) (fB dLenG (aCons (fOp ixD (fVar 0) (fCon (.int 1))) aNil)))) (gNm 3)) sNext)
    (sSeq (sAsg (fOp dMod (fB dInt1 (aCons (fOp dMulG (fOp dAddG (fOp dAddG (fVar 3) (fOp dMulG (fCon (.int 7919)) (fOp ixD (fVar 0) (fCon (.int 3))))) (fCon (.int 1))) (fCon (.int 48271))) aNil)) (fCon (.int 2147483647))) (gNm 4))
    (sSeq (sAsg (fOp dMod (fB dInt1 (aCons (fOp dMulG (fVar 4) (fOp dAddG (fOp dFdiv (fVar 4) (fCon (.int 1009))) (fCon (.int 69621)))) aNil)) (fCon (.int 2147483647))) (gNm 4))
    (sSeq (sAsg (fOp dMod (fB dInt1 (aCons (fOp dMulG (fVar 4) (fOp dAddG (fOp dFdiv (fVar 4) (fCon (.int 2003))) (fCon (.int 40692)))) aNil)) (fCon (.int 2147483399))) (gNm 4))
    (sRet (fOp dMod (fB dInt1 (aCons (fOp dFdiv (fVar 4) (fCon (.int 16))) aNil)) (fVar 1)))))))))))
noncomputable def g__law_draw : List D → Mem → R D := runB (b__law_draw) 5
noncomputable def b__law_pick : S := (sRet (fOp ixD (fVar 1) (fCall (fun ds μ => if ds.length = 2 then g__law_draw ds μ else .no) (aCons (fVar 0) (aCons (fB dLenG (aCons (fVar 1) aNil)) aNil)))))
noncomputable def g__law_pick : List D → Mem → R D := runB (b__law_pick) 2
noncomputable def b__law_columns : S := (sSeq (sAsg (fLst (aCons (fTup aNil) aNil)) (gNm 2))
    (sSeq (sFor (iRng1D (aCons (fVar 0) aNil)) (gNm 3) (sSeq (sAsg (fLst aNil) (gNm 4))
        (sSeq (sFor (iLstD (fVar 2)) (gNm 5) (sDrop (fMe "list" mExtend (fVar 4) (aCons (fLc (iStrD (fSl slG (fCon (.str "-ab")) oNo (oAt (fOp dAddG (fVar 1) (fCon (.int 1)))))) (gNm 6) bYes (fOp dAddG (fVar 5) (fTup (aCons (fVar 6) aNil))) [6]) aNil))))
        (sAsg (fVar 4) (gNm 2)))))
    (sRet (fVar 2))))
noncomputable def g__law_columns : List D → Mem → R D := runB (b__law_columns) 7
noncomputable def b__law_drawn_table : S := (sSeq (sAsg (fOp dSub (fB dLenG (aCons (fCall (fun ds μ => if ds.length = 2 then g__law_columns ds μ else .no) (aCons (fVar 1) (aCons (fVar 2) aNil))) aNil)) (fCon (.int 1))) (gNm 5))
    (sSeq (sAsg (fLst aNil) (gNm 6))
    (sSeq (sFor (iRng1D (aCons (fVar 3) aNil)) (gNm 7) (sSeq (sAsg (fCall (fun ds μ => if ds.length = 2 then g__law_draw ds μ else .no) (aCons (fVar 0) (aCons (fVar 3) aNil))) (gNm 8))
        (sSeq (sAsg (fLst aNil) (gNm 9))
        (sSeq (sFor (iRng1D (aCons (fVar 5) aNil)) (gNm 10) (sSeq (sAsg (fCall (fun ds μ => if ds.length = 2 then g__law_draw ds μ else .no) (aCons (fVar 0) (aCons (fVar 3) aNil))) (gNm 11))
            (sDrop (fMe "list" mAppend (fVar 9) (aCons (fIf (bAnd (bTru (fVar 4)) (bTest (fOp dGt (fCall (fun ds μ => if ds.length = 2 then g__law_draw ds μ else .no) (aCons (fVar 0) (aCons (fCon (.int 3)) aNil))) (fCon (.int 0))))) (fVar 8) (fVar 11)) aNil)))))
        (sDrop (fMe "list" mAppend (fVar 6) (aCons (fTup (aCons (fOp dEq (fCall (fun ds μ => if ds.length = 2 then g__law_draw ds μ else .no) (aCons (fVar 0) (aCons (fCon (.int 2)) aNil))) (fCon (.int 0))) (aCons (fB dTupOf (aCons (fVar 9) aNil)) aNil))) aNil)))))))
    (sRet (fVar 6)))))
noncomputable def g__law_drawn_table : List D → Mem → R D := runB (b__law_drawn_table) 12
noncomputable def b__law_by_rows : S := (sSeq (sAsg (fSl slG (fLc (iRng1D (aCons (fVar 1) aNil)) (gNm 3) (bTest (fOp dEq (fCall0 (fun ds μ => if ds.length = 2 then g__law_draw ds μ else .no) (aCons (fVar 0) (aCons (fCon (.int 2)) aNil))) (fCon (.int 0)))) (fVar 3) [3]) oNo (oAt (fCon (.int 2)))) (gNm 4))
    (sSeq (sAsg (fCall (fun ds μ => if ds.length = 2 then g__law_pick ds μ else .no) (aCons (fVar 0) (aCons (fSl slG (fLst (aCons (fCon (.str "a")) (aCons (fCon (.str "ab")) (aCons (fCon (.str "b")) aNil)))) oNo (oAt (fOp dSub (fOp dMulG (fCon (.int 2)) (fVar 2)) (fCon (.int 1))))) aNil))) (gNm 5))
    (sSeq (sAsg (fOp ixD (fLst (aCons (fCon (.int 1)) (aCons (fCon (.int 2)) (aCons (fCon (.int 4)) aNil)))) (fB dLenG (aCons (fVar 4) aNil))) (gNm 6))
    (sSeq (sAsg (fLst aNil) (gNm 7))
    (sSeq (sFor (iRng1D (aCons (fVar 6) aNil)) (gNm 8) (sSeq (sAsg (fLst aNil) (gNm 9))
        (sSeq (sFor (iLstD (fSl slG (fCall (fun ds μ => if ds.length = 2 then g__law_columns ds μ else .no) (aCons (fVar 1) (aCons (fVar 2) aNil))) (oAt (fCon (.int 1))) oNo)) (gNm 10) (sSeq (sAsg (fVar 8) (gNm 11))
            (sSeq (sFor (iEnumD (aCons (fVar 4) aNil)) (gTupD 2 (gsCons (gNm 12) (gsCons (gNm 3) gsNil))) (sIf (bTest (fOp (dInG false) (fOp ixD (fVar 10) (fVar 3)) (fVar 5))) (sAsg (fOp dAddG (fVar 11) (fOp dMulG (fOp ixD (fLst (aCons (fCon (.int 1)) (aCons (fUn dNeg (fCon (.int 1))) aNil))) (fOp dMod (fB dInt1 (aCons (fOp dFdiv (fVar 11) (fOp dAddG (fCon (.int 1)) (fVar 12))) aNil)) (fCon (.int 2)))) (fOp dAddG (fCon (.int 1)) (fVar 12)))) (gNm 11)) sNext))
            (sDrop (fMe "list" mAppend (fVar 9) (aCons (fVar 11) aNil))))))
        (sDrop (fMe "list" mAppend (fVar 7) (aCons (fTup (aCons (fOp dEq (fCall (fun ds μ => if ds.length = 2 then g__law_draw ds μ else .no) (aCons (fVar 0) (aCons (fCon (.int 2)) aNil))) (fCon (.int 0))) (aCons (fB dTupOf (aCons (fVar 9) aNil)) aNil))) aNil))))))
    (sRet (fVar 7)))))))
noncomputable def g__law_by_rows : List D → Mem → R D := runB (b__law_by_rows) 13
noncomputable def b__law_first_signs : S := (sSeq (sAsg (fTup (aCons (fCall (fun ds μ => if ds.length = 2 then g__law_draw ds μ else .no) (aCons (fVar 0) (aCons (fVar 1) aNil))) (aCons (fCall (fun ds μ => if ds.length = 2 then g__law_draw ds μ else .no) (aCons (fVar 0) (aCons (fVar 1) aNil))) aNil))) (gTupD 2 (gsCons (gNm 3) (gsCons (gNm 4) gsNil))))
    (sSeq (sAsg (fLst aNil) (gNm 5))
    (sSeq (sAsg (fLc (iLstD (fSl slG (fCall (fun ds μ => if ds.length = 2 then g__law_columns ds μ else .no) (aCons (fVar 1) (aCons (fVar 2) aNil))) (oAt (fCon (.int 1))) oNo)) (gNm 9) bYes (fOp dAddG (fCon (.int 1)) (fMe "str" mFind (fCon (.str "-ab")) (aCons (fOp ixD (fVar 9) (fVar 3)) aNil))) [9]) (gNm 6))
    (sSeq (sDrop (fMe "list" mAppend (fVar 5) (aCons (fTup (aCons (fOp dEq (fCall (fun ds μ => if ds.length = 2 then g__law_draw ds μ else .no) (aCons (fVar 0) (aCons (fCon (.int 2)) aNil))) (fCon (.int 0))) (aCons (fB dTupOf (aCons (fVar 6) aNil)) aNil))) aNil)))
    (sSeq (sFor (iRng1D (aCons (fOp dAddG (fVar 2) (fCon (.int 1))) aNil)) (gNm 7) (sSeq (sAsg (fLc (iLstD (fSl slG (fCall (fun ds μ => if ds.length = 2 then g__law_columns ds μ else .no) (aCons (fVar 1) (aCons (fVar 2) aNil))) (oAt (fCon (.int 1))) oNo)) (gNm 9) bYes (fIf (bOr (bTest (fOp dEq (fOp ixD (fVar 9) (fVar 4)) (fCon (.str "-")))) (bTest (fOp dGt (fVar 7) (fCon (.int 0))))) (fOp dAddG (fCon (.int 1)) (fVar 7)) (fCon (.int 1))) [9]) (gNm 8))
        (sDrop (fMe "list" mAppend (fVar 5) (aCons (fTup (aCons (fOp dEq (fCall (fun ds μ => if ds.length = 2 then g__law_draw ds μ else .no) (aCons (fVar 0) (aCons (fCon (.int 2)) aNil))) (fCon (.int 0))) (aCons (fB dTupOf (aCons (fVar 8) aNil)) aNil))) aNil)))))
    (sRet (fVar 5)))))))
noncomputable def g__law_first_signs : List D → Mem → R D := runB (b__law_first_signs) 10
noncomputable def b__law_compared : S := (sSeq (sAsg (fCall (fun ds μ => if ds.length = 2 then g__law_draw ds μ else .no) (aCons (fVar 0) (aCons (fOp dSub (fVar 1) (fCon (.int 1))) aNil))) (gNm 3))
    (sSeq (sAsg (fOp dAddG (fOp dAddG (fVar 3) (fCon (.int 1))) (fCall (fun ds μ => if ds.length = 2 then g__law_draw ds μ else .no) (aCons (fVar 0) (aCons (fOp dSub (fOp dSub (fVar 1) (fVar 3)) (fCon (.int 1))) aNil)))) (gNm 4))
    (sSeq (sAsg (fOp dEq (fCall (fun ds μ => if ds.length = 2 then g__law_draw ds μ else .no) (aCons (fVar 0) (aCons (fCon (.int 2)) aNil))) (fCon (.int 0))) (gNm 5))
    (sSeq (sAsg (fLst aNil) (gNm 6))
    (sSeq (sFor (iLstD (fSl slG (fCall (fun ds μ => if ds.length = 2 then g__law_columns ds μ else .no) (aCons (fVar 1) (aCons (fVar 2) aNil))) (oAt (fCon (.int 1))) oNo)) (gNm 7) (sSeq (sAsg (fTup (aCons (fOp ixD (fVar 7) (fVar 3)) (aCons (fOp ixD (fVar 7) (fVar 4)) aNil))) (gNm 8))
        (sSeq (sAsg (fIf (bTru (fVar 5)) (fOp dNe (fOp ixD (fVar 8) (fCon (.int 0))) (fOp ixD (fVar 8) (fCon (.int 1)))) (fOp dNe (fOp dEq (fOp ixD (fVar 8) (fCon (.int 0))) (fCon (.str "-"))) (fOp dEq (fOp ixD (fVar 8) (fCon (.int 1))) (fCon (.str "-"))))) (gNm 9))
        (sDrop (fMe "list" mAppend (fVar 6) (aCons (fB dInt1 (aCons (fVar 9) aNil)) aNil))))))
    (sRet (fLst (aCons (fTup (aCons (fOp dEq (fCall (fun ds μ => if ds.length = 2 then g__law_draw ds μ else .no) (aCons (fVar 0) (aCons (fCon (.int 2)) aNil))) (fCon (.int 0))) (aCons (fB dTupOf (aCons (fVar 6) aNil)) aNil))) (aCons (fTup (aCons (fOp dEq (fCall (fun ds μ => if ds.length = 2 then g__law_draw ds μ else .no) (aCons (fVar 0) (aCons (fCon (.int 2)) aNil))) (fCon (.int 0))) (aCons (fOp dRepW (fTup (aCons (fCon (.int 1)) aNil)) (fB dLenG (aCons (fVar 6) aNil))) aNil))) aNil)))))))))
noncomputable def g__law_compared : List D → Mem → R D := runB (b__law_compared) 10
noncomputable def b__law_spec : S := (sSeq (sAsg (fCall (fun ds μ => if ds.length = 2 then g__law_pick ds μ else .no) (aCons (fVar 0) (aCons (fLst (aCons (fCon (.int 2)) (aCons (fCon (.int 2)) (aCons (fCon (.int 2)) (aCons (fVar 1) aNil))))) aNil))) (gNm 2))
    (sSeq (sAsg (fIf (bTest (fOp dGt (fVar 2) (fCon (.int 3)))) (fCon (.int 1)) (fCall (fun ds μ => if ds.length = 2 then g__law_pick ds μ else .no) (aCons (fVar 0) (aCons (fLst (aCons (fCon (.int 1)) (aCons (fCon (.int 1)) (aCons (fCon (.int 2)) aNil)))) aNil)))) (gNm 3))
    (sSeq (sAsg (fCall (fun ds μ => if ds.length = 2 then g__law_draw ds μ else .no) (aCons (fVar 0) (aCons (fCon (.int 8)) aNil))) (gNm 4))
    (sSeq (sIf (bTest (fOp dLt (fVar 4) (fCon (.int 2)))) (sAsg (fCall (fun ds μ => if ds.length = 5 then g__law_drawn_table ds μ else .no) (aCons (fVar 0) (aCons (fVar 2) (aCons (fVar 3) (aCons (fOp dAddG (fCon (.int 1)) (fCall (fun ds μ => if ds.length = 2 then g__law_draw ds μ else .no) (aCons (fVar 0) (aCons (fCon (.int 4)) aNil)))) (aCons (fOp dEq (fVar 4) (fCon (.int 0))) aNil)))))) (gNm 5)) (sIf (bTest (fOp dLt (fVar 4) (fCon (.int 5)))) (sAsg (fCall (fun ds μ => if ds.length = 3 then g__law_by_rows ds μ else .no) (aCons (fVar 0) (aCons (fVar 2) (aCons (fVar 3) aNil)))) (gNm 5)) (sIf (bTest (fOp dLt (fVar 4) (fCon (.int 7)))) (sAsg (fCall (fun ds μ => if ds.length = 3 then g__law_first_signs ds μ else .no) (aCons (fVar 0) (aCons (fVar 2) (aCons (fVar 3) aNil)))) (gNm 5)) (sAsg (fCall (fun ds μ => if ds.length = 3 then g__law_compared ds μ else .no) (aCons (fVar 0) (aCons (fVar 2) (aCons (fVar 3) aNil)))) (gNm 5)))))
    (sRet (fTup (aCons (fVar 2) (aCons (fVar 3) (aCons (fB dTupOf (aCons (fVar 5) aNil)) aNil)))))))))
noncomputable def g__law_spec : List D → Mem → R D := runB (b__law_spec) 6
noncomputable def b_is_integer : S := (sRet (fAnd (fB dIsi (aCons (fVar 0) (aCons (fCon (.ty "int")) aNil))) (fNot (fB dIsi (aCons (fVar 0) (aCons (fCon (.ty "bool")) aNil))))))
noncomputable def g_is_integer : List D → Mem → R D := runB (b_is_integer) 1
noncomputable def b_is_between : S := (sRet (fAnd (fCall (fun ds μ => if ds.length = 1 then g_is_integer ds μ else .no) (aCons (fVar 2) aNil)) (fChain dLe dLe (fVar 0) (fVar 2) (fVar 1))))
noncomputable def g_is_between : List D → Mem → R D := runB (b_is_between) 3
noncomputable def b_Readings_M___init__ (K : PySem.W.Frag) (a : Adr) : S := (sSeq (sFldD a.Readings "rows" (fVar 0) (fVar 1))
    (sSeq (sFldD a.Readings "letters" (fVar 0) (fVar 2))
    (sSeq (sFldD a.Readings "figures" (fVar 0) (fLst (aCons (fTup aNil) aNil)))
    (sSeq (sFor (iRng1D (aCons (fVar 1) aNil)) (gNm 3) (sFldD a.Readings "figures" (fVar 0) (fLc2 (iLstD (fUn (fldC a.Readings "figures") (fVar 0))) (gNm 4) bYes (iRng1D (aCons (fOp dAddG (fVar 2) (fCon (.int 1))) aNil)) (gNm 5) bYes (fOp dAddG (fVar 4) (fTup (aCons (fVar 5) aNil))) [4, 5] [5])))
    (sFldD a.Readings "ended" (fVar 0) (fLc (iLstD (fUn (fldC a.Readings "figures") (fVar 0))) (gNm 4) bYes (fB dSum (aCons (fLc (iRng1D (aCons (fVar 1) aNil)) (gNm 6) (bTest (fOp dEq (fOp ixD (fVar 4) (fVar 6)) (fCon (.int 0)))) (fOp dShl (fCon (.int 1)) (fVar 6)) [6]) aNil)) [4]))))))
noncomputable def g_Readings_M___init__ (K : PySem.W.Frag) (a : Adr) : List D → Mem → R D := runB (b_Readings_M___init__ K a) 7
noncomputable def b_many_readings (K : PySem.W.Frag) (a : Adr) : S := (sRet (fOp dSub (fB dLenG (aCons (fUn (fldC a.Readings "figures") (fMake a.Readings (g_Readings_M___init__ K a) 3 (aCons (fVar 0) (aCons (fVar 1) aNil)))) aNil)) (fCon (.int 1))))
noncomputable def g_many_readings (K : PySem.W.Frag) (a : Adr) : List D → Mem → R D := runB (b_many_readings K a) 2
noncomputable def b_is_table : S := (sRet (fAnd (fB dIsi (aCons (fVar 1) (aCons (fCon (.ty "tuple")) aNil))) (fChain dLe dLe (fCon (.int 1)) (fB dLenG (aCons (fVar 1) aNil)) (fVar 0))))
noncomputable def g_is_table : List D → Mem → R D := runB (b_is_table) 2
noncomputable def b_is_tuple_of : S := (sRet (fAnd (fB dIsi (aCons (fVar 1) (aCons (fCon (.ty "tuple")) aNil))) (fOp dEq (fB dLenG (aCons (fVar 1) aNil)) (fVar 0))))
noncomputable def g_is_tuple_of : List D → Mem → R D := runB (b_is_tuple_of) 2
noncomputable def b_is_way : S := (sSeq (sIf (bNot (bTru (fCall (fun ds μ => if ds.length = 2 then g_is_tuple_of ds μ else .no) (aCons (fVar 0) (aCons (fVar 2) aNil))))) (sRet (fCon (.bl false))) sNext)
    (sSeq (sFor (iTupD (fVar 2)) (gNm 3) (sIf (bNot (bTru (fCall (fun ds μ => if ds.length = 3 then g_is_between ds μ else .no) (aCons (fCon (.int 0)) (aCons (fOp dSub (fVar 1) (fCon (.int 1))) (aCons (fVar 3) aNil)))))) (sRet (fCon (.bl false))) sNext))
    (sRet (fCon (.bl true)))))
noncomputable def g_is_way : List D → Mem → R D := runB (b_is_way) 4
noncomputable def b_is_question_table (K : PySem.W.Frag) (a : Adr) : S := (sSeq (sIf (bNot (bTru (fCall (fun ds μ => if ds.length = 2 then g_is_table ds μ else .no) (aCons (fCon (.int 8)) (aCons (fVar 2) aNil))))) (sRet (fCon (.bl false))) sNext)
    (sSeq (sAsg (fCall (fun ds μ => if ds.length = 2 then (g_many_readings K a) ds μ else .no) (aCons (fVar 0) (aCons (fVar 1) aNil))) (gNm 3))
    (sSeq (sFor (iTupD (fVar 2)) (gNm 4) (sIf (bOr (bNot (bTru (fCall (fun ds μ => if ds.length = 2 then g_is_tuple_of ds μ else .no) (aCons (fCon (.int 2)) (aCons (fVar 4) aNil))))) (bOr (bNot (bTru (fB dIsi (aCons (fOp ixD (fVar 4) (fCon (.int 0))) (aCons (fCon (.ty "bool")) aNil))))) (bNot (bTru (fCall (fun ds μ => if ds.length = 3 then g_is_way ds μ else .no) (aCons (fVar 3) (aCons (fB dLenG (aCons (fVar 2) aNil)) (aCons (fOp ixD (fVar 4) (fCon (.int 1))) aNil)))))))) (sRet (fCon (.bl false))) sNext))
    (sRet (fCon (.bl true))))))
noncomputable def g_is_question_table (K : PySem.W.Frag) (a : Adr) : List D → Mem → R D := runB (b_is_question_table K a) 5
noncomputable def b_Question_M___init__ (K : PySem.W.Frag) (a : Adr) : S := (sSeq (sIf (bNot (bTru (fCall (fun ds μ => if ds.length = 3 then g_is_between ds μ else .no) (aCons (fCon (.int 2)) (aCons (fCon (.int 4)) (aCons (fVar 1) aNil)))))) (sRaise1 a.BadQuestion "part" (fCon (.str "rows"))) sNext)
    (sSeq (sIf (bNot (bTru (fCall (fun ds μ => if ds.length = 3 then g_is_between ds μ else .no) (aCons (fCon (.int 1)) (aCons (fCon (.int 2)) (aCons (fVar 2) aNil)))))) (sRaise1 a.BadQuestion "part" (fCon (.str "letters"))) sNext)
    (sSeq (sIf (bNot (bTru (fCall (fun ds μ => if ds.length = 3 then (g_is_question_table K a) ds μ else .no) (aCons (fVar 1) (aCons (fVar 2) (aCons (fVar 3) aNil)))))) (sRaise1 a.BadQuestion "part" (fCon (.str "table"))) sNext)
    (sSeq (sFldD a.Question "rows" (fVar 0) (fVar 1))
    (sSeq (sFldD a.Question "letters" (fVar 0) (fVar 2))
    (sFldD a.Question "table" (fVar 0) (fVar 3)))))))
noncomputable def g_Question_M___init__ (K : PySem.W.Frag) (a : Adr) : List D → Mem → R D := runB (b_Question_M___init__ K a) 4
noncomputable def b__law_question (K : PySem.W.Frag) (a : Adr) : S := (sRet (fMake a.Question (g_Question_M___init__ K a) 4 (aCons (fOp ixD (fVar 0) (fCon (.int 0))) (aCons (fOp ixD (fVar 0) (fCon (.int 1))) (aCons (fOp ixD (fVar 0) (fCon (.int 2))) aNil)))))
noncomputable def g__law_question (K : PySem.W.Frag) (a : Adr) : List D → Mem → R D := runB (b__law_question K a) 1
noncomputable def b_is_lettered : S := (sRet (fAnd (fB dIsi (aCons (fVar 1) (aCons (fCon (.ty "str")) aNil))) (fOp dEq (fMe "str" mStrip (fVar 1) (aCons (fSl slG (fCon (.str "abc")) oNo (oAt (fVar 0))) aNil)) (fCon (.str "")))))
noncomputable def g_is_lettered : List D → Mem → R D := runB (b_is_lettered) 2
noncomputable def b_is_words : S := (sSeq (sIf (bNot (bTru (fCall (fun ds μ => if ds.length = 2 then g_is_tuple_of ds μ else .no) (aCons (fVar 1) (aCons (fVar 2) aNil))))) (sRet (fCon (.bl false))) sNext)
    (sSeq (sFor (iTupD (fVar 2)) (gNm 3) (sIf (bNot (bTru (fCall (fun ds μ => if ds.length = 2 then g_is_lettered ds μ else .no) (aCons (fVar 0) (aCons (fVar 3) aNil))))) (sRet (fCon (.bl false))) sNext))
    (sRet (fCon (.bl true)))))
noncomputable def g_is_words : List D → Mem → R D := runB (b_is_words) 4
noncomputable def b_need_words (K : PySem.W.Frag) (a : Adr) : S := (sIf (bNot (bTru (fCall (fun ds μ => if ds.length = 3 then g_is_words ds μ else .no) (aCons (fUn (fldC a.Question "letters") (fVar 0)) (aCons (fVar 1) (aCons (fVar 2) aNil)))))) (sRaise0 a.NoWords) sNext)
noncomputable def g_need_words (K : PySem.W.Frag) (a : Adr) : List D → Mem → R D := runB (b_need_words K a) 3
noncomputable def b_reading_at : S := (sSeq (sAsg (fCon (.int 0)) (gNm 3))
    (sSeq (sFor (iTupD (fVar 1)) (gNm 4) (sSeq (sAug 3 dMul (fOp dAddG (fVar 0) (fCon (.int 1))))
        (sIf (bTest (fOp dLt (fVar 2) (fB dLenG (aCons (fVar 4) aNil)))) (sAug 3 dAdd (fOp dAddG (fCon (.int 1)) (fMe "str" mIndexS (fCon (.str "abc")) (aCons (fOp ixD (fVar 4) (fVar 2)) aNil)))) sNext)))
    (sRet (fVar 3))))
noncomputable def g_reading_at : List D → Mem → R D := runB (b_reading_at) 5
noncomputable def b_readings_of : S := (sRet (fLc (iRng1D (aCons (fB dMaxG (aCons (fLc (iTupD (fVar 1)) (gNm 3) bYes (fB dLenG (aCons (fVar 3) aNil)) [3]) aNil)) aNil)) (gNm 2) bYes (fCall0 (fun ds μ => if ds.length = 3 then g_reading_at ds μ else .no) (aCons (fVar 0) (aCons (fVar 1) (aCons (fVar 2) aNil)))) [2]))
noncomputable def g_readings_of : List D → Mem → R D := runB (b_readings_of) 4
noncomputable def b_answer (K : PySem.W.Frag) (a : Adr) : S := (sSeq (sDrop (fCall (fun ds μ => if ds.length = 3 then (g_need_words K a) ds μ else .no) (aCons (fVar 0) (aCons (fUn (fldC a.Question "rows") (fVar 0)) (aCons (fVar 1) aNil)))))
    (sSeq (sAsg (fCon (.int 0)) (gNm 2))
    (sSeq (sFor (iLstD (fCall (fun ds μ => if ds.length = 2 then g_readings_of ds μ else .no) (aCons (fUn (fldC a.Question "letters") (fVar 0)) (aCons (fVar 1) aNil)))) (gNm 3) (sAsg (fOp ixD (fOp ixD (fOp ixD (fUn (fldC a.Question "table") (fVar 0)) (fVar 2)) (fCon (.int 1))) (fOp dSub (fVar 3) (fCon (.int 1)))) (gNm 2)))
    (sRet (fOp ixD (fOp ixD (fUn (fldC a.Question "table") (fVar 0)) (fVar 2)) (fCon (.int 0)))))))
noncomputable def g_answer (K : PySem.W.Frag) (a : Adr) : List D → Mem → R D := runB (b_answer K a) 4
noncomputable def b__law_drawn_words : S := (sSeq (sAsg (fLst aNil) (gNm 4))
    (sSeq (sFor (iRng1D (aCons (fVar 1) aNil)) (gNm 5) (sDrop (fMe "list" mAppend (fVar 4) (aCons (fJoin (fCon (.str "")) (fLc (iRng1D (aCons (fCall (fun ds μ => if ds.length = 2 then g__law_draw ds μ else .no) (aCons (fVar 0) (aCons (fOp dAddG (fVar 3) (fCon (.int 1))) aNil))) aNil)) (gNm 6) bYes (fOp ixD (fCon (.str "ab")) (fCall0 (fun ds μ => if ds.length = 2 then g__law_draw ds μ else .no) (aCons (fVar 0) (aCons (fVar 2) aNil)))) [6])) aNil))))
    (sRet (fB dTupOf (aCons (fVar 4) aNil)))))
noncomputable def g__law_drawn_words : List D → Mem → R D := runB (b__law_drawn_words) 7
noncomputable def b__law_lead : S := (sSeq (sAsg (fCon (.int 0)) (gNm 3))
    (sSeq (sFor (iTupD (fVar 2)) (gNm 4) (sAsg (fOp dAddG (fOp dMulG (fVar 3) (fOp dAddG (fOp ixD (fVar 0) (fCon (.int 1))) (fCon (.int 1)))) (fMe "str" mFind (fCon (.str "-ab")) (aCons (fVar 4) aNil))) (gNm 3)))
    (sRet (fIf (bTest (fOp dEq (fVar 3) (fCon (.int 0)))) (fVar 1) (fOp ixD (fOp ixD (fOp ixD (fOp ixD (fVar 0) (fCon (.int 2))) (fVar 1)) (fCon (.int 1))) (fOp dSub (fVar 3) (fCon (.int 1))))))))
noncomputable def g__law_lead : List D → Mem → R D := runB (b__law_lead) 5
noncomputable def b__law_column_at : S := (sRet (fB dTupOf (aCons (fLc (iTupD (fVar 0)) (gNm 2) bYes (fIf (bTest (fOp dLt (fVar 1) (fB dLenG (aCons (fVar 2) aNil)))) (fOp ixD (fVar 2) (fVar 1)) (fCon (.str "-"))) [2]) aNil)))
noncomputable def g__law_column_at : List D → Mem → R D := runB (b__law_column_at) 3
noncomputable def b__law_answer : S := (sSeq (sAsg (fCon (.int 0)) (gNm 2))
    (sSeq (sFor (iRng1D (aCons (fB dMaxG (aCons (fLc (iTupD (fVar 1)) (gNm 4) bYes (fB dLenG (aCons (fVar 4) aNil)) [4]) aNil)) aNil)) (gNm 3) (sAsg (fCall (fun ds μ => if ds.length = 3 then g__law_lead ds μ else .no) (aCons (fVar 0) (aCons (fVar 2) (aCons (fCall (fun ds μ => if ds.length = 2 then g__law_column_at ds μ else .no) (aCons (fVar 1) (aCons (fVar 3) aNil))) aNil)))) (gNm 2)))
    (sRet (fOp ixD (fOp ixD (fOp ixD (fVar 0) (fCon (.int 2))) (fVar 2)) (fCon (.int 0))))))
noncomputable def g__law_answer : List D → Mem → R D := runB (b__law_answer) 5
noncomputable def b_law (K : PySem.W.Frag) (a : Adr) : S := (sSeq (sAsg (fCall (fun ds μ => if ds.length = 1 then g__law_pool ds μ else .no) (aCons (fVar 0) aNil)) (gNm 1))
    (sSeq (sFor (iRng1D (aCons (fCon (.int 4)) aNil)) (gNm 2) (sSeq (sAsg (fCall (fun ds μ => if ds.length = 2 then g__law_spec ds μ else .no) (aCons (fVar 1) (aCons (fCon (.int 4)) aNil))) (gNm 3))
        (sSeq (sAsg (fCall (fun ds μ => if ds.length = 1 then (g__law_question K a) ds μ else .no) (aCons (fVar 3) aNil)) (gNm 4))
        (sSeq (sIf (bTest (fOp dNe (fCall (fun ds μ => if ds.length = 2 then (g_answer K a) ds μ else .no) (aCons (fVar 4) (aCons (fOp dRepW (fTup (aCons (fCon (.str "")) aNil)) (fOp ixD (fVar 3) (fCon (.int 0)))) aNil))) (fOp ixD (fOp ixD (fOp ixD (fVar 3) (fCon (.int 2))) (fCon (.int 0))) (fCon (.int 0))))) (sRet (fCon (.bl false))) sNext)
        (sFor (iRng1D (aCons (fCon (.int 10)) aNil)) (gNm 5) (sSeq (sAsg (fCall (fun ds μ => if ds.length = 4 then g__law_drawn_words ds μ else .no) (aCons (fVar 1) (aCons (fOp ixD (fVar 3) (fCon (.int 0))) (aCons (fOp ixD (fVar 3) (fCon (.int 1))) (aCons (fCall (fun ds μ => if ds.length = 2 then g__law_pick ds μ else .no) (aCons (fVar 1) (aCons (fLst (aCons (fCon (.int 1)) (aCons (fCon (.int 2)) (aCons (fCon (.int 3)) (aCons (fCon (.int 6)) (aCons (fCon (.int 6)) aNil)))))) aNil))) aNil))))) (gNm 6))
            (sSeq (sIf (bTest (fOp dEq (fCall (fun ds μ => if ds.length = 2 then g__law_draw ds μ else .no) (aCons (fVar 1) (aCons (fCon (.int 20)) aNil))) (fCon (.int 0)))) (sAsg (fCall (fun ds μ => if ds.length = 4 then g__law_drawn_words ds μ else .no) (aCons (fVar 1) (aCons (fOp ixD (fVar 3) (fCon (.int 0))) (aCons (fOp ixD (fVar 3) (fCon (.int 1))) (aCons (fCon (.int 60)) aNil))))) (gNm 6)) sNext)
            (sSeq (sIf (bTest (fOp dEq (fCall (fun ds μ => if ds.length = 2 then g__law_draw ds μ else .no) (aCons (fVar 1) (aCons (fCon (.int 5)) aNil))) (fCon (.int 0)))) (sAsg (fB dTupOf (aCons (fLc (iRng1D (aCons (fOp ixD (fVar 3) (fCon (.int 0))) aNil)) (gNm 8) bYes (fOp ixD (fVar 6) (fCon (.int 0))) [8]) aNil)) (gNm 6)) sNext)
            (sSeq (sAsg (fCall (fun ds μ => if ds.length = 2 then (g_answer K a) ds μ else .no) (aCons (fVar 4) (aCons (fVar 6) aNil))) (gNm 7))
            (sIf (bOr (bNot (bTru (fB dIsi (aCons (fVar 7) (aCons (fCon (.ty "bool")) aNil))))) (bOr (bTest (fOp dNe (fVar 7) (fCall (fun ds μ => if ds.length = 2 then g__law_answer ds μ else .no) (aCons (fVar 3) (aCons (fVar 6) aNil))))) (bTest (fOp dNe (fCall (fun ds μ => if ds.length = 2 then (g_answer K a) ds μ else .no) (aCons (fVar 4) (aCons (fVar 6) aNil))) (fVar 7))))) (sRet (fCon (.bl false))) sNext))))))))))
    (sRet (fCon (.bl true)))))
noncomputable def g_law (K : PySem.W.Frag) (a : Adr) : List D → Mem → R D := runB (b_law K a) 9
/-- what is known of the exceptions -/
structure PureT (K : PySem.W.Frag) (a : Adr) : Prop where
  ne_BadQuestion_NoWords : a.BadQuestion ≠ a.NoWords
end Law

set_option maxRecDepth 100000
set_option maxHeartbeats 4000000
namespace Law
open PySem PySem.Spec PyProof.Rows L2 Dv
/-- all but cell n stays -/
def Sbn (n : Nat) (μ μ' : Mem) : Prop := ∀ j c, j ≠ n → μ[j]? = some c → μ'[j]? = some c
theorem Sbn.refl {n : Nat} {μ : Mem} : Sbn n μ μ := fun _ _ _ h => h
theorem Sbn.trans {n : Nat} {μ μ1 μ2 : Mem} (a : Sbn n μ μ1) (b : Sbn n μ1 μ2) : Sbn n μ μ2 := fun j c hj h => b j c hj (a j c hj h)
theorem Sbn.set {n : Nat} {μ : Mem} {c : C} : Sbn n μ (μ.set n c) := fun j c' hj h => by rw [List.getElem?_set_ne (Ne.symm hj)]; exact h
theorem app_at {μ l : Mem} {n : Nat} {c : C} (h : μ[n]? = some c) : (μ ++ l)[n]? = some c := app_get h
theorem Sbn.app {n : Nat} {μ μ' l : Mem} (h : Sbn n μ μ') : Sbn n μ (μ' ++ l) := fun j c hj hc => app_at (h j c hj hc)
theorem Sbn.put {n L : Nat} {μ μ' : Mem} {c : C} (h : Sbn n μ μ') (hL : μ.length ≤ L) : Sbn n μ (μ'.set L c) := fun j c' hj hc => by
  have := (List.getElem?_eq_some_iff.mp hc).1
  rw [List.getElem?_set_ne (by omega)]
  exact h j c' hj hc
theorem ix_of {μ : Mem} {n : Nat} {xs : List D} {i : Int} {d : D} (h : μ[n]? = some (.lst xs)) (e : atI xs i = some d) : ixD (.cell n) (.int i) μ = .ok d μ := by rw [ix_cell h, e]
theorem set_of {μ : Mem} {n j : Nat} {xs : List D} {i : Int} {d : D} (h : μ[n]? = some (.lst xs)) (e : ixN xs.length i = some j) : setL (.cell n) (.int i) d μ = .ok () (μ.set n (.lst (xs.set j d))) := by rw [setL_at, h]; simp only [e]
theorem get_set {μ : Mem} {n : Nat} {c c' : C} (h : μ[n]? = some c) : (μ.set n c')[n]? = some c' := List.getElem?_set_self (List.getElem?_eq_some_iff.mp h).1
theorem get_set' {μ : Mem} {n m : Nat} {c c' : C} (h : μ[m]? = some c) (ne : n ≠ m) : (μ.set n c')[m]? = some c := by rw [List.getElem?_set_ne ne]; exact h
theorem mulL {i j : Int} {μ : Mem} (h : (-(2 ^ 64) < i ∧ i < 2 ^ 64) ∨ (-(2 ^ 64) < j ∧ j < 2 ^ 64)) : dMulG (.int i) (.int j) μ = .ok (.int (i * j)) μ := by
  show dMul (.int i) (.int j) μ = _
  exact dI_int h
theorem modL {i j : Int} {μ : Mem} (h : j ≠ 0) : dMod (.int i) (.int j) μ = .ok (.int (i.fmod j)) μ := dI_int h
theorem fdivL {i j : Int} {μ : Mem} (h : CDivN i j) : dFdiv (.int i) (.int j) μ = .ok (.int (i.fdiv j)) μ := dI_int h
theorem pow1018 {μ : Mem} : dPow (.int 10) (.int 18) μ = .ok (.int (10 ^ 18)) μ := dI_int (C := CPow) (g := fun i j => .int (i ^ j.toNat)) (i := 10) (j := 18) ⟨by decide, by decide, by decide⟩
theorem len_rng {lo : Int} {n : Nat} : (rngD lo n).length = n := by simp [rngD]
theorem cutD63 {ns : List Int} (hl : ns.length ≤ 63) : Dv.cutD (ns.map D.int) none (some 63) = ns.map D.int := by
  unfold Dv.cutD
  rw [HT.sIx_none, show (63 : Int) = ((63 : Nat) : Int) from rfl, HT.sIx_nat, List.length_map, List.drop_zero, Nat.min_eq_right hl, Nat.sub_zero]
  exact List.take_of_length_le (by rw [List.length_map]; exact Nat.le_refl _)
theorem small64 {n : Nat} (h : n ≤ 100000) : n < sizeLine := by rw [sizeLine_eq]; omega
theorem at_intD {ns : List Int} {i : Int} (h0 : 0 ≤ i) (h1 : i < (ns.length : Int)) : ∃ z, z ∈ ns ∧ atI (ns.map D.int) i = some (.int z) := by
  rw [atI_in h0 (by simpa using h1), List.getElem?_map]
  have : i.toNat < ns.length := by omega
  exact ⟨ns[i.toNat], List.getElem_mem this, by rw [List.getElem?_eq_getElem this]; rfl⟩
/-! ### the pool -/
def pl (g s : Nat) (c t : Int) : List D := [.cell g, .cell s, .int c, .int t]
structure Pool (μ : Mem) (n : Nat) : Prop where
  ex : ∃ (g s : Nat) (c t : Int) (gs ss : List Int), μ[n]? = some (.lst (pl g s c t)) ∧ μ[g]? = some (.lst (gs.map .int)) ∧ μ[s]? = some (.lst (ss.map .int)) ∧ g ≠ n ∧ s ≠ n
theorem Pool.app {μ l : Mem} {n : Nat} (P : Pool μ n) : Pool (μ ++ l) n := by
  obtain ⟨g, s, c, t, gs, ss, e1, e2, e3, h⟩ := P.ex
  exact ⟨g, s, c, t, gs, ss, app_at e1, app_at e2, app_at e3, h⟩
/-- cell L is no part of the pool -/
def Off (μ : Mem) (p L : Nat) : Prop := L ≠ p ∧ ∀ g s c t, μ[p]? = some (.lst (pl g s c t)) → L ≠ g ∧ L ≠ s
/-- what draws do to a memory -/
structure Stp (p : Nat) (μ μ' : Mem) : Prop where
  sb : Sbn p μ μ'
  of : ∀ L, L < μ.length → Off μ p L → Off μ' p L
  le : μ.length ≤ μ'.length
  lt : p < μ.length
theorem Stp.at {p : Nat} {μ μ' : Mem} (h : Stp p μ μ') {n : Nat} {c : C} (hn : μ[n]? = some c) (o : Off μ p n) : μ'[n]? = some c := h.sb _ _ o.1 hn
theorem Stp.off {p : Nat} {μ μ' : Mem} (h : Stp p μ μ') {n : Nat} {c : C} (hn : μ[n]? = some c) (o : Off μ p n) : Off μ' p n := h.of _ (List.getElem?_eq_some_iff.mp hn).1 o
theorem Stp.trans {p : Nat} {μ μ1 μ2 : Mem} (a : Stp p μ μ1) (b : Stp p μ1 μ2) : Stp p μ μ2 := ⟨a.sb.trans b.sb, fun L h o => b.of L (Nat.lt_of_lt_of_le h a.le) (a.of L h o), Nat.le_trans a.le b.le, a.lt⟩
theorem Off.app {μ l : Mem} {p L : Nat} (h : Off μ p L) (hp : p < μ.length) : Off (μ ++ l) p L := ⟨h.1, fun g s c t e => h.2 g s c t (by rw [List.getElem?_append_left hp] at e; exact e)⟩
theorem Off.set {μ : Mem} {p L K : Nat} {c : C} (h : Off μ p L) (hp : K ≠ p) : Off (μ.set K c) p L := ⟨h.1, fun g s c' t e => h.2 g s c' t (by rw [List.getElem?_set_ne hp] at e; exact e)⟩
theorem Stp.refl {p : Nat} {μ : Mem} (h : p < μ.length) : Stp p μ μ := ⟨Sbn.refl, fun _ _ o => o, Nat.le_refl _, h⟩
theorem Stp.app {p : Nat} {μ μ1 l : Mem} (a : Stp p μ μ1) : Stp p μ (μ1 ++ l) := ⟨a.sb.app, fun L h o => (a.of L h o).app (Nat.lt_of_lt_of_le a.lt a.le), by have := a.le; rw [List.length_append]; omega, a.lt⟩
theorem Stp.put {p L : Nat} {μ μ1 : Mem} {c : C} (a : Stp p μ μ1) (h : μ.length ≤ L) : Stp p μ (μ1.set L c) := ⟨a.sb.put h, fun K hK o => (a.of K hK o).set (by have := a.lt; omega), by simp [a.le], a.lt⟩
theorem Pool.lt {μ : Mem} {n : Nat} (P : Pool μ n) : n < μ.length := by
  obtain ⟨g, s, c, t, gs, ss, e1, _⟩ := P.ex
  exact (List.getElem?_eq_some_iff.mp e1).1
theorem Pool.off {μ : Mem} {p L : Nat} (P : Pool μ p) (h : μ.length ≤ L) : Off μ p L := by
  obtain ⟨g, s, c, t, gs, ss, e1, e2, e3, n1, n2⟩ := P.ex
  have h1 := (List.getElem?_eq_some_iff.mp e1).1
  have h2 := (List.getElem?_eq_some_iff.mp e2).1
  have h3 := (List.getElem?_eq_some_iff.mp e3).1
  refine ⟨by omega, fun g' s' c' t' e => ?_⟩
  rw [e1] at e
  injection e with e; injection e with e
  simp only [pl, List.cons.injEq, D.cell.injEq, D.int.injEq, and_true] at e
  omega
theorem Pool.put {μ : Mem} {p L : Nat} {c : C} (P : Pool μ p) (o : Off μ p L) : Pool (μ.set L c) p := by
  obtain ⟨g, s, c', t, gs, ss, e1, e2, e3, n1, n2⟩ := P.ex
  obtain ⟨h2, h3⟩ := o.2 _ _ _ _ e1
  exact ⟨g, s, c', t, gs, ss, get_set' e1 o.1, get_set' e2 h2, get_set' e3 h3, n1, n2⟩
theorem off_same {μ : Mem} {n g s : Nat} {c t c' t' : Int} (e1 : μ[n]? = some (.lst (pl g s c t))) : ∀ L, L < μ.length → Off μ n L → Off (μ.set n (.lst (pl g s c' t'))) n L := fun L h o => ⟨o.1, fun g1 s1 c1 t1 e => by
  rw [get_set e1] at e
  injection e with e; injection e with e
  simp only [pl, List.cons.injEq, D.cell.injEq, D.int.injEq, and_true] at e
  obtain ⟨rfl, rfl, _⟩ := e
  exact o.2 _ _ _ _ e1⟩
theorem stp_same {μ : Mem} {n g s : Nat} {c t c' t' : Int} (e1 : μ[n]? = some (.lst (pl g s c t))) : Stp n μ (μ.set n (.lst (pl g s c' t'))) := ⟨Sbn.set, off_same e1, by simp, (List.getElem?_eq_some_iff.mp e1).1⟩
theorem stp_new {μ : Mem} {n g g' s : Nat} {c t c' t' : Int} (e1 : μ[n]? = some (.lst (pl g s c t))) (hg : μ.length ≤ g') : Stp n μ (μ.set n (.lst (pl g' s c' t'))) := ⟨Sbn.set, fun L h o => ⟨o.1, fun g1 s1 c1 t1 e => by
  rw [get_set e1] at e
  injection e with e; injection e with e
  simp only [pl, List.cons.injEq, D.cell.injEq, D.int.injEq, and_true] at e
  obtain ⟨rfl, rfl, _⟩ := e
  exact ⟨by omega, (o.2 _ _ _ _ e1).2⟩⟩, by simp, (List.getElem?_eq_some_iff.mp e1).1⟩
section
variable {μ : Mem} {n g s : Nat} {c t : Int}
theorem p0 (e : μ[n]? = some (.lst (pl g s c t))) : ixD (.cell n) (.int 0) μ = .ok (.cell g) μ := ix_of e (by simp [pl])
theorem p1 (e : μ[n]? = some (.lst (pl g s c t))) : ixD (.cell n) (.int 1) μ = .ok (.cell s) μ := ix_of e (by simp [pl])
theorem p2 (e : μ[n]? = some (.lst (pl g s c t))) : ixD (.cell n) (.int 2) μ = .ok (.int c) μ := ix_of e (by simp [pl])
theorem p3 (e : μ[n]? = some (.lst (pl g s c t))) : ixD (.cell n) (.int 3) μ = .ok (.int t) μ := ix_of e (by simp [pl])
theorem s0 {z : Nat} (e : μ[n]? = some (.lst (pl g s c t))) : setL (.cell n) (.int 0) (.cell z) μ = .ok () (μ.set n (.lst (pl z s c t))) := set_of (j := 0) e rfl
theorem s2 {z : Int} (e : μ[n]? = some (.lst (pl g s c t))) : setL (.cell n) (.int 2) (.int z) μ = .ok () (μ.set n (.lst (pl g s z t))) := set_of (j := 2) e rfl
theorem s3 {z : Int} (e : μ[n]? = some (.lst (pl g s c t))) : setL (.cell n) (.int 3) (.int z) μ = .ok () (μ.set n (.lst (pl g s c z))) := set_of (j := 3) e rfl
end
theorem fmod_lt {x m : Int} (h : 0 < m) : 0 ≤ x.fmod m ∧ x.fmod m < m := by
  rw [Int.fmod_eq_emod_of_nonneg x (by omega)]
  exact ⟨Int.emod_nonneg _ (by omega), Int.emod_lt_of_pos _ h⟩
theorem cut1 {gs : List D} {z : D} : Dv.cutD (z :: gs) (some 1) none = gs := by
  unfold Dv.cutD
  rw [HT.sIx_none, show (1 : Int) = ((1 : Nat) : Int) from rfl, HT.sIx_nat, List.length_cons, Nat.min_eq_left (by omega), List.drop_succ_cons, List.drop_zero]
  exact List.take_of_length_le (by omega)
theorem sl_cell {μ : Mem} {n : Nat} {xs : List D} {lo hi : Option Int} (h : μ[n]? = some (.lst xs)) : slG (.cell n) lo hi μ = .ok (.cell μ.length) (μ ++ [.lst (Dv.cutD xs lo hi)]) := by
  simp only [slG, slL, seqOf, h]
theorem draw {μ : Mem} {n : Nat} {k : Int} {Q : D → Mem → Prop} {X : Exn → Mem → Prop} (P : Pool μ n) (h0 : 0 < k) (h1 : k < 1073741824) (h : ∀ r μ', 0 ≤ r → r < k → Pool μ' n → Stp n μ μ' → Q (.int r) μ') : (g__law_draw [.cell n, .int k] μ).wp Q X := by
  refine body_wp (cut (fun e μ' => Pool μ' n ∧ Stp n μ μ' ∧ ∃ a b c, e = [some (.cell n), some (.int k), a, b, c]) ?_ ?_)
  · obtain ⟨g, s, c, t, gs, ss, e1, e2, e3, n1, n2⟩ := P.ex
    simp only [Dv.wp_0, Dv.wp_1, Dv.wp_2, Dv.wp_3, Dv.wp_4, Dv.wp_5, true_and, and_true, and_self, Option.bind_some, List.set_cons_succ, List.set_cons_zero, List.getElem?_cons_zero, List.getElem?_cons_succ, decide_eq_true_eq, Bool.not_eq_true', decide_eq_false_iff_not, not_true_eq_false, not_false_eq_true, decide_true, decide_false, Bool.false_eq_true, if_true, if_false, List.map_cons, List.map_nil, List.length_cons, List.length_nil, List.cons_append, List.nil_append, Nat.zero_add, beq_self_eq_true, Bool.not_true, Bool.not_false, Nat.reduceAdd, Nat.reduceSub, Int.reduceEq, Nat.reduceLeDiff, Dv.env0, List.replicate, Dv.c_seq, Dv.c_if, p2 e1, p0 e1, len_cell e2, List.length_map]
    by_cases c1 : c ≤ 1
    rotate_left
    · simp only [Dv.wp_0, Dv.wp_1, Dv.wp_2, Dv.wp_3, Dv.wp_4, Dv.wp_5, true_and, and_true, and_self, Option.bind_some, List.set_cons_succ, List.set_cons_zero, List.getElem?_cons_zero, List.getElem?_cons_succ, decide_eq_true_eq, Bool.not_eq_true', decide_eq_false_iff_not, not_true_eq_false, not_false_eq_true, decide_true, decide_false, Bool.false_eq_true, if_true, if_false, List.map_cons, List.map_nil, List.length_cons, List.length_nil, List.cons_append, List.nil_append, Nat.zero_add, beq_self_eq_true, Bool.not_true, Bool.not_false, Nat.reduceAdd, Nat.reduceSub, Int.reduceEq, Nat.reduceLeDiff, Dv.env0, List.replicate, Dv.c_seq, Dv.c_if, c1]
      exact ⟨P, Stp.refl P.lt, _, _, _, rfl⟩
    simp only [Dv.wp_0, Dv.wp_1, Dv.wp_2, Dv.wp_3, Dv.wp_4, Dv.wp_5, true_and, and_true, and_self, Option.bind_some, List.set_cons_succ, List.set_cons_zero, List.getElem?_cons_zero, List.getElem?_cons_succ, decide_eq_true_eq, Bool.not_eq_true', decide_eq_false_iff_not, not_true_eq_false, not_false_eq_true, decide_true, decide_false, Bool.false_eq_true, if_true, if_false, List.map_cons, List.map_nil, List.length_cons, List.length_nil, List.cons_append, List.nil_append, Nat.zero_add, beq_self_eq_true, Bool.not_true, Bool.not_false, Nat.reduceAdd, Nat.reduceSub, Int.reduceEq, Nat.reduceLeDiff, Dv.env0, List.replicate, Dv.c_seq, Dv.c_if, c1, p0 e1, len_cell e2, List.length_map]
    by_cases c2 : 0 < (gs.length : Int)
    rotate_left
    · simp only [Dv.wp_0, Dv.wp_1, Dv.wp_2, Dv.wp_3, Dv.wp_4, Dv.wp_5, true_and, and_true, and_self, Option.bind_some, List.set_cons_succ, List.set_cons_zero, List.getElem?_cons_zero, List.getElem?_cons_succ, decide_eq_true_eq, Bool.not_eq_true', decide_eq_false_iff_not, not_true_eq_false, not_false_eq_true, decide_true, decide_false, Bool.false_eq_true, if_true, if_false, List.map_cons, List.map_nil, List.length_cons, List.length_nil, List.cons_append, List.nil_append, Nat.zero_add, beq_self_eq_true, Bool.not_true, Bool.not_false, Nat.reduceAdd, Nat.reduceSub, Int.reduceEq, Nat.reduceLeDiff, Dv.env0, List.replicate, Dv.c_seq, Dv.c_if, c2]
      exact ⟨P, Stp.refl P.lt, _, _, _, rfl⟩
    cases gs with
    | nil => simp at c2
    | cons z gs =>
      have a0 : ixD (.cell g) (.int 0) μ = .ok (.int z) μ := ix_of e2 (by simp)
      have e4 := get_set (c' := .lst (pl g s z t)) e1
      have e5 := get_set' (c' := .lst (pl g s z t)) e2 (Ne.symm n1)
      have e6 := get_set' (c' := .lst (pl g s z t)) e3 (Ne.symm n2)
      have c2 : (0 : Int) < ((gs.length + 1 : Nat) : Int) := by omega
      simp only [Dv.wp_0, Dv.wp_1, Dv.wp_2, Dv.wp_3, Dv.wp_4, Dv.wp_5, true_and, and_true, and_self, Option.bind_some, List.set_cons_succ, List.set_cons_zero, List.getElem?_cons_zero, List.getElem?_cons_succ, decide_eq_true_eq, Bool.not_eq_true', decide_eq_false_iff_not, not_true_eq_false, not_false_eq_true, decide_true, decide_false, Bool.false_eq_true, if_true, if_false, List.map_cons, List.map_nil, List.length_cons, List.length_nil, List.cons_append, List.nil_append, Nat.zero_add, beq_self_eq_true, Bool.not_true, Bool.not_false, Nat.reduceAdd, Nat.reduceSub, Int.reduceEq, Nat.reduceLeDiff, Dv.env0, List.replicate, Dv.c_seq, Dv.c_if, c2, a0, s2 e1, p0 e1, p0 e4, sl_cell e5, cut1, s0 (app_at e4)]
      have lt := (List.getElem?_eq_some_iff.mp e4).1
      have lt2 := (List.getElem?_eq_some_iff.mp e2).1
      refine ⟨⟨_, s, z, t, gs, ss, get_set (app_at e4), get_set' (by simp) (by omega), get_set' (app_at e6) (Ne.symm n2), by omega, n2⟩, ⟨?_, fun L h o => ⟨o.1, fun g1 s1 c1 t1 e => ?_⟩, by simp, (List.getElem?_eq_some_iff.mp e1).1⟩, _, _, _, rfl⟩
      · refine Sbn.trans (μ1 := μ.set n (.lst (pl g s z t)) ++ [.lst (gs.map .int)]) Sbn.set.app Sbn.set
      rw [get_set (app_at e4)] at e
      injection e with e; injection e with e
      simp only [pl, List.cons.injEq, D.cell.injEq, D.int.injEq, and_true] at e
      obtain ⟨rfl, rfl, _⟩ := e
      have := (o.2 _ _ _ _ e1).2
      exact ⟨by simp; omega, this⟩
  · rintro _ μ1 ⟨P, sb, x1, x2, x3, rfl⟩
    obtain ⟨g, s, c, t, gs, ss, e1, e2, e3, n1, n2⟩ := P.ex
    (rw [Dv.c_seq]; simp only [Dv.wp_0, Dv.wp_1, Dv.wp_2, Dv.wp_3, Dv.wp_4, Dv.wp_5, true_and, and_true, and_self, Option.bind_some, List.set_cons_succ, List.set_cons_zero, List.getElem?_cons_zero, List.getElem?_cons_succ, decide_eq_true_eq, Bool.not_eq_true', decide_eq_false_iff_not, not_true_eq_false, not_false_eq_true, decide_true, decide_false, Bool.false_eq_true, if_true, if_false, List.map_cons, List.map_nil, List.length_cons, List.length_nil, List.cons_append, List.nil_append, Nat.zero_add, beq_self_eq_true, Bool.not_true, Bool.not_false, Nat.reduceAdd, Nat.reduceSub, Int.reduceEq, Nat.reduceLeDiff, Dv.env0, List.replicate, Dv.c_if, p2 e1])
    by_cases c1 : 1 < c
    · simp only [Dv.wp_0, Dv.wp_1, Dv.wp_2, Dv.wp_3, Dv.wp_4, Dv.wp_5, true_and, and_true, and_self, Option.bind_some, List.set_cons_succ, List.set_cons_zero, List.getElem?_cons_zero, List.getElem?_cons_succ, decide_eq_true_eq, Bool.not_eq_true', decide_eq_false_iff_not, not_true_eq_false, not_false_eq_true, decide_true, decide_false, Bool.false_eq_true, if_true, if_false, List.map_cons, List.map_nil, List.length_cons, List.length_nil, List.cons_append, List.nil_append, Nat.zero_add, beq_self_eq_true, Bool.not_true, Bool.not_false, Nat.reduceAdd, Nat.reduceSub, Int.reduceEq, Nat.reduceLeDiff, Dv.env0, List.replicate, Dv.c_seq, Dv.c_if, c1, p2 e1, modL (j := k) (by omega), fdivL (i := c) (j := k) ⟨by omega, by omega⟩, s2 e1]
      exact h _ _ (fmod_lt h0).1 (fmod_lt h0).2 ⟨g, s, _, t, gs, ss, get_set e1, get_set' e2 (Ne.symm n1), get_set' e3 (Ne.symm n2), n1, n2⟩ (sb.trans (stp_same e1))
    have e4 := get_set (c' := .lst (pl g s c (t + 1))) e1
    have e5 := get_set' (c' := .lst (pl g s c (t + 1))) e2 (Ne.symm n1)
    have e6 := get_set' (c' := .lst (pl g s c (t + 1))) e3 (Ne.symm n2)
    have P2 : Pool (μ1.set n (.lst (pl g s c (t + 1)))) n := ⟨g, s, c, t + 1, gs, ss, e4, e5, e6, n1, n2⟩
    have sb2 := sb.trans (stp_same (c' := c) (t' := t + 1) e1)
    simp only [c1, decide_false, c_ifS1f, c_next, seq_nx']
    (rw [Dv.c_seq]; simp only [Dv.wp_0, Dv.wp_1, Dv.wp_2, Dv.wp_3, Dv.wp_4, Dv.wp_5, true_and, and_true, and_self, Option.bind_some, List.set_cons_succ, List.set_cons_zero, List.getElem?_cons_zero, List.getElem?_cons_succ, decide_eq_true_eq, Bool.not_eq_true', decide_eq_false_iff_not, not_true_eq_false, not_false_eq_true, decide_true, decide_false, Bool.false_eq_true, if_true, if_false, List.map_cons, List.map_nil, List.length_cons, List.length_nil, List.cons_append, List.nil_append, Nat.zero_add, beq_self_eq_true, Bool.not_true, Bool.not_false, Nat.reduceAdd, Nat.reduceSub, Int.reduceEq, Nat.reduceLeDiff, Dv.env0, List.replicate, Dv.c_if, p3 e1, s3 e1])
    (rw [Dv.c_seq]; simp only [Dv.wp_0, Dv.wp_1, Dv.wp_2, Dv.wp_3, Dv.wp_4, Dv.wp_5, true_and, and_true, and_self, Option.bind_some, List.set_cons_succ, List.set_cons_zero, List.getElem?_cons_zero, List.getElem?_cons_succ, decide_eq_true_eq, Bool.not_eq_true', decide_eq_false_iff_not, not_true_eq_false, not_false_eq_true, decide_true, decide_false, Bool.false_eq_true, if_true, if_false, List.map_cons, List.map_nil, List.length_cons, List.length_nil, List.cons_append, List.nil_append, Nat.zero_add, beq_self_eq_true, Bool.not_true, Bool.not_false, Nat.reduceAdd, Nat.reduceSub, Int.reduceEq, Nat.reduceLeDiff, Dv.env0, List.replicate, Dv.c_if])
    generalize μ1.set n (.lst (pl g s c (t + 1))) = μ2 at *
    refine cut (fun e m => m = μ2 ∧ ∃ z, e = [some (.cell n), some (.int k), x1, some (.int z), x3]) ?_ ?_
    · simp only [Dv.wp_0, Dv.wp_1, Dv.wp_2, Dv.wp_3, Dv.wp_4, Dv.wp_5, true_and, and_true, and_self, Option.bind_some, List.set_cons_succ, List.set_cons_zero, List.getElem?_cons_zero, List.getElem?_cons_succ, decide_eq_true_eq, Bool.not_eq_true', decide_eq_false_iff_not, not_true_eq_false, not_false_eq_true, decide_true, decide_false, Bool.false_eq_true, if_true, if_false, List.map_cons, List.map_nil, List.length_cons, List.length_nil, List.cons_append, List.nil_append, Nat.zero_add, beq_self_eq_true, Bool.not_true, Bool.not_false, Nat.reduceAdd, Nat.reduceSub, Int.reduceEq, Nat.reduceLeDiff, Dv.env0, List.replicate, Dv.c_seq, Dv.c_if, p1 e4, len_cell e6, List.length_map]
      by_cases c2 : 0 < (ss.length : Int)
      · have fm := fmod_lt (x := t + 1) (m := (ss.length : Int)) c2
        obtain ⟨z, hz, az⟩ := at_intD (ns := ss) fm.1 fm.2
        simp only [Dv.wp_0, Dv.wp_1, Dv.wp_2, Dv.wp_3, Dv.wp_4, Dv.wp_5, true_and, and_true, and_self, Option.bind_some, List.set_cons_succ, List.set_cons_zero, List.getElem?_cons_zero, List.getElem?_cons_succ, decide_eq_true_eq, Bool.not_eq_true', decide_eq_false_iff_not, not_true_eq_false, not_false_eq_true, decide_true, decide_false, Bool.false_eq_true, if_true, if_false, List.map_cons, List.map_nil, List.length_cons, List.length_nil, List.cons_append, List.nil_append, Nat.zero_add, beq_self_eq_true, Bool.not_true, Bool.not_false, Nat.reduceAdd, Nat.reduceSub, Int.reduceEq, Nat.reduceLeDiff, Dv.env0, List.replicate, Dv.c_seq, Dv.c_if, c2, p1 e4, p3 e4, len_cell e6, List.length_map, modL (i := t + 1) (j := (ss.length : Int)) (by omega), ix_of e6 az]
        exact ⟨z, rfl⟩
      · simp only [Dv.wp_0, Dv.wp_1, Dv.wp_2, Dv.wp_3, Dv.wp_4, Dv.wp_5, true_and, and_true, and_self, Option.bind_some, List.set_cons_succ, List.set_cons_zero, List.getElem?_cons_zero, List.getElem?_cons_succ, decide_eq_true_eq, Bool.not_eq_true', decide_eq_false_iff_not, not_true_eq_false, not_false_eq_true, decide_true, decide_false, Bool.false_eq_true, if_true, if_false, List.map_cons, List.map_nil, List.length_cons, List.length_nil, List.cons_append, List.nil_append, Nat.zero_add, beq_self_eq_true, Bool.not_true, Bool.not_false, Nat.reduceAdd, Nat.reduceSub, Int.reduceEq, Nat.reduceLeDiff, Dv.env0, List.replicate, Dv.c_seq, Dv.c_if, c2]
        exact ⟨0, rfl⟩
    · rintro _ _ ⟨rfl, z, rfl⟩
      simp only [Dv.wp_0, Dv.wp_1, Dv.wp_2, Dv.wp_3, Dv.wp_4, Dv.wp_5, true_and, and_true, and_self, Option.bind_some, List.set_cons_succ, List.set_cons_zero, List.getElem?_cons_zero, List.getElem?_cons_succ, decide_eq_true_eq, Bool.not_eq_true', decide_eq_false_iff_not, not_true_eq_false, not_false_eq_true, decide_true, decide_false, Bool.false_eq_true, if_true, if_false, List.map_cons, List.map_nil, List.length_cons, List.length_nil, List.cons_append, List.nil_append, Nat.zero_add, beq_self_eq_true, Bool.not_true, Bool.not_false, Nat.reduceAdd, Nat.reduceSub, Int.reduceEq, Nat.reduceLeDiff, Dv.env0, List.replicate, Dv.c_seq, Dv.c_if, p3 e4, mulL (i := 7919) (.inl ⟨by decide, by decide⟩), mulL (i := z + 7919 * (t + 1) + 1) (j := 48271) (.inr ⟨by decide, by decide⟩), modL (j := 2147483647) (by decide)]
      generalize hs : ((z + 7919 * (t + 1) + 1) * 48271).fmod 2147483647 = s'
      have q1 := fmod_lt (x := (z + 7919 * (t + 1) + 1) * 48271) (m := 2147483647) (by decide)
      rw [hs] at q1
      simp only [Dv.wp_0, Dv.wp_1, Dv.wp_2, Dv.wp_3, Dv.wp_4, Dv.wp_5, true_and, and_true, and_self, Option.bind_some, List.set_cons_succ, List.set_cons_zero, List.getElem?_cons_zero, List.getElem?_cons_succ, decide_eq_true_eq, Bool.not_eq_true', decide_eq_false_iff_not, not_true_eq_false, not_false_eq_true, decide_true, decide_false, Bool.false_eq_true, if_true, if_false, List.map_cons, List.map_nil, List.length_cons, List.length_nil, List.cons_append, List.nil_append, Nat.zero_add, beq_self_eq_true, Bool.not_true, Bool.not_false, Nat.reduceAdd, Nat.reduceSub, Int.reduceEq, Nat.reduceLeDiff, Dv.env0, List.replicate, Dv.c_seq, Dv.c_if, fdivL (i := s') (j := 1009) ⟨by decide, by decide⟩, mulL (i := s') (j := s'.fdiv 1009 + 69621) (.inl ⟨by omega, by omega⟩), modL (j := 2147483647) (by decide)]
      generalize hx : (s' * (s'.fdiv 1009 + 69621)).fmod 2147483647 = x
      have q2 := fmod_lt (x := s' * (s'.fdiv 1009 + 69621)) (m := 2147483647) (by decide)
      rw [hx] at q2
      simp only [Dv.wp_0, Dv.wp_1, Dv.wp_2, Dv.wp_3, Dv.wp_4, Dv.wp_5, true_and, and_true, and_self, Option.bind_some, List.set_cons_succ, List.set_cons_zero, List.getElem?_cons_zero, List.getElem?_cons_succ, decide_eq_true_eq, Bool.not_eq_true', decide_eq_false_iff_not, not_true_eq_false, not_false_eq_true, decide_true, decide_false, Bool.false_eq_true, if_true, if_false, List.map_cons, List.map_nil, List.length_cons, List.length_nil, List.cons_append, List.nil_append, Nat.zero_add, beq_self_eq_true, Bool.not_true, Bool.not_false, Nat.reduceAdd, Nat.reduceSub, Int.reduceEq, Nat.reduceLeDiff, Dv.env0, List.replicate, Dv.c_seq, Dv.c_if, fdivL (i := x) (j := 2003) ⟨by decide, by decide⟩, mulL (i := x) (j := x.fdiv 2003 + 40692) (.inl ⟨by omega, by omega⟩), modL (j := 2147483399) (by decide), fdivL (j := 16) ⟨by decide, by decide⟩, modL (j := k) (by omega)]
      exact h _ _ (fmod_lt h0).1 (fmod_lt h0).2 P2 sb2
end Law

set_option maxRecDepth 100000
set_option maxHeartbeats 4000000
namespace Law
open PySem PySem.Spec PyProof.Rows L2 Dv
/-- grown by some cells -/
def Gr (μ μ' : Mem) : Prop := ∃ l, μ' = μ ++ l
theorem Gr.refl {μ : Mem} : Gr μ μ := ⟨[], by simp⟩
theorem Gr.trans {μ μ1 μ2 : Mem} (a : Gr μ μ1) (b : Gr μ1 μ2) : Gr μ μ2 := by
  obtain ⟨l, rfl⟩ := a; obtain ⟨k, rfl⟩ := b; exact ⟨l ++ k, by simp⟩
theorem Gr.app {μ μ1 l : Mem} (a : Gr μ μ1) : Gr μ (μ1 ++ l) := a.trans ⟨l, rfl⟩
theorem Gr.at {μ μ' : Mem} (a : Gr μ μ') {n : Nat} {c : C} (h : μ[n]? = some c) : μ'[n]? = some c := by
  obtain ⟨l, rfl⟩ := a; exact app_get h
theorem Gr.len {μ μ' : Mem} (a : Gr μ μ') : μ.length ≤ μ'.length := by
  obtain ⟨l, rfl⟩ := a; simp
theorem Gr.set {μ μ' : Mem} (a : Gr μ μ') {n : Nat} {c : C} (h : μ.length ≤ n) : Gr μ (μ'.set n c) := by
  obtain ⟨l, rfl⟩ := a; exact ⟨l.set (n - μ.length) c, by rw [List.set_append_right _ _ h]⟩
theorem Gr.gok {g : List (Nat × List D)} {μ μ' : Mem} (a : Gr μ μ') (h : gok g μ) : gok g μ' := by
  obtain ⟨l, rfl⟩ := a; exact h.app
theorem Gr.pool {μ μ' : Mem} (a : Gr μ μ') {n : Nat} (P : Pool μ n) : Pool μ' n := by
  obtain ⟨l, rfl⟩ := a; exact P.app
theorem Gr.stp {μ μ' : Mem} (a : Gr μ μ') {n : Nat} (h : n < μ.length) : Stp n μ μ' := by
  obtain ⟨l, rfl⟩ := a
  exact (Stp.refl h).app
theorem filt_ints {ns : List Int} (p : D → Bool) (φ : D → D) (f : Int → Int) (hφ : ∀ i, φ (.int i) = .int (f i)) : ∃ ks : List Int, ((ns.map D.int).filter p).map φ = ks.map .int := by
  refine ⟨(ns.filter fun i => p (.int i)).map f, ?_⟩
  rw [List.filter_map, List.map_map, List.map_map]
  exact List.map_congr_left fun i _ => hφ i
theorem new_at {μ l : Mem} {c : C} : (μ ++ c :: l)[μ.length]? = some c := by simp
theorem gr_new {μ μ1 : Mem} (h : Gr μ μ1) {l : Mem} : Gr μ (μ1 ++ l) := h.app
theorem pool {ns : List Int} {Q : D → Mem → Prop} {X : Exn → Mem → Prop} (hl : ns.length ≤ 63) (h : ∀ n μ, Pool μ n → Q (.cell n) μ) : (g__law_pool [.scr ns] []).wp Q X := by
  generalize ([] : Mem) = μ0
  have a0 : ∀ (i : Int) (m : Mem), dAbs [.int i] m = .ok (.int (if i < 0 then -i else i)) m := fun _ _ => rfl
  have hf : ∀ (env : Dv.Env) (m : Mem), env[0]? = some (some (D.scr ns)) → (iLstD (fSl slG (fVar 0) oNo (oAt (fCon (.int 63))))) env m = .ok ⟨ns.map .int, [(m.length, ns.map .int)]⟩ (m ++ [.lst (ns.map .int)]) := by
    intro env m he
    simp only [Dv.ev_0, Dv.ev_1, Dv.ev_2, Option.bind_some, List.set_cons_succ, List.set_cons_zero, List.getElem?_cons_zero, List.getElem?_cons_succ, decide_true, decide_false, Bool.false_eq_true, if_true, if_false, Dv.env0, List.map_cons, List.map_nil, List.length_cons, List.length_nil, List.replicate, List.cons_append, List.nil_append, Nat.zero_add, Nat.reduceAdd, Nat.reduceSub, beq_self_eq_true, Bool.not_true, Bool.not_false, Int.reduceEq, he]
    simp [slG, slL, seqOf, cutD63 hl]
  unfold g__law_pool b__law_pool
  refine body_wp ?_
  (rw [Dv.c_seq]; simp only [Dv.wp_0, Dv.wp_1, Dv.wp_2, Dv.wp_3, Dv.wp_4, Dv.wp_5, true_and, and_true, and_self, Option.bind_some, List.set_cons_succ, List.set_cons_zero, List.getElem?_cons_zero, List.getElem?_cons_succ, decide_eq_true_eq, Bool.not_eq_true', decide_eq_false_iff_not, not_true_eq_false, not_false_eq_true, decide_true, decide_false, Bool.false_eq_true, if_true, if_false, List.map_cons, List.map_nil, List.length_cons, List.length_nil, List.cons_append, List.nil_append, Nat.zero_add, beq_self_eq_true, Bool.not_true, Bool.not_false, Nat.reduceAdd, Nat.reduceSub, Int.reduceEq, Nat.reduceLeDiff, Dv.env0, List.replicate, Dv.c_if])
  refine lc_fgrow (fun x => match x with | .int i => decide ((10 : Int) ^ 18 ≤ (if i < 0 then -i else i)) | _ => false) (fun x => match x with | .int i => .int (if i < 0 then -i else i) | d => d) (hf _ _ rfl) (by rw [gok_one]; simp) (by rw [List.length_map]; exact Nat.le_of_lt (small64 (by omega))) ?_ ?_
  · intro x hx l
    obtain ⟨i, _, rfl⟩ := List.mem_map.mp hx
    simp only [Dv.wp_0, Dv.wp_1, Dv.wp_2, Dv.wp_3, Dv.wp_4, Dv.wp_5, true_and, and_true, and_self, Option.bind_some, List.set_cons_succ, List.set_cons_zero, List.getElem?_cons_zero, List.getElem?_cons_succ, decide_eq_true_eq, Bool.not_eq_true', decide_eq_false_iff_not, not_true_eq_false, not_false_eq_true, decide_true, decide_false, Bool.false_eq_true, if_true, if_false, List.map_cons, List.map_nil, List.length_cons, List.length_nil, List.cons_append, List.nil_append, Nat.zero_add, beq_self_eq_true, Bool.not_true, Bool.not_false, Nat.reduceAdd, Nat.reduceSub, Int.reduceEq, Nat.reduceLeDiff, Dv.env0, List.replicate, Dv.c_seq, Dv.c_if, a0, pow1018]
    exact fun _ => ⟨[], by simp⟩
  intro l
  obtain ⟨k1, e1⟩ := filt_ints (ns := ns) (fun x => match x with | .int i => decide ((10 : Int) ^ 18 ≤ (if i < 0 then -i else i)) | _ => false) (fun x => match x with | .int i => .int (if i < 0 then -i else i) | d => d) (fun i => if i < 0 then -i else i) (fun _ => rfl)
  rw [e1]
  have E1 : (μ0 ++ [C.lst (ns.map .int)] ++ .lst (k1.map .int) :: l)[(μ0 ++ [C.lst (ns.map .int)]).length]? = some (.lst (k1.map .int)) := new_at
  generalize (μ0 ++ [C.lst (ns.map .int)] ++ .lst (k1.map .int) :: l) = μ1 at *
  generalize (μ0 ++ [C.lst (ns.map .int)]).length = n1 at *
  simp only [Dv.wp_0, Dv.wp_1, Dv.wp_2, Dv.wp_3, Dv.wp_4, Dv.wp_5, true_and, and_true, and_self, Option.bind_some, List.set_cons_succ, List.set_cons_zero, List.getElem?_cons_zero, List.getElem?_cons_succ, decide_eq_true_eq, Bool.not_eq_true', decide_eq_false_iff_not, not_true_eq_false, not_false_eq_true, decide_true, decide_false, Bool.false_eq_true, if_true, if_false, List.map_cons, List.map_nil, List.length_cons, List.length_nil, List.cons_append, List.nil_append, Nat.zero_add, beq_self_eq_true, Bool.not_true, Bool.not_false, Nat.reduceAdd, Nat.reduceSub, Int.reduceEq, Nat.reduceLeDiff, Dv.env0, List.replicate, Dv.c_seq, Dv.c_if]
  refine lc_fgrow (fun x => match x with | .int i => decide ((if i < 0 then -i else i) < (10 : Int) ^ 18) | _ => false) (fun x => match x with | .int i => .int (i.fmod 1000003) | d => d) (hf _ _ rfl) (by rw [gok_one]; simp) (by rw [List.length_map]; exact Nat.le_of_lt (small64 (by omega))) ?_ ?_
  · intro x hx l
    obtain ⟨i, _, rfl⟩ := List.mem_map.mp hx
    simp only [Dv.wp_0, Dv.wp_1, Dv.wp_2, Dv.wp_3, Dv.wp_4, Dv.wp_5, true_and, and_true, and_self, Option.bind_some, List.set_cons_succ, List.set_cons_zero, List.getElem?_cons_zero, List.getElem?_cons_succ, decide_eq_true_eq, Bool.not_eq_true', decide_eq_false_iff_not, not_true_eq_false, not_false_eq_true, decide_true, decide_false, Bool.false_eq_true, if_true, if_false, List.map_cons, List.map_nil, List.length_cons, List.length_nil, List.cons_append, List.nil_append, Nat.zero_add, beq_self_eq_true, Bool.not_true, Bool.not_false, Nat.reduceAdd, Nat.reduceSub, Int.reduceEq, Nat.reduceLeDiff, Dv.env0, List.replicate, Dv.c_seq, Dv.c_if, a0, pow1018, modL (j := 1000003) (by decide)]
    exact fun _ => ⟨[], by simp⟩
  intro l2
  obtain ⟨k2, e2⟩ := filt_ints (ns := ns) (fun x => match x with | .int i => decide ((if i < 0 then -i else i) < (10 : Int) ^ 18) | _ => false) (fun x => match x with | .int i => .int (i.fmod 1000003) | d => d) (fun i => i.fmod 1000003) (fun _ => rfl)
  rw [e2]
  have E2 : (μ1 ++ [C.lst (ns.map .int)] ++ .lst (k2.map .int) :: l2)[(μ1 ++ [C.lst (ns.map .int)]).length]? = some (.lst (k2.map .int)) := new_at
  have E3 : (μ1 ++ [C.lst (ns.map .int)] ++ .lst (k2.map .int) :: l2)[n1]? = some (.lst (k1.map .int)) := by rw [List.append_assoc]; exact app_at E1
  generalize (μ1 ++ [C.lst (ns.map .int)] ++ .lst (k2.map .int) :: l2) = μ2 at *
  generalize (μ1 ++ [C.lst (ns.map .int)]).length = n2 at *
  simp only [Dv.wp_0, Dv.wp_1, Dv.wp_2, Dv.wp_3, Dv.wp_4, Dv.wp_5, true_and, and_true, and_self, Option.bind_some, List.set_cons_succ, List.set_cons_zero, List.getElem?_cons_zero, List.getElem?_cons_succ, decide_eq_true_eq, Bool.not_eq_true', decide_eq_false_iff_not, not_true_eq_false, not_false_eq_true, decide_true, decide_false, Bool.false_eq_true, if_true, if_false, List.map_cons, List.map_nil, List.length_cons, List.length_nil, List.cons_append, List.nil_append, Nat.zero_add, beq_self_eq_true, Bool.not_true, Bool.not_false, Nat.reduceAdd, Nat.reduceSub, Int.reduceEq, Nat.reduceLeDiff, Dv.env0, List.replicate, Dv.c_seq, Dv.c_if]
  have l1 := (List.getElem?_eq_some_iff.mp E2).1
  have l2 := (List.getElem?_eq_some_iff.mp E3).1
  exact h _ _ ⟨n1, n2, 0, 0, k1, k2, new_at, app_at E3, app_at E2, by omega, by omega⟩
end Law

set_option maxRecDepth 100000
set_option maxHeartbeats 4000000
namespace Law
open PySem PySem.Spec PyProof.Rows L2 Dv
/-- signs by numbers: 0 for none -/
def sgnD : Nat → D
  | 0 => .str "-"
  | 1 => .str "a"
  | _ => .str "b"
def colsN (letters : Nat) : Nat → List (List Nat)
  | 0 => [[]]
  | r + 1 => (colsN letters r).flatMap fun c => (List.range (letters + 1)).map fun s => c ++ [s]
theorem colsN_len {letters : Nat} : ∀ r, (colsN letters r).length = (letters + 1) ^ r
  | 0 => rfl
  | r + 1 => by
    rw [colsN, List.length_flatMap]
    simp only [List.length_map, List.length_range, List.map_const', List.sum_replicate_nat, colsN_len r, Nat.pow_succ]
theorem colsN_mem {letters : Nat} : ∀ r, ∀ c ∈ colsN letters r, c.length = r ∧ ∀ s ∈ c, s ≤ letters
  | 0, c, h => by simp [colsN] at h; subst h; simp
  | r + 1, c, h => by
    rw [colsN, List.mem_flatMap] at h
    obtain ⟨c', h1, h2⟩ := h
    obtain ⟨s, hs, rfl⟩ := List.mem_map.mp h2
    obtain ⟨q1, q2⟩ := colsN_mem r c' h1
    refine ⟨by simp [q1], fun x hx => ?_⟩
    rcases List.mem_append.mp hx with hx | hx
    · exact q2 x hx
    · rw [List.mem_singleton] at hx; subst hx; have := List.mem_range.mp hs; omega
def colD (c : List Nat) : D := .tup (c.map sgnD)
theorem small_cols {letters r : Nat} (h1 : letters ≤ 2) (h2 : r ≤ 4) : (colsN letters r).length ≤ 81 := by
  rw [colsN_len]
  calc (letters + 1) ^ r ≤ 3 ^ r := Nat.pow_le_pow_left (by omega) r
    _ ≤ 3 ^ 4 := Nat.pow_le_pow_right (by omega) h2
theorem rngD_nat (n : Nat) : rngD 0 n = (List.range n).map fun i : Nat => D.int (i : Int) := by
  unfold rngD; refine List.map_congr_left fun i _ => ?_; simp
theorem extend_ok {μ : Mem} {n m : Nat} {xs ys : List D} (h : μ[n]? = some (.lst xs)) (h2 : μ[m]? = some (.lst ys)) (ne : n ≠ m) (hl : xs.length + ys.length ≤ 1000000) : mExtend (.cell n) [.cell m] μ = .ok .non (μ.set n (.lst (xs ++ ys))) := by
  unfold mExtend
  have e : lstOf μ (.cell m) = some ys := by simp [lstOf, h2]
  simp only [onLst, h, e]
  rw [if_pos (by rw [sizeLine_eq]; omega)]
theorem ab_items {letters : Nat} (l1 : 1 ≤ letters) (l2 : letters ≤ 2) (m : Mem) : ∃ z, slG (.str "-ab") none (some ((letters : Int) + 1)) m = .ok (.str z) m ∧ (z.cps.toList.map fun c => D.str ⟨#[c]⟩) = (List.range (letters + 1)).map sgnD := by
  rcases (by omega : letters = 1 ∨ letters = 2) with rfl | rfl
  · exact ⟨"-a", by rfl, by rfl⟩
  · exact ⟨"-ab", by rfl, by rfl⟩
theorem columns {μ : Mem} {rows letters : Nat} {Q : D → Mem → Prop} {X : Exn → Mem → Prop} (hr : rows ≤ 4) (l1 : 1 ≤ letters) (l2 : letters ≤ 2) (h : ∀ n μ', Gr μ μ' → μ.length ≤ n → μ'[n]? = some (.lst ((colsN letters rows).map colD)) → Q (.cell n) μ') : (g__law_columns [.int rows, .int letters] μ).wp Q X := by
  unfold g__law_columns b__law_columns
  refine body_wp ?_
  (rw [Dv.c_seq]; simp only [Dv.wp_0, Dv.wp_1, Dv.wp_2, Dv.wp_3, Dv.wp_4, Dv.wp_5, true_and, and_true, and_self, Option.bind_some, List.set_cons_succ, List.set_cons_zero, List.getElem?_cons_zero, List.getElem?_cons_succ, decide_eq_true_eq, Bool.not_eq_true', decide_eq_false_iff_not, not_true_eq_false, not_false_eq_true, decide_true, decide_false, Bool.false_eq_true, if_true, if_false, List.map_cons, List.map_nil, List.length_cons, List.length_nil, List.cons_append, List.nil_append, Nat.zero_add, beq_self_eq_true, Bool.not_true, Bool.not_false, Nat.reduceAdd, Nat.reduceSub, Int.reduceEq, Nat.reduceLeDiff, Dv.env0, List.replicate, Dv.c_if])
  refine cut (fun e m => ∃ n a b c d, e = [some (.int rows), some (.int letters), some (.cell n), a, b, c, d] ∧ Gr μ m ∧ μ.length ≤ n ∧ m[n]? = some (.lst ((colsN letters rows).map colD))) ?_ ?_
  · simp only [Dv.wp_0, Dv.wp_1, Dv.wp_2, Dv.wp_3, Dv.wp_4, Dv.wp_5, true_and, and_true, and_self, Option.bind_some, List.set_cons_succ, List.set_cons_zero, List.getElem?_cons_zero, List.getElem?_cons_succ, decide_eq_true_eq, Bool.not_eq_true', decide_eq_false_iff_not, not_true_eq_false, not_false_eq_true, decide_true, decide_false, Bool.false_eq_true, if_true, if_false, List.map_cons, List.map_nil, List.length_cons, List.length_nil, List.cons_append, List.nil_append, Nat.zero_add, beq_self_eq_true, Bool.not_true, Bool.not_false, Nat.reduceAdd, Nat.reduceSub, Int.reduceEq, Nat.reduceLeDiff, Dv.env0, List.replicate, Dv.c_seq, Dv.c_if, c_iRng11 (j := (rows : Int)) (by omega) (by omega), Int.toNat_natCast]
    refine for_wp (fun i e m => ∃ n a b c d, e = [some (.int rows), some (.int letters), some (.cell n), a, b, c, d] ∧ Gr μ m ∧ μ.length ≤ n ∧ m[n]? = some (.lst ((colsN letters i).map colD))) (fun _ _ _ _ => gok_nil) ?_ ?_ ?_
    · exact ⟨μ.length, none, none, none, none, rfl, Gr.refl.app, by omega, by simp [colsN, colD]⟩
    · rintro i x _ m hx ⟨n, a, b, c, d, rfl, hg, hn, hm⟩
      simp only [Dv.wp_0, Dv.wp_1, Dv.wp_2, Dv.wp_3, Dv.wp_4, Dv.wp_5, true_and, and_true, and_self, Option.bind_some, List.set_cons_succ, List.set_cons_zero, List.getElem?_cons_zero, List.getElem?_cons_succ, decide_eq_true_eq, Bool.not_eq_true', decide_eq_false_iff_not, not_true_eq_false, not_false_eq_true, decide_true, decide_false, Bool.false_eq_true, if_true, if_false, List.map_cons, List.map_nil, List.length_cons, List.length_nil, List.cons_append, List.nil_append, Nat.zero_add, beq_self_eq_true, Bool.not_true, Bool.not_false, Nat.reduceAdd, Nat.reduceSub, Int.reduceEq, Nat.reduceLeDiff, Dv.env0, List.replicate, Dv.c_seq, Dv.c_if, c_iLst1 (app_get hm)]
      refine for_wp (fun j e m' => ∃ x1 x2, e = [some (.int rows), some (.int letters), some (.cell n), some x, some (.cell m.length), x1, x2] ∧ Gr m m' ∧ m'[m.length]? = some (.lst ((((colsN letters i).take j).flatMap fun c => (List.range (letters + 1)).map fun s => c ++ [s]).map colD))) ?_ ?_ ?_ ?_
      · rintro j _ m' ⟨x1, x2, rfl, g1, _⟩
        rw [gok_one]; exact g1.at hm
      · exact ⟨c, d, rfl, Gr.refl.app, by simp⟩
      · rintro j y _ m' hy ⟨x1, x2, rfl, g1, hl⟩
        obtain ⟨z, hz1, hz2⟩ := ab_items l1 l2 m'
        rw [List.getElem?_map] at hy
        obtain ⟨c, hc, rfl⟩ := Option.map_eq_some_iff.mp hy
        obtain ⟨c1, c2⟩ := colsN_mem _ c (List.mem_of_getElem? hc)
        have hi := (List.getElem?_eq_some_iff.mp hx).1
        rw [len_rng] at hi
        have hlt := (List.getElem?_eq_some_iff.mp hl).1
        have hb := small_cols (r := i) l2 (by omega)
        have hj := (List.getElem?_eq_some_iff.mp hc).1
        simp only [Dv.wp_0, Dv.wp_1, Dv.wp_2, Dv.wp_3, Dv.wp_4, Dv.wp_5, true_and, and_true, and_self, Option.bind_some, List.set_cons_succ, List.set_cons_zero, List.getElem?_cons_zero, List.getElem?_cons_succ, decide_eq_true_eq, Bool.not_eq_true', decide_eq_false_iff_not, not_true_eq_false, not_false_eq_true, decide_true, decide_false, Bool.false_eq_true, if_true, if_false, List.map_cons, List.map_nil, List.length_cons, List.length_nil, List.cons_append, List.nil_append, Nat.zero_add, beq_self_eq_true, Bool.not_true, Bool.not_false, Nat.reduceAdd, Nat.reduceSub, Int.reduceEq, Nat.reduceLeDiff, Dv.env0, List.replicate, Dv.c_seq, Dv.c_if, tyM, hl]
        refine lc_grow (φ := fun d => .tup (c.map sgnD ++ [d])) (it := ⟨z.cps.toList.map fun c => .str ⟨#[c]⟩, []⟩) (μ1 := m') (by simp only [Dv.ev_0, Dv.ev_1, Dv.ev_2, Option.bind_some, List.set_cons_succ, List.set_cons_zero, List.getElem?_cons_zero, List.getElem?_cons_succ, decide_true, decide_false, Bool.false_eq_true, if_true, if_false, Dv.env0, List.map_cons, List.map_nil, List.length_cons, List.length_nil, List.replicate, List.cons_append, List.nil_append, Nat.zero_add, Nat.reduceAdd, Nat.reduceSub, beq_self_eq_true, Bool.not_true, Bool.not_false, Int.reduceEq, hz1]) gok_nil (by rw [hz2]; simp; omega) ?_ ?_
        · intro d hd l
          simp only [Dv.wp_0, Dv.wp_1, Dv.wp_2, Dv.wp_3, Dv.wp_4, Dv.wp_5, true_and, and_true, and_self, Option.bind_some, List.set_cons_succ, List.set_cons_zero, List.getElem?_cons_zero, List.getElem?_cons_succ, decide_eq_true_eq, Bool.not_eq_true', decide_eq_false_iff_not, not_true_eq_false, not_false_eq_true, decide_true, decide_false, Bool.false_eq_true, if_true, if_false, List.map_cons, List.map_nil, List.length_cons, List.length_nil, List.cons_append, List.nil_append, Nat.zero_add, beq_self_eq_true, Bool.not_true, Bool.not_false, Nat.reduceAdd, Nat.reduceSub, Int.reduceEq, Nat.reduceLeDiff, Dv.env0, List.replicate, Dv.c_seq, Dv.c_if, colD, dAddG_tt, List.length_map, c1, show i + 1 ≤ 16777216 by omega, show (1 : Nat) ≤ 16777216 by omega]
          exact ⟨[], by simp⟩
        · intro l
          have L : ((((colsN letters i).take j).flatMap fun c => (List.range (letters + 1)).map fun s => c ++ [s]).map colD).length ≤ 81 * 3 := by
            rw [List.length_map, List.length_flatMap]
            simp only [List.length_map, List.length_range, List.map_const', List.sum_replicate_nat, List.length_take]
            exact Nat.mul_le_mul (by omega) (by omega)
          have LZ : ((z.cps.toList.map fun c => D.str ⟨#[c]⟩).map fun d => D.tup (c.map sgnD ++ [d])) = ((List.range (letters + 1)).map fun s => c ++ [s]).map colD := by
            rw [hz2]; simp [colD]
          have LZ2 : (((List.range (letters + 1)).map fun s => c ++ [s]).map colD).length ≤ 3 := by simp; omega
          simp only [LZ]
          have e := extend_ok (app_get hl (l := .lst (((List.range (letters + 1)).map fun s => c ++ [s]).map colD) :: l)) (new_at (μ := m') (l := l)) (by omega) (by omega)
          simp only [Dv.wp_0, Dv.wp_1, Dv.wp_2, Dv.wp_3, Dv.wp_4, Dv.wp_5, true_and, and_true, and_self, Option.bind_some, List.set_cons_succ, List.set_cons_zero, List.getElem?_cons_zero, List.getElem?_cons_succ, decide_eq_true_eq, Bool.not_eq_true', decide_eq_false_iff_not, not_true_eq_false, not_false_eq_true, decide_true, decide_false, Bool.false_eq_true, if_true, if_false, List.map_cons, List.map_nil, List.length_cons, List.length_nil, List.cons_append, List.nil_append, Nat.zero_add, beq_self_eq_true, Bool.not_true, Bool.not_false, Nat.reduceAdd, Nat.reduceSub, Int.reduceEq, Nat.reduceLeDiff, Dv.env0, List.replicate, Dv.c_seq, Dv.c_if, e]
          refine ⟨some (colD c), _, rfl, (g1.app).set (by omega), ?_⟩
          rw [get_set (app_get hl), List.take_add_one, hc]
          simp
      · rintro _ m' ⟨x1, x2, rfl, g1, hl⟩
        simp only [Dv.wp_0, Dv.wp_1, Dv.wp_2, Dv.wp_3, Dv.wp_4, Dv.wp_5, true_and, and_true, and_self, Option.bind_some, List.set_cons_succ, List.set_cons_zero, List.getElem?_cons_zero, List.getElem?_cons_succ, decide_eq_true_eq, Bool.not_eq_true', decide_eq_false_iff_not, not_true_eq_false, not_false_eq_true, decide_true, decide_false, Bool.false_eq_true, if_true, if_false, List.map_cons, List.map_nil, List.length_cons, List.length_nil, List.cons_append, List.nil_append, Nat.zero_add, beq_self_eq_true, Bool.not_true, Bool.not_false, Nat.reduceAdd, Nat.reduceSub, Int.reduceEq, Nat.reduceLeDiff, Dv.env0, List.replicate, Dv.c_seq, Dv.c_if]
        refine ⟨m.length, some x, some (.cell m.length), x1, x2, rfl, hg.trans g1, hg.len, ?_⟩
        rw [hl, List.length_map, List.take_of_length_le (Nat.le_refl _)]; rfl
    · rintro _ m ⟨n, a, b, c, d, rfl, hg, hn, hm⟩
      rw [len_rng] at hm
      exact ⟨n, a, b, c, d, rfl, hg, hn, hm⟩
  · rintro _ m ⟨n, a, b, c, d, rfl, hg, hn, hm⟩
    simp only [Dv.wp_0, Dv.wp_1, Dv.wp_2, Dv.wp_3, Dv.wp_4, Dv.wp_5, true_and, and_true, and_self, Option.bind_some, List.set_cons_succ, List.set_cons_zero, List.getElem?_cons_zero, List.getElem?_cons_succ, decide_eq_true_eq, Bool.not_eq_true', decide_eq_false_iff_not, not_true_eq_false, not_false_eq_true, decide_true, decide_false, Bool.false_eq_true, if_true, if_false, List.map_cons, List.map_nil, List.length_cons, List.length_nil, List.cons_append, List.nil_append, Nat.zero_add, beq_self_eq_true, Bool.not_true, Bool.not_false, Nat.reduceAdd, Nat.reduceSub, Int.reduceEq, Nat.reduceLeDiff, Dv.env0, List.replicate, Dv.c_seq, Dv.c_if]
    exact h n m hg hn hm
end Law

set_option maxRecDepth 100000
set_option maxHeartbeats 4000000
namespace Law
open PySem PySem.Spec PyProof.Rows L2 Dv
/-- a standing of a question -/
def rowD (p : Bool × List Nat) : D := .tup [.bl p.1, .tup (p.2.map fun i : Nat => D.int (i : Int))]
/-- standings of a table of so many -/
def Rows (wide many : Nat) (T : List (Bool × List Nat)) : Prop := ∀ p ∈ T, p.2.length = wide ∧ ∀ i ∈ p.2, i < many
structure IsTab (wide : Nat) (T : List (Bool × List Nat)) : Prop where
  l1 : 1 ≤ T.length
  l8 : T.length ≤ 8
  rows : Rows wide T.length T
theorem Rows.snoc {wide many : Nat} {T : List (Bool × List Nat)} (h : Rows wide many T) {b : Bool} {ns : List Nat} (hl : ns.length = wide) (hb : ∀ i ∈ ns, i < many) : Rows wide many (T ++ [(b, ns)]) := fun p hp => by
  rcases List.mem_append.mp hp with hp | hp
  · exact h p hp
  · rw [List.mem_singleton] at hp; subst hp; exact ⟨hl, hb⟩
theorem tupOf_cell {μ : Mem} {n : Nat} {xs : List D} (h : μ[n]? = some (.lst xs)) : dTupOf [.cell n] μ = .ok (.tup xs) μ := by simp [dTupOf, seqOf, h]
theorem tyL {μ : Mem} {n : Nat} {xs : List D} (h : μ[n]? = some (.lst xs)) : tyM "list" μ (.cell n) = true := by simp [tyM, h]
def natD (i : Nat) : D := .int (i : Int)

theorem small_pow {letters r : Nat} (h1 : letters ≤ 2) (h2 : r ≤ 4) : (letters + 1) ^ r ≤ 81 := by rw [← colsN_len]; exact small_cols h1 h2
theorem rows_map {many : Nat} {ns : List Nat} : (ns.map fun i : Nat => D.int (i : Int)) = ns.map natD := rfl
section
variable {p : Nat} {Q : D → Mem → Prop} {X : Exn → Mem → Prop}
/-- what a law's def of a table gives -/
def TabPost (p : Nat) (μ : Mem) (wide : Nat) (d : D) (μ' : Mem) : Prop := ∃ n T, d = .cell n ∧ IsTab wide T ∧ Pool μ' p ∧ Stp p μ μ' ∧ μ'[n]? = some (.lst (T.map rowD))
theorem drawn_table {μ : Mem} {rows letters many : Nat} {plain : Bool} (P : Pool μ p) (hr : rows ≤ 4) (l1 : 1 ≤ letters) (l2 : letters ≤ 2) (m1 : 1 ≤ many) (m4 : many ≤ 8) :
    (g__law_drawn_table [.cell p, .int rows, .int letters, .int many, .bl plain] μ).wp (TabPost p μ ((letters + 1) ^ rows - 1)) noX := by
  have hsm := small_pow (letters := letters) l2 hr
  have hpos : 1 ≤ (letters + 1) ^ rows := Nat.one_le_pow _ _ (by omega)
  unfold g__law_drawn_table b__law_drawn_table
  refine body_wp ?_
  (rw [Dv.c_seq]; simp only [Dv.wp_0, Dv.wp_1, Dv.wp_2, Dv.wp_3, Dv.wp_4, Dv.wp_5, true_and, and_true, and_self, Option.bind_some, List.set_cons_succ, List.set_cons_zero, List.getElem?_cons_zero, List.getElem?_cons_succ, decide_eq_true_eq, Bool.not_eq_true', decide_eq_false_iff_not, not_true_eq_false, not_false_eq_true, decide_true, decide_false, Bool.false_eq_true, if_true, if_false, List.map_cons, List.map_nil, List.length_cons, List.length_nil, List.cons_append, List.nil_append, Nat.zero_add, beq_self_eq_true, Bool.not_true, Bool.not_false, Nat.reduceAdd, Nat.reduceSub, Int.reduceEq, Nat.reduceLeDiff, Dv.env0, List.replicate, Dv.c_if])
  refine columns hr l1 l2 fun n μ1 g1 hn h1 => ?_
  have P1 := g1.pool P
  simp only [Dv.wp_0, Dv.wp_1, Dv.wp_2, Dv.wp_3, Dv.wp_4, Dv.wp_5, true_and, and_true, and_self, Option.bind_some, List.set_cons_succ, List.set_cons_zero, List.getElem?_cons_zero, List.getElem?_cons_succ, decide_eq_true_eq, Bool.not_eq_true', decide_eq_false_iff_not, not_true_eq_false, not_false_eq_true, decide_true, decide_false, Bool.false_eq_true, if_true, if_false, List.map_cons, List.map_nil, List.length_cons, List.length_nil, List.cons_append, List.nil_append, Nat.zero_add, beq_self_eq_true, Bool.not_true, Bool.not_false, Nat.reduceAdd, Nat.reduceSub, Int.reduceEq, Nat.reduceLeDiff, Dv.env0, List.replicate, Dv.c_seq, Dv.c_if, len_cell h1, List.length_map, colsN_len]
  generalize hw : (letters + 1) ^ rows - 1 = wide
  have hw2 : (((letters + 1) ^ rows : Nat) : Int) - 1 = (wide : Int) := by omega
  rw [hw2]
  simp only [Dv.wp_0, Dv.wp_1, Dv.wp_2, Dv.wp_3, Dv.wp_4, Dv.wp_5, true_and, and_true, and_self, Option.bind_some, List.set_cons_succ, List.set_cons_zero, List.getElem?_cons_zero, List.getElem?_cons_succ, decide_eq_true_eq, Bool.not_eq_true', decide_eq_false_iff_not, not_true_eq_false, not_false_eq_true, decide_true, decide_false, Bool.false_eq_true, if_true, if_false, List.map_cons, List.map_nil, List.length_cons, List.length_nil, List.cons_append, List.nil_append, Nat.zero_add, beq_self_eq_true, Bool.not_true, Bool.not_false, Nat.reduceAdd, Nat.reduceSub, Int.reduceEq, Nat.reduceLeDiff, Dv.env0, List.replicate, Dv.c_seq, Dv.c_if, c_iRng11 (j := (many : Int)) (by omega) (by omega), Int.toNat_natCast]
  have S1 : Stp p μ (μ1 ++ [C.lst []]) := (g1.stp P.lt).app
  refine for_wp (fun i e m => ∃ (T : List (Bool × List Nat)) (x1 x2 x3 x4 x5 : Option D), e = [some (.cell p), some (.int rows), some (.int letters), some (.int many), some (.bl plain), some (.int wide), some (.cell μ1.length), x1, x2, x3, x4, x5] ∧ Pool m p ∧ Stp p μ m ∧ Off m p μ1.length ∧ T.length = i ∧ Rows wide many T ∧ m[μ1.length]? = some (.lst (T.map rowD))) (fun _ _ _ _ => gok_nil) ?_ ?_ ?_
  · exact ⟨[], none, none, none, none, none, rfl, P1.app, S1, (P1.off (Nat.le_refl _)).app P1.lt, rfl, (fun _ h => nomatch h), by simp⟩
  · rintro i x _ m hx ⟨T, x1, x2, x3, x4, x5, rfl, P2, S2, O2, hT, R2, hm⟩
    have hi := (List.getElem?_eq_some_iff.mp hx).1
    rw [len_rng] at hi
    simp only [Dv.wp_0, Dv.wp_1, Dv.wp_2, Dv.wp_3, Dv.wp_4, Dv.wp_5, true_and, and_true, and_self, Option.bind_some, List.set_cons_succ, List.set_cons_zero, List.getElem?_cons_zero, List.getElem?_cons_succ, decide_eq_true_eq, Bool.not_eq_true', decide_eq_false_iff_not, not_true_eq_false, not_false_eq_true, decide_true, decide_false, Bool.false_eq_true, if_true, if_false, List.map_cons, List.map_nil, List.length_cons, List.length_nil, List.cons_append, List.nil_append, Nat.zero_add, beq_self_eq_true, Bool.not_true, Bool.not_false, Nat.reduceAdd, Nat.reduceSub, Int.reduceEq, Nat.reduceLeDiff, Dv.env0, List.replicate, Dv.c_seq, Dv.c_if]
    refine draw P2 (by omega) (by omega) fun r m2 r0 r1 P3 S3 => ?_
    have O3 := S3.off hm O2
    have hm3 := S3.at hm O2
    simp only [Dv.wp_0, Dv.wp_1, Dv.wp_2, Dv.wp_3, Dv.wp_4, Dv.wp_5, true_and, and_true, and_self, Option.bind_some, List.set_cons_succ, List.set_cons_zero, List.getElem?_cons_zero, List.getElem?_cons_succ, decide_eq_true_eq, Bool.not_eq_true', decide_eq_false_iff_not, not_true_eq_false, not_false_eq_true, decide_true, decide_false, Bool.false_eq_true, if_true, if_false, List.map_cons, List.map_nil, List.length_cons, List.length_nil, List.cons_append, List.nil_append, Nat.zero_add, beq_self_eq_true, Bool.not_true, Bool.not_false, Nat.reduceAdd, Nat.reduceSub, Int.reduceEq, Nat.reduceLeDiff, Dv.env0, List.replicate, Dv.c_seq, Dv.c_if, c_iRng11 (j := (wide : Int)) (by omega) (by omega), Int.toNat_natCast]
    refine for_wp (fun j e m' => ∃ (ns : List Nat) (y1 y2 : Option D), e = [some (.cell p), some (.int rows), some (.int letters), some (.int many), some (.bl plain), some (.int wide), some (.cell μ1.length), some x, some (.int r), some (.cell m2.length), y1, y2] ∧ Pool m' p ∧ Stp p m2 m' ∧ Off m' p m2.length ∧ ns.length = j ∧ (∀ i ∈ ns, i < many) ∧ m'[m2.length]? = some (.lst (ns.map natD))) (fun _ _ _ _ => gok_nil) ?_ ?_ ?_
    · exact ⟨[], x4, x5, rfl, P3.app, (Stp.refl P3.lt).app, (P3.off (Nat.le_refl _)).app P3.lt, rfl, (fun _ h => nomatch h), by simp⟩
    · rintro j y _ m' hy ⟨ns, y1, y2, rfl, P4, S4, O4, hns, hb, hm4⟩
      have hj := (List.getElem?_eq_some_iff.mp hy).1
      rw [len_rng] at hj
      simp only [Dv.wp_0, Dv.wp_1, Dv.wp_2, Dv.wp_3, Dv.wp_4, Dv.wp_5, true_and, and_true, and_self, Option.bind_some, List.set_cons_succ, List.set_cons_zero, List.getElem?_cons_zero, List.getElem?_cons_succ, decide_eq_true_eq, Bool.not_eq_true', decide_eq_false_iff_not, not_true_eq_false, not_false_eq_true, decide_true, decide_false, Bool.false_eq_true, if_true, if_false, List.map_cons, List.map_nil, List.length_cons, List.length_nil, List.cons_append, List.nil_append, Nat.zero_add, beq_self_eq_true, Bool.not_true, Bool.not_false, Nat.reduceAdd, Nat.reduceSub, Int.reduceEq, Nat.reduceLeDiff, Dv.env0, List.replicate, Dv.c_seq, Dv.c_if]
      refine draw P4 (by omega) (by omega) fun r2 m5 q0 q1 P5 S5 => ?_
      have O5 := S5.off hm4 O4
      have hm5 := S5.at hm4 O4
      simp only [Dv.wp_0, Dv.wp_1, Dv.wp_2, Dv.wp_3, Dv.wp_4, Dv.wp_5, true_and, and_true, and_self, Option.bind_some, List.set_cons_succ, List.set_cons_zero, List.getElem?_cons_zero, List.getElem?_cons_succ, decide_eq_true_eq, Bool.not_eq_true', decide_eq_false_iff_not, not_true_eq_false, not_false_eq_true, decide_true, decide_false, Bool.false_eq_true, if_true, if_false, List.map_cons, List.map_nil, List.length_cons, List.length_nil, List.cons_append, List.nil_append, Nat.zero_add, beq_self_eq_true, Bool.not_true, Bool.not_false, Nat.reduceAdd, Nat.reduceSub, Int.reduceEq, Nat.reduceLeDiff, Dv.env0, List.replicate, Dv.c_seq, tyL hm5]
      obtain ⟨rn, rfl⟩ := Int.eq_ofNat_of_zero_le r0
      obtain ⟨qn, rfl⟩ := Int.eq_ofNat_of_zero_le q0
      refine R.wp.imp0 (Q := fun d m6 => ∃ v : Nat, d = natD v ∧ v < many ∧ Pool m6 p ∧ Stp p m5 m6) ?_ ?_
      · cases plain with
        | false =>
          simp only [Dv.wp_0, Dv.wp_1, Dv.wp_2, Dv.wp_3, Dv.wp_4, Dv.wp_5, true_and, and_true, and_self, Option.bind_some, List.set_cons_succ, List.set_cons_zero, List.getElem?_cons_zero, List.getElem?_cons_succ, decide_eq_true_eq, Bool.not_eq_true', decide_eq_false_iff_not, not_true_eq_false, not_false_eq_true, decide_true, decide_false, Bool.false_eq_true, if_true, if_false, List.map_cons, List.map_nil, List.length_cons, List.length_nil, List.cons_append, List.nil_append, Nat.zero_add, beq_self_eq_true, Bool.not_true, Bool.not_false, Nat.reduceAdd, Nat.reduceSub, Int.reduceEq, Nat.reduceLeDiff, Dv.env0, List.replicate, Dv.c_seq, Dv.c_if]
          exact ⟨qn, rfl, by omega, P5, Stp.refl P5.lt⟩
        | true =>
          simp only [Dv.wp_0, Dv.wp_1, Dv.wp_2, Dv.wp_3, Dv.wp_4, Dv.wp_5, true_and, and_true, and_self, Option.bind_some, List.set_cons_succ, List.set_cons_zero, List.getElem?_cons_zero, List.getElem?_cons_succ, decide_eq_true_eq, Bool.not_eq_true', decide_eq_false_iff_not, not_true_eq_false, not_false_eq_true, decide_true, decide_false, Bool.false_eq_true, if_true, if_false, List.map_cons, List.map_nil, List.length_cons, List.length_nil, List.cons_append, List.nil_append, Nat.zero_add, beq_self_eq_true, Bool.not_true, Bool.not_false, Nat.reduceAdd, Nat.reduceSub, Int.reduceEq, Nat.reduceLeDiff, Dv.env0, List.replicate, Dv.c_seq, Dv.c_if]
          refine draw P5 (by omega) (by omega) fun r3 m6 q0 q1 P6 S6 => ?_
          simp only [Dv.wp_0, Dv.wp_1, Dv.wp_2, Dv.wp_3, Dv.wp_4, Dv.wp_5, true_and, and_true, and_self, Option.bind_some, List.set_cons_succ, List.set_cons_zero, List.getElem?_cons_zero, List.getElem?_cons_succ, decide_eq_true_eq, Bool.not_eq_true', decide_eq_false_iff_not, not_true_eq_false, not_false_eq_true, decide_true, decide_false, Bool.false_eq_true, if_true, if_false, List.map_cons, List.map_nil, List.length_cons, List.length_nil, List.cons_append, List.nil_append, Nat.zero_add, beq_self_eq_true, Bool.not_true, Bool.not_false, Nat.reduceAdd, Nat.reduceSub, Int.reduceEq, Nat.reduceLeDiff, Dv.env0, List.replicate, Dv.c_seq, Dv.c_if]
          by_cases c : 0 < r3
          · simp only [Dv.wp_0, Dv.wp_1, Dv.wp_2, Dv.wp_3, Dv.wp_4, Dv.wp_5, true_and, and_true, and_self, Option.bind_some, List.set_cons_succ, List.set_cons_zero, List.getElem?_cons_zero, List.getElem?_cons_succ, decide_eq_true_eq, Bool.not_eq_true', decide_eq_false_iff_not, not_true_eq_false, not_false_eq_true, decide_true, decide_false, Bool.false_eq_true, if_true, if_false, List.map_cons, List.map_nil, List.length_cons, List.length_nil, List.cons_append, List.nil_append, Nat.zero_add, beq_self_eq_true, Bool.not_true, Bool.not_false, Nat.reduceAdd, Nat.reduceSub, Int.reduceEq, Nat.reduceLeDiff, Dv.env0, List.replicate, Dv.c_seq, Dv.c_if, c]; exact ⟨rn, rfl, by omega, P6, S6⟩
          · simp only [Dv.wp_0, Dv.wp_1, Dv.wp_2, Dv.wp_3, Dv.wp_4, Dv.wp_5, true_and, and_true, and_self, Option.bind_some, List.set_cons_succ, List.set_cons_zero, List.getElem?_cons_zero, List.getElem?_cons_succ, decide_eq_true_eq, Bool.not_eq_true', decide_eq_false_iff_not, not_true_eq_false, not_false_eq_true, decide_true, decide_false, Bool.false_eq_true, if_true, if_false, List.map_cons, List.map_nil, List.length_cons, List.length_nil, List.cons_append, List.nil_append, Nat.zero_add, beq_self_eq_true, Bool.not_true, Bool.not_false, Nat.reduceAdd, Nat.reduceSub, Int.reduceEq, Nat.reduceLeDiff, Dv.env0, List.replicate, Dv.c_seq, Dv.c_if, c]; exact ⟨qn, rfl, by omega, P6, S6⟩
      · rintro _ m6 ⟨v, rfl, hv, P6, S6⟩
        simp only [Dv.wp_0, Dv.wp_1, Dv.wp_2, Dv.wp_3, Dv.wp_4, Dv.wp_5, true_and, and_true, and_self, Option.bind_some, List.set_cons_succ, List.set_cons_zero, List.getElem?_cons_zero, List.getElem?_cons_succ, decide_eq_true_eq, Bool.not_eq_true', decide_eq_false_iff_not, not_true_eq_false, not_false_eq_true, decide_true, decide_false, Bool.false_eq_true, if_true, if_false, List.map_cons, List.map_nil, List.length_cons, List.length_nil, List.cons_append, List.nil_append, Nat.zero_add, beq_self_eq_true, Bool.not_true, Bool.not_false, Nat.reduceAdd, Nat.reduceSub, Int.reduceEq, Nat.reduceLeDiff, Dv.env0, List.replicate, Dv.c_seq, Dv.c_if]
        have hm6 := S6.at hm5 O5
        refine append_wp hm6 (by simp; omega) ?_
        simp only [Dv.wp_0, Dv.wp_1, Dv.wp_2, Dv.wp_3, Dv.wp_4, Dv.wp_5, true_and, and_true, and_self, Option.bind_some, List.set_cons_succ, List.set_cons_zero, List.getElem?_cons_zero, List.getElem?_cons_succ, decide_eq_true_eq, Bool.not_eq_true', decide_eq_false_iff_not, not_true_eq_false, not_false_eq_true, decide_true, decide_false, Bool.false_eq_true, if_true, if_false, List.map_cons, List.map_nil, List.length_cons, List.length_nil, List.cons_append, List.nil_append, Nat.zero_add, beq_self_eq_true, Bool.not_true, Bool.not_false, Nat.reduceAdd, Nat.reduceSub, Int.reduceEq, Nat.reduceLeDiff, Dv.env0, List.replicate, Dv.c_seq, Dv.c_if]
        exact ⟨ns ++ [v], some y, some (.int qn), rfl, P6.put (S6.off hm5 O5), ((S4.trans S5).trans S6).put (Nat.le_refl _), (S6.off hm5 O5).set O5.1, by simp [hns], fun i hi => (List.mem_append.mp hi).elim (hb i) (fun h => by rw [List.mem_singleton] at h; omega), by rw [get_set hm6]; simp⟩
    · rintro _ m5 ⟨ns, y1, y2, rfl, P5, S5, O5, hns, hb, hm5⟩
      rw [len_rng] at hns
      have hm5' := S5.at hm3 O3
      have O5' := S5.off hm3 O3
      have ne : m2.length ≠ μ1.length := by have := (List.getElem?_eq_some_iff.mp hm3).1; omega
      simp only [Dv.wp_0, Dv.wp_1, Dv.wp_2, Dv.wp_3, Dv.wp_4, Dv.wp_5, true_and, and_true, and_self, Option.bind_some, List.set_cons_succ, List.set_cons_zero, List.getElem?_cons_zero, List.getElem?_cons_succ, decide_eq_true_eq, Bool.not_eq_true', decide_eq_false_iff_not, not_true_eq_false, not_false_eq_true, decide_true, decide_false, Bool.false_eq_true, if_true, if_false, List.map_cons, List.map_nil, List.length_cons, List.length_nil, List.cons_append, List.nil_append, Nat.zero_add, beq_self_eq_true, Bool.not_true, Bool.not_false, Nat.reduceAdd, Nat.reduceSub, Int.reduceEq, Nat.reduceLeDiff, Dv.env0, List.replicate, Dv.c_seq, Dv.c_if, tyL hm5']
      refine draw P5 (by omega) (by omega) fun r3 m6 q0 q1 P6 S6 => ?_
      simp only [Dv.wp_0, Dv.wp_1, Dv.wp_2, Dv.wp_3, Dv.wp_4, Dv.wp_5, true_and, and_true, and_self, Option.bind_some, List.set_cons_succ, List.set_cons_zero, List.getElem?_cons_zero, List.getElem?_cons_succ, decide_eq_true_eq, Bool.not_eq_true', decide_eq_false_iff_not, not_true_eq_false, not_false_eq_true, decide_true, decide_false, Bool.false_eq_true, if_true, if_false, List.map_cons, List.map_nil, List.length_cons, List.length_nil, List.cons_append, List.nil_append, Nat.zero_add, beq_self_eq_true, Bool.not_true, Bool.not_false, Nat.reduceAdd, Nat.reduceSub, Int.reduceEq, Nat.reduceLeDiff, Dv.env0, List.replicate, Dv.c_seq, Dv.c_if, tupOf_cell (S6.at hm5 O5)]
      refine append_wp (S6.at hm5' O5') (by simp; omega) ?_
      simp only [Dv.wp_0, Dv.wp_1, Dv.wp_2, Dv.wp_3, Dv.wp_4, Dv.wp_5, true_and, and_true, and_self, Option.bind_some, List.set_cons_succ, List.set_cons_zero, List.getElem?_cons_zero, List.getElem?_cons_succ, decide_eq_true_eq, Bool.not_eq_true', decide_eq_false_iff_not, not_true_eq_false, not_false_eq_true, decide_true, decide_false, Bool.false_eq_true, if_true, if_false, List.map_cons, List.map_nil, List.length_cons, List.length_nil, List.cons_append, List.nil_append, Nat.zero_add, beq_self_eq_true, Bool.not_true, Bool.not_false, Nat.reduceAdd, Nat.reduceSub, Int.reduceEq, Nat.reduceLeDiff, Dv.env0, List.replicate, Dv.c_seq, Dv.c_if]
      have S26 : Stp p μ m6 := ((S2.trans S3).trans S5).trans S6
      have hle := g1.len
      refine ⟨T ++ [(decide (r3 = 0), ns)], _, _, _, _, _, rfl, P6.put (S6.off hm5' O5'), S26.put hle, (S6.off hm5' O5').set O5'.1, by simp [hT], R2.snoc hns hb, ?_⟩
      rw [get_set (S6.at hm5' O5')]
      simp [rowD, natD]
  · rintro _ m ⟨T, x1, x2, x3, x4, x5, rfl, P2, S2, O2, hT, R2, hm⟩
    rw [len_rng] at hT
    simp only [Dv.wp_0, Dv.wp_1, Dv.wp_2, Dv.wp_3, Dv.wp_4, Dv.wp_5, true_and, and_true, and_self, Option.bind_some, List.set_cons_succ, List.set_cons_zero, List.getElem?_cons_zero, List.getElem?_cons_succ, decide_eq_true_eq, Bool.not_eq_true', decide_eq_false_iff_not, not_true_eq_false, not_false_eq_true, decide_true, decide_false, Bool.false_eq_true, if_true, if_false, List.map_cons, List.map_nil, List.length_cons, List.length_nil, List.cons_append, List.nil_append, Nat.zero_add, beq_self_eq_true, Bool.not_true, Bool.not_false, Nat.reduceAdd, Nat.reduceSub, Int.reduceEq, Nat.reduceLeDiff, Dv.env0, List.replicate, Dv.c_seq, Dv.c_if]
    exact ⟨_, T, rfl, ⟨by omega, by omega, by rw [hT]; exact R2⟩, P2, S2, hm⟩
end
end Law

set_option maxRecDepth 100000
set_option maxHeartbeats 4000000
namespace Law
open PySem PySem.Spec PyProof.Rows L2 Dv
theorem at_natD {ns : List Nat} {i : Nat} (h : i < ns.length) : atI (ns.map natD) (i : Int) = some (natD (ns[i])) := by
  rw [atI_in (by omega) (by simp; omega), List.getElem?_map]
  simp [List.getElem?_eq_getElem h]
theorem at_sgnD {c : List Nat} {i : Nat} (h : i < c.length) : atI (c.map sgnD) (i : Int) = some (sgnD (c[i])) := by
  rw [atI_in (by omega) (by simp; omega), List.getElem?_map]
  simp [List.getElem?_eq_getElem h]
theorem pick {μ : Mem} {p n : Nat} {xs : List D} {Q : D → Mem → Prop} {X : Exn → Mem → Prop} (P : Pool μ p) (h : μ[n]? = some (.lst xs)) (o : Off μ p n) (h0 : 0 < xs.length) (h1 : xs.length < 1000) (k : ∀ d μ', d ∈ xs → Pool μ' p → Stp p μ μ' → Q d μ') : (g__law_pick [.cell p, .cell n] μ).wp Q X := by
  unfold g__law_pick b__law_pick
  refine body_wp ?_
  simp only [Dv.wp_0, Dv.wp_1, Dv.wp_2, Dv.wp_3, Dv.wp_4, Dv.wp_5, true_and, and_true, and_self, Option.bind_some, List.set_cons_succ, List.set_cons_zero, List.getElem?_cons_zero, List.getElem?_cons_succ, decide_eq_true_eq, Bool.not_eq_true', decide_eq_false_iff_not, not_true_eq_false, not_false_eq_true, decide_true, decide_false, Bool.false_eq_true, if_true, if_false, List.map_cons, List.map_nil, List.length_cons, List.length_nil, List.cons_append, List.nil_append, Nat.zero_add, beq_self_eq_true, Bool.not_true, Bool.not_false, Nat.reduceAdd, Nat.reduceSub, Int.reduceEq, Nat.reduceLeDiff, Dv.env0, List.replicate, Dv.c_seq, Dv.c_if, len_cell h]
  refine draw P (by omega) (by omega) fun r μ' r0 r1 P1 S1 => ?_
  obtain ⟨j, rfl⟩ := Int.eq_ofNat_of_zero_le r0
  have hj : j < xs.length := by omega
  have a : atI xs (j : Int) = some xs[j] := by rw [atI_in (by omega) (by omega)]; simp [List.getElem?_eq_getElem hj]
  simp only [Dv.wp_0, Dv.wp_1, Dv.wp_2, Dv.wp_3, Dv.wp_4, Dv.wp_5, true_and, and_true, and_self, Option.bind_some, List.set_cons_succ, List.set_cons_zero, List.getElem?_cons_zero, List.getElem?_cons_succ, decide_eq_true_eq, Bool.not_eq_true', decide_eq_false_iff_not, not_true_eq_false, not_false_eq_true, decide_true, decide_false, Bool.false_eq_true, if_true, if_false, List.map_cons, List.map_nil, List.length_cons, List.length_nil, List.cons_append, List.nil_append, Nat.zero_add, beq_self_eq_true, Bool.not_true, Bool.not_false, Nat.reduceAdd, Nat.reduceSub, Int.reduceEq, Nat.reduceLeDiff, Dv.env0, List.replicate, Dv.c_seq, Dv.c_if, ix_of (S1.at h o) a]
  exact k _ _ (List.getElem_mem hj) P1 S1
theorem in_sign {s : Nat} {z : Str} {μ : Mem} : ∃ b, dInG false (sgnD s) (.str z) μ = .ok (.bl b) μ := by
  rcases s with _ | _ | s
  · exact ⟨_, rfl⟩
  · exact ⟨_, rfl⟩
  · exact ⟨_, rfl⟩
theorem find_sgn {s : Nat} {m : Mem} (h : s ≤ 2) : mFind (.str "-ab") [sgnD s] m = .ok (.int (s : Int)) m := by
  have h0 : Txt.find "-ab" "-" = 0 := by decide +kernel
  have h1 : Txt.find "-ab" "a" = 1 := by decide +kernel
  have h2 : Txt.find "-ab" "b" = 2 := by decide +kernel
  rcases (by omega : s = 0 ∨ s = 1 ∨ s = 2) with rfl | rfl | rfl
  · show R.ok (D.int (Txt.find "-ab" "-")) m = _; rw [h0]; rfl
  · show R.ok (D.int (Txt.find "-ab" "a")) m = _; rw [h1]; rfl
  · show R.ok (D.int (Txt.find "-ab" "b")) m = _; rw [h2]; rfl
theorem cut2 {xs : List D} : Dv.cutD xs none (some 2) = xs.take 2 := by
  unfold Dv.cutD
  rw [HT.sIx_none, show (2 : Int) = ((2 : Nat) : Int) from rfl, HT.sIx_nat, List.drop_zero, Nat.sub_zero]
  rcases Nat.le_total 2 xs.length with h | h
  · rw [Nat.min_eq_left h]
  · rw [Nat.min_eq_right h, List.take_of_length_le (Nat.le_refl _), List.take_of_length_le h]
theorem cut1' {xs : List D} : Dv.cutD xs (some 1) none = xs.drop 1 := by
  cases xs with
  | nil => unfold Dv.cutD; simp
  | cons x xs => rw [cut1]; rfl
section
variable {p : Nat}
theorem first_signs {μ : Mem} {rows letters : Nat} (P : Pool μ p) (r1 : 1 ≤ rows) (hr : rows ≤ 4) (l1 : 1 ≤ letters) (l2 : letters ≤ 2) :
    (g__law_first_signs [.cell p, .int rows, .int letters] μ).wp (TabPost p μ ((letters + 1) ^ rows - 1)) noX := by
  have hsm := small_pow (letters := letters) l2 hr
  have hpos : 1 ≤ (letters + 1) ^ rows := Nat.one_le_pow _ _ (by omega)
  unfold g__law_first_signs b__law_first_signs
  refine body_wp ?_
  simp only [Dv.wp_0, Dv.wp_1, Dv.wp_2, Dv.wp_3, Dv.wp_4, Dv.wp_5, true_and, and_true, and_self, Option.bind_some, List.set_cons_succ, List.set_cons_zero, List.getElem?_cons_zero, List.getElem?_cons_succ, decide_eq_true_eq, Bool.not_eq_true', decide_eq_false_iff_not, not_true_eq_false, not_false_eq_true, decide_true, decide_false, Bool.false_eq_true, if_true, if_false, List.map_cons, List.map_nil, List.length_cons, List.length_nil, List.cons_append, List.nil_append, Nat.zero_add, beq_self_eq_true, Bool.not_true, Bool.not_false, Nat.reduceAdd, Nat.reduceSub, Int.reduceEq, Nat.reduceLeDiff, Dv.env0, List.replicate, Dv.c_seq, Dv.c_if]
  refine draw P (by omega) (by omega) fun a m1 a0 a1 P1 S1 => ?_
  obtain ⟨row, rfl⟩ := Int.eq_ofNat_of_zero_le a0
  simp only [Dv.wp_0, Dv.wp_1, Dv.wp_2, Dv.wp_3, Dv.wp_4, Dv.wp_5, true_and, and_true, and_self, Option.bind_some, List.set_cons_succ, List.set_cons_zero, List.getElem?_cons_zero, List.getElem?_cons_succ, decide_eq_true_eq, Bool.not_eq_true', decide_eq_false_iff_not, not_true_eq_false, not_false_eq_true, decide_true, decide_false, Bool.false_eq_true, if_true, if_false, List.map_cons, List.map_nil, List.length_cons, List.length_nil, List.cons_append, List.nil_append, Nat.zero_add, beq_self_eq_true, Bool.not_true, Bool.not_false, Nat.reduceAdd, Nat.reduceSub, Int.reduceEq, Nat.reduceLeDiff, Dv.env0, List.replicate, Dv.c_seq, Dv.c_if]
  refine draw P1 (by omega) (by omega) fun b m2 b0 b1 P2 S2 => ?_
  obtain ⟨other, rfl⟩ := Int.eq_ofNat_of_zero_le b0
  simp only [Dv.wp_0, Dv.wp_1, Dv.wp_2, Dv.wp_3, Dv.wp_4, Dv.wp_5, true_and, and_true, and_self, Option.bind_some, List.set_cons_succ, List.set_cons_zero, List.getElem?_cons_zero, List.getElem?_cons_succ, decide_eq_true_eq, Bool.not_eq_true', decide_eq_false_iff_not, not_true_eq_false, not_false_eq_true, decide_true, decide_false, Bool.false_eq_true, if_true, if_false, List.map_cons, List.map_nil, List.length_cons, List.length_nil, List.cons_append, List.nil_append, Nat.zero_add, beq_self_eq_true, Bool.not_true, Bool.not_false, Nat.reduceAdd, Nat.reduceSub, Int.reduceEq, Nat.reduceLeDiff, Dv.env0, List.replicate, Dv.c_seq, Dv.c_if]
  refine lc_ga colD (fun c => .int (1 + (c.getD row 0 : Nat))) ?_
  simp only [Dv.wp_0, Dv.wp_1, Dv.wp_2, Dv.wp_3, Dv.wp_4, Dv.wp_5, true_and, and_true, and_self, Option.bind_some, List.set_cons_succ, List.set_cons_zero, List.getElem?_cons_zero, List.getElem?_cons_succ, decide_eq_true_eq, Bool.not_eq_true', decide_eq_false_iff_not, not_true_eq_false, not_false_eq_true, decide_true, decide_false, Bool.false_eq_true, if_true, if_false, List.map_cons, List.map_nil, List.length_cons, List.length_nil, List.cons_append, List.nil_append, Nat.zero_add, beq_self_eq_true, Bool.not_true, Bool.not_false, Nat.reduceAdd, Nat.reduceSub, Int.reduceEq, Nat.reduceLeDiff, Dv.env0, List.replicate, Dv.c_seq, Dv.c_if]
  refine columns hr l1 l2 fun n m3 g3 hn h3 => ?_
  have hlen : ((colsN letters rows).drop 1).length = (letters + 1) ^ rows - 1 := by rw [List.length_drop, colsN_len]
  simp only [Dv.wp_0, Dv.wp_1, Dv.wp_2, Dv.wp_3, Dv.wp_4, Dv.wp_5, true_and, and_true, and_self, Option.bind_some, List.set_cons_succ, List.set_cons_zero, List.getElem?_cons_zero, List.getElem?_cons_succ, decide_eq_true_eq, Bool.not_eq_true', decide_eq_false_iff_not, not_true_eq_false, not_false_eq_true, decide_true, decide_false, Bool.false_eq_true, if_true, if_false, List.map_cons, List.map_nil, List.length_cons, List.length_nil, List.cons_append, List.nil_append, Nat.zero_add, beq_self_eq_true, Bool.not_true, Bool.not_false, Nat.reduceAdd, Nat.reduceSub, Int.reduceEq, Nat.reduceLeDiff, Dv.env0, List.replicate, Dv.c_seq, Dv.c_if, sl_cell h3, cut1', c_iLst1 (new_at (l := [])), gok_one]
  refine ⟨(colsN letters rows).drop 1, by rw [List.map_drop], new_at, by omega, ?_, ?_⟩
  · intro c hc l
    obtain ⟨q1, q2⟩ := colsN_mem _ c (List.mem_of_mem_drop hc)
    have hrow : row < c.length := by omega
    have hq := q2 _ (List.getElem_mem hrow)
    simp only [Dv.wp_0, Dv.wp_1, Dv.wp_2, Dv.wp_3, Dv.wp_4, Dv.wp_5, true_and, and_true, and_self, Option.bind_some, List.set_cons_succ, List.set_cons_zero, List.getElem?_cons_zero, List.getElem?_cons_succ, decide_eq_true_eq, Bool.not_eq_true', decide_eq_false_iff_not, not_true_eq_false, not_false_eq_true, decide_true, decide_false, Bool.false_eq_true, if_true, if_false, List.map_cons, List.map_nil, List.length_cons, List.length_nil, List.cons_append, List.nil_append, Nat.zero_add, beq_self_eq_true, Bool.not_true, Bool.not_false, Nat.reduceAdd, Nat.reduceSub, Int.reduceEq, Nat.reduceLeDiff, Dv.env0, List.replicate, Dv.c_seq, Dv.c_if, colD, at_sgnD hrow, tyM, find_sgn (s := c[row]) (by omega)]
    refine ⟨?_, [], by simp⟩
    rw [List.getD_eq_getElem?_getD, List.getElem?_eq_getElem hrow]; rfl
  intro l
  generalize hns : (((colsN letters rows).drop 1).map fun c => 1 + c.getD row 0) = ns
  have e0 : (((colsN letters rows).drop 1).map fun c => D.int (1 + (c.getD row 0 : Nat))) = ns.map natD := by
    rw [← hns, List.map_map]; refine List.map_congr_left fun c _ => ?_; show D.int _ = D.int _; congr 1
  have b0 : ∀ i ∈ ns, i < letters + 2 := by
    rw [← hns]; intro i hi
    obtain ⟨c, hc, rfl⟩ := List.mem_map.mp hi
    obtain ⟨q1, q2⟩ := colsN_mem _ c (List.mem_of_mem_drop hc)
    have hrow : row < c.length := by omega
    rw [List.getD_eq_getElem?_getD, List.getElem?_eq_getElem hrow]
    have := q2 _ (List.getElem_mem hrow)
    show 1 + c[row] < _
    omega
  have n0 : ns.length = (letters + 1) ^ rows - 1 := by rw [← hns, List.length_map, hlen]
  rw [e0]
  have hA : (m3 ++ [C.lst ((colsN letters rows).map colD |>.drop 1)] ++ .lst (ns.map natD) :: l)[(m3 ++ [C.lst ((colsN letters rows).map colD |>.drop 1)]).length]? = some (.lst (ns.map natD)) := new_at
  have g4 : Gr m2 (m3 ++ [C.lst ((colsN letters rows).map colD |>.drop 1)] ++ .lst (ns.map natD) :: l) := ((Gr.refl.app.trans g3).app).app
  have g4' : Gr (m2 ++ [C.lst []]) (m3 ++ [C.lst ((colsN letters rows).map colD |>.drop 1)] ++ .lst (ns.map natD) :: l) := (g3.app).app
  have hge : m2.length + 1 ≤ (m3 ++ [C.lst ((colsN letters rows).map colD |>.drop 1)]).length := by have := g3.len; simp at this ⊢; omega
  generalize hnA : (m3 ++ [C.lst ((colsN letters rows).map colD |>.drop 1)]).length = nA at *
  generalize (m3 ++ [C.lst ((colsN letters rows).map colD |>.drop 1)] ++ .lst (ns.map natD) :: l) = m4 at *
  have hT0 : m4[m2.length]? = some (.lst []) := g4'.at (by simp)
  have O0 : Off m4 p m2.length := by
    obtain ⟨k, rfl⟩ := g4
    exact (P2.off (Nat.le_refl _)).app P2.lt
  have P4 := g4.pool P2
  have S4 := g4.stp P2.lt
  have hne : nA ≠ m2.length := by omega
  have OA : Off m4 p nA := by
    obtain ⟨k, rfl⟩ := g4
    exact (P2.off (by omega)).app P2.lt
  simp only [Dv.wp_0, Dv.wp_1, Dv.wp_2, Dv.wp_3, Dv.wp_4, Dv.wp_5, true_and, and_true, and_self, Option.bind_some, List.set_cons_succ, List.set_cons_zero, List.getElem?_cons_zero, List.getElem?_cons_succ, decide_eq_true_eq, Bool.not_eq_true', decide_eq_false_iff_not, not_true_eq_false, not_false_eq_true, decide_true, decide_false, Bool.false_eq_true, if_true, if_false, List.map_cons, List.map_nil, List.length_cons, List.length_nil, List.cons_append, List.nil_append, Nat.zero_add, beq_self_eq_true, Bool.not_true, Bool.not_false, Nat.reduceAdd, Nat.reduceSub, Int.reduceEq, Nat.reduceLeDiff, Dv.env0, List.replicate, Dv.c_seq, Dv.c_if, tyL hT0]
  refine draw P4 (by omega) (by omega) fun r3 m5 q0 q1 P5 S5 => ?_
  simp only [Dv.wp_0, Dv.wp_1, Dv.wp_2, Dv.wp_3, Dv.wp_4, Dv.wp_5, true_and, and_true, and_self, Option.bind_some, List.set_cons_succ, List.set_cons_zero, List.getElem?_cons_zero, List.getElem?_cons_succ, decide_eq_true_eq, Bool.not_eq_true', decide_eq_false_iff_not, not_true_eq_false, not_false_eq_true, decide_true, decide_false, Bool.false_eq_true, if_true, if_false, List.map_cons, List.map_nil, List.length_cons, List.length_nil, List.cons_append, List.nil_append, Nat.zero_add, beq_self_eq_true, Bool.not_true, Bool.not_false, Nat.reduceAdd, Nat.reduceSub, Int.reduceEq, Nat.reduceLeDiff, Dv.env0, List.replicate, Dv.c_seq, Dv.c_if, tupOf_cell (S5.at hA OA)]
  refine append_wp (S5.at hT0 O0) (by simp) ?_
  have O5 := S5.off hT0 O0
  have T5 := get_set (c' := .lst [.tup [.bl (decide (r3 = 0)), .tup (ns.map natD)]]) (S5.at hT0 O0)
  have P5' := P5.put (c := .lst [.tup [.bl (decide (r3 = 0)), .tup (ns.map natD)]]) O5
  have hm2 : m2.length < m5.length := (List.getElem?_eq_some_iff.mp (S5.at hT0 O0)).1
  have S5' : Stp p m2 (m5.set m2.length (.lst [.tup [.bl (decide (r3 = 0)), .tup (ns.map natD)]])) := (S4.trans S5).put (Nat.le_refl _)
  have O5' : Off (m5.set m2.length (.lst [.tup [.bl (decide (r3 = 0)), .tup (ns.map natD)]])) p m2.length := O5.set O5.1
  simp only [List.nil_append]
  generalize (m5.set m2.length (.lst [.tup [.bl (decide (r3 = 0)), .tup (ns.map natD)]])) = m6 at *
  simp only [Dv.wp_0, Dv.wp_1, Dv.wp_2, Dv.wp_3, Dv.wp_4, Dv.wp_5, true_and, and_true, and_self, Option.bind_some, List.set_cons_succ, List.set_cons_zero, List.getElem?_cons_zero, List.getElem?_cons_succ, decide_eq_true_eq, Bool.not_eq_true', decide_eq_false_iff_not, not_true_eq_false, not_false_eq_true, decide_true, decide_false, Bool.false_eq_true, if_true, if_false, List.map_cons, List.map_nil, List.length_cons, List.length_nil, List.cons_append, List.nil_append, Nat.zero_add, beq_self_eq_true, Bool.not_true, Bool.not_false, Nat.reduceAdd, Nat.reduceSub, Int.reduceEq, Nat.reduceLeDiff, Dv.env0, List.replicate, Dv.c_seq, Dv.c_if, c_iRng11 (j := (letters : Int) + 1) (by omega) (by omega)]
  have wide_b : Rows ((letters + 1) ^ rows - 1) (letters + 2) [(decide (r3 = 0), ns)] := fun p hp => by
    rw [List.mem_singleton] at hp; subst hp; exact ⟨n0, b0⟩
  refine for_wp (fun i e m => ∃ (T : List (Bool × List Nat)) (x1 x2 x3 : Option D), e = [some (.cell p), some (.int rows), some (.int letters), some (.int row), some (.int other), some (.cell m2.length), some (.cell nA), x1, x2, x3] ∧ Pool m p ∧ Stp p m2 m ∧ Off m p m2.length ∧ T.length = i + 1 ∧ Rows ((letters + 1) ^ rows - 1) (letters + 2) T ∧ m[m2.length]? = some (.lst (T.map rowD))) (fun _ _ _ _ => gok_nil) ?_ ?_ ?_
  · exact ⟨_, none, none, none, rfl, P5', S5', O5', rfl, wide_b, T5⟩
  · rintro i x _ m hx ⟨T, x1, x2, x3, rfl, P7, S7, O7, hT, R7, hm⟩
    have hi := (List.getElem?_eq_some_iff.mp hx).1
    rw [len_rng] at hi
    have hil : i ≤ letters := by omega
    have hxv : x = .int (i : Int) := by
      rw [rngD_nat, List.getElem?_map] at hx
      obtain ⟨y, hy, rfl⟩ := Option.map_eq_some_iff.mp hx
      rw [List.getElem?_range (by omega)] at hy
      cases hy; rfl
    subst hxv
    simp only [Dv.wp_0, Dv.wp_1, Dv.wp_2, Dv.wp_3, Dv.wp_4, Dv.wp_5, true_and, and_true, and_self, Option.bind_some, List.set_cons_succ, List.set_cons_zero, List.getElem?_cons_zero, List.getElem?_cons_succ, decide_eq_true_eq, Bool.not_eq_true', decide_eq_false_iff_not, not_true_eq_false, not_false_eq_true, decide_true, decide_false, Bool.false_eq_true, if_true, if_false, List.map_cons, List.map_nil, List.length_cons, List.length_nil, List.cons_append, List.nil_append, Nat.zero_add, beq_self_eq_true, Bool.not_true, Bool.not_false, Nat.reduceAdd, Nat.reduceSub, Int.reduceEq, Nat.reduceLeDiff, Dv.env0, List.replicate, Dv.c_seq, Dv.c_if]
    refine lc_ga colD (fun c => natD (if c.getD other 0 = 0 ∨ 0 < i then 1 + i else 1)) ?_
    simp only [Dv.wp_0, Dv.wp_1, Dv.wp_2, Dv.wp_3, Dv.wp_4, Dv.wp_5, true_and, and_true, and_self, Option.bind_some, List.set_cons_succ, List.set_cons_zero, List.getElem?_cons_zero, List.getElem?_cons_succ, decide_eq_true_eq, Bool.not_eq_true', decide_eq_false_iff_not, not_true_eq_false, not_false_eq_true, decide_true, decide_false, Bool.false_eq_true, if_true, if_false, List.map_cons, List.map_nil, List.length_cons, List.length_nil, List.cons_append, List.nil_append, Nat.zero_add, beq_self_eq_true, Bool.not_true, Bool.not_false, Nat.reduceAdd, Nat.reduceSub, Int.reduceEq, Nat.reduceLeDiff, Dv.env0, List.replicate, Dv.c_seq, Dv.c_if]
    refine columns hr l1 l2 fun k m8 g8 hk h8 => ?_
    simp only [Dv.wp_0, Dv.wp_1, Dv.wp_2, Dv.wp_3, Dv.wp_4, Dv.wp_5, true_and, and_true, and_self, Option.bind_some, List.set_cons_succ, List.set_cons_zero, List.getElem?_cons_zero, List.getElem?_cons_succ, decide_eq_true_eq, Bool.not_eq_true', decide_eq_false_iff_not, not_true_eq_false, not_false_eq_true, decide_true, decide_false, Bool.false_eq_true, if_true, if_false, List.map_cons, List.map_nil, List.length_cons, List.length_nil, List.cons_append, List.nil_append, Nat.zero_add, beq_self_eq_true, Bool.not_true, Bool.not_false, Nat.reduceAdd, Nat.reduceSub, Int.reduceEq, Nat.reduceLeDiff, Dv.env0, List.replicate, Dv.c_seq, Dv.c_if, sl_cell h8, cut1', c_iLst1 (new_at (l := [])), gok_one]
    refine ⟨(colsN letters rows).drop 1, by rw [List.map_drop], new_at, by omega, ?_, ?_⟩
    · intro c hc l
      obtain ⟨q1, q2⟩ := colsN_mem _ c (List.mem_of_mem_drop hc)
      have ho : other < c.length := by omega
      have hq := q2 _ (List.getElem_mem ho)
      have e1 : c.getD other 0 = c[other] := by rw [List.getD_eq_getElem?_getD, List.getElem?_eq_getElem ho]; rfl
      have e2 : ∀ m, dEq (sgnD c[other]) (.str "-") m = .ok (.bl (decide (c[other] = 0))) m := fun m => by
        rcases (by omega : c[other] = 0 ∨ c[other] = 1 ∨ c[other] = 2) with h | h | h <;> rw [h] <;> rfl
      simp only [Dv.wp_0, Dv.wp_1, Dv.wp_2, Dv.wp_3, Dv.wp_4, Dv.wp_5, true_and, and_true, and_self, Option.bind_some, List.set_cons_succ, List.set_cons_zero, List.getElem?_cons_zero, List.getElem?_cons_succ, decide_eq_true_eq, Bool.not_eq_true', decide_eq_false_iff_not, not_true_eq_false, not_false_eq_true, decide_true, decide_false, Bool.false_eq_true, if_true, if_false, List.map_cons, List.map_nil, List.length_cons, List.length_nil, List.cons_append, List.nil_append, Nat.zero_add, beq_self_eq_true, Bool.not_true, Bool.not_false, Nat.reduceAdd, Nat.reduceSub, Int.reduceEq, Nat.reduceLeDiff, Dv.env0, List.replicate, Dv.c_seq, Dv.c_if, colD, at_sgnD ho, e2, e1]
      by_cases z : c[other] = 0
      · simp only [Dv.wp_0, Dv.wp_1, Dv.wp_2, Dv.wp_3, Dv.wp_4, Dv.wp_5, true_and, and_true, and_self, Option.bind_some, List.set_cons_succ, List.set_cons_zero, List.getElem?_cons_zero, List.getElem?_cons_succ, decide_eq_true_eq, Bool.not_eq_true', decide_eq_false_iff_not, not_true_eq_false, not_false_eq_true, decide_true, decide_false, Bool.false_eq_true, if_true, if_false, List.map_cons, List.map_nil, List.length_cons, List.length_nil, List.cons_append, List.nil_append, Nat.zero_add, beq_self_eq_true, Bool.not_true, Bool.not_false, Nat.reduceAdd, Nat.reduceSub, Int.reduceEq, Nat.reduceLeDiff, Dv.env0, List.replicate, Dv.c_seq, Dv.c_if, z, true_or]
        exact ⟨rfl, [], by simp⟩
      · by_cases z2 : i = 0
        · subst z2
          simp only [Dv.wp_0, Dv.wp_1, Dv.wp_2, Dv.wp_3, Dv.wp_4, Dv.wp_5, true_and, and_true, and_self, Option.bind_some, List.set_cons_succ, List.set_cons_zero, List.getElem?_cons_zero, List.getElem?_cons_succ, decide_eq_true_eq, Bool.not_eq_true', decide_eq_false_iff_not, not_true_eq_false, not_false_eq_true, decide_true, decide_false, Bool.false_eq_true, if_true, if_false, List.map_cons, List.map_nil, List.length_cons, List.length_nil, List.cons_append, List.nil_append, Nat.zero_add, beq_self_eq_true, Bool.not_true, Bool.not_false, Nat.reduceAdd, Nat.reduceSub, Int.reduceEq, Nat.reduceLeDiff, Dv.env0, List.replicate, Dv.c_seq, Dv.c_if, z, false_or, show ¬ ((0 : Int) < ((0 : Nat) : Int)) from by omega, show ¬ (0 < 0) from by omega]
          exact ⟨rfl, [], by simp⟩
        · simp only [Dv.wp_0, Dv.wp_1, Dv.wp_2, Dv.wp_3, Dv.wp_4, Dv.wp_5, true_and, and_true, and_self, Option.bind_some, List.set_cons_succ, List.set_cons_zero, List.getElem?_cons_zero, List.getElem?_cons_succ, decide_eq_true_eq, Bool.not_eq_true', decide_eq_false_iff_not, not_true_eq_false, not_false_eq_true, decide_true, decide_false, Bool.false_eq_true, if_true, if_false, List.map_cons, List.map_nil, List.length_cons, List.length_nil, List.cons_append, List.nil_append, Nat.zero_add, beq_self_eq_true, Bool.not_true, Bool.not_false, Nat.reduceAdd, Nat.reduceSub, Int.reduceEq, Nat.reduceLeDiff, Dv.env0, List.replicate, Dv.c_seq, Dv.c_if, z, false_or, show ((0 : Int) < (i : Int)) from by omega, show (0 < i) from by omega]
          exact ⟨rfl, [], by simp⟩
    intro l
    generalize hks : (((colsN letters rows).drop 1).map fun c => if c.getD other 0 = 0 ∨ 0 < i then 1 + i else 1) = ks
    have ek : (((colsN letters rows).drop 1).map fun c => natD (if c.getD other 0 = 0 ∨ 0 < i then 1 + i else 1)) = ks.map natD := by
      rw [← hks, List.map_map]; rfl
    have bk : ∀ j ∈ ks, j < letters + 2 := by
      rw [← hks]; intro j hj
      obtain ⟨c, hc, rfl⟩ := List.mem_map.mp hj
      split <;> omega
    have nk : ks.length = (letters + 1) ^ rows - 1 := by rw [← hks, List.length_map, hlen]
    rw [ek]
    have hB : (m8 ++ [C.lst ((colsN letters rows).map colD |>.drop 1)] ++ .lst (ks.map natD) :: l)[(m8 ++ [C.lst ((colsN letters rows).map colD |>.drop 1)]).length]? = some (.lst (ks.map natD)) := new_at
    have g9 : Gr m (m8 ++ [C.lst ((colsN letters rows).map colD |>.drop 1)] ++ .lst (ks.map natD) :: l) := (g8.app).app
    have g10 : Gr m (m8 ++ [C.lst ((colsN letters rows).map colD |>.drop 1)]) := g8.app
    have hnB : m.length ≤ (m8 ++ [C.lst ((colsN letters rows).map colD |>.drop 1)]).length := g10.len
    generalize (m8 ++ [C.lst ((colsN letters rows).map colD |>.drop 1)]).length = nB at *
    generalize (m8 ++ [C.lst ((colsN letters rows).map colD |>.drop 1)] ++ .lst (ks.map natD) :: l) = m9 at *
    have P9 := g9.pool P7
    have S9 := g9.stp (n := p) P7.lt
    have hm9 := g9.at hm
    have O9 := S9.off hm O7
    have OB : Off m9 p nB := by
      obtain ⟨k, rfl⟩ := g9
      exact (P7.off hnB).app P7.lt
    simp only [Dv.wp_0, Dv.wp_1, Dv.wp_2, Dv.wp_3, Dv.wp_4, Dv.wp_5, true_and, and_true, and_self, Option.bind_some, List.set_cons_succ, List.set_cons_zero, List.getElem?_cons_zero, List.getElem?_cons_succ, decide_eq_true_eq, Bool.not_eq_true', decide_eq_false_iff_not, not_true_eq_false, not_false_eq_true, decide_true, decide_false, Bool.false_eq_true, if_true, if_false, List.map_cons, List.map_nil, List.length_cons, List.length_nil, List.cons_append, List.nil_append, Nat.zero_add, beq_self_eq_true, Bool.not_true, Bool.not_false, Nat.reduceAdd, Nat.reduceSub, Int.reduceEq, Nat.reduceLeDiff, Dv.env0, List.replicate, Dv.c_seq, Dv.c_if, tyL hm9]
    refine draw P9 (by omega) (by omega) fun r4 m11 q2 q3 P11 S11 => ?_
    simp only [Dv.wp_0, Dv.wp_1, Dv.wp_2, Dv.wp_3, Dv.wp_4, Dv.wp_5, true_and, and_true, and_self, Option.bind_some, List.set_cons_succ, List.set_cons_zero, List.getElem?_cons_zero, List.getElem?_cons_succ, decide_eq_true_eq, Bool.not_eq_true', decide_eq_false_iff_not, not_true_eq_false, not_false_eq_true, decide_true, decide_false, Bool.false_eq_true, if_true, if_false, List.map_cons, List.map_nil, List.length_cons, List.length_nil, List.cons_append, List.nil_append, Nat.zero_add, beq_self_eq_true, Bool.not_true, Bool.not_false, Nat.reduceAdd, Nat.reduceSub, Int.reduceEq, Nat.reduceLeDiff, Dv.env0, List.replicate, Dv.c_seq, Dv.c_if, tupOf_cell (S11.at hB OB)]
    refine append_wp (S11.at hm9 O9) (by simp; omega) ?_
    simp only [Dv.wp_0, Dv.wp_1, Dv.wp_2, Dv.wp_3, Dv.wp_4, Dv.wp_5, true_and, and_true, and_self, Option.bind_some, List.set_cons_succ, List.set_cons_zero, List.getElem?_cons_zero, List.getElem?_cons_succ, decide_eq_true_eq, Bool.not_eq_true', decide_eq_false_iff_not, not_true_eq_false, not_false_eq_true, decide_true, decide_false, Bool.false_eq_true, if_true, if_false, List.map_cons, List.map_nil, List.length_cons, List.length_nil, List.cons_append, List.nil_append, Nat.zero_add, beq_self_eq_true, Bool.not_true, Bool.not_false, Nat.reduceAdd, Nat.reduceSub, Int.reduceEq, Nat.reduceLeDiff, Dv.env0, List.replicate, Dv.c_seq, Dv.c_if]
    refine ⟨T ++ [(decide (r4 = 0), ks)], _, _, _, rfl, P11.put (S11.off hm9 O9), (((S7.trans S9).trans S11).put (Nat.le_refl _)), (S11.off hm9 O9).set O7.1, by simp [hT], R7.snoc nk bk, ?_⟩
    rw [get_set (S11.at hm9 O9)]
    simp [rowD, natD]
  · rintro _ m ⟨T, x1, x2, x3, rfl, P7, S7, O7, hT, R7, hm⟩
    rw [len_rng] at hT
    simp only [Dv.wp_0, Dv.wp_1, Dv.wp_2, Dv.wp_3, Dv.wp_4, Dv.wp_5, true_and, and_true, and_self, Option.bind_some, List.set_cons_succ, List.set_cons_zero, List.getElem?_cons_zero, List.getElem?_cons_succ, decide_eq_true_eq, Bool.not_eq_true', decide_eq_false_iff_not, not_true_eq_false, not_false_eq_true, decide_true, decide_false, Bool.false_eq_true, if_true, if_false, List.map_cons, List.map_nil, List.length_cons, List.length_nil, List.cons_append, List.nil_append, Nat.zero_add, beq_self_eq_true, Bool.not_true, Bool.not_false, Nat.reduceAdd, Nat.reduceSub, Int.reduceEq, Nat.reduceLeDiff, Dv.env0, List.replicate, Dv.c_seq, Dv.c_if]
    have : T.length = letters + 2 := by rw [hT]; omega
    exact ⟨_, T, rfl, ⟨by omega, by omega, by rw [this]; exact R7⟩, P7, (S1.trans S2).trans S7, hm⟩
end
end Law

set_option maxRecDepth 100000
set_option maxHeartbeats 4000000
namespace Law
open PySem PySem.Spec PyProof.Rows L2 Dv
theorem ne_sgn {s t : Nat} {m : Mem} : ∃ b, dNe (sgnD s) (sgnD t) m = .ok (.bl b) m := by
  rcases s with _ | _ | s <;> rcases t with _ | _ | t <;> exact ⟨_, rfl⟩
theorem eq_dash {s : Nat} {m : Mem} : ∃ b, dEq (sgnD s) (.str "-") m = .ok (.bl b) m := by
  rcases s with _ | _ | s <;> exact ⟨_, rfl⟩
theorem ne_bl {a b : Bool} {m : Mem} : dNe (.bl a) (.bl b) m = .ok (.bl (a != b)) m := by cases a <;> cases b <;> rfl
theorem int1_b {b : Bool} {μ : Mem} : dInt1 [.bl b] μ = .ok (natD (if b = true then 1 else 0)) μ := by cases b <;> rfl
section
variable {p : Nat}
theorem compared {μ : Mem} {rows letters : Nat} (P : Pool μ p) (r1 : 2 ≤ rows) (hr : rows ≤ 4) (l1 : 1 ≤ letters) (l2 : letters ≤ 2) :
    (g__law_compared [.cell p, .int rows, .int letters] μ).wp (TabPost p μ ((letters + 1) ^ rows - 1)) noX := by
  have hsm := small_pow (letters := letters) l2 hr
  have hpos : 4 ≤ (letters + 1) ^ rows := calc
    4 = 2 ^ 2 := rfl
    _ ≤ (letters + 1) ^ 2 := Nat.pow_le_pow_left (by omega) 2
    _ ≤ (letters + 1) ^ rows := Nat.pow_le_pow_right (by omega) r1
  unfold g__law_compared b__law_compared
  refine body_wp ?_
  simp only [Dv.wp_0, Dv.wp_1, Dv.wp_2, Dv.wp_3, Dv.wp_4, Dv.wp_5, true_and, and_true, and_self, Option.bind_some, List.set_cons_succ, List.set_cons_zero, List.getElem?_cons_zero, List.getElem?_cons_succ, decide_eq_true_eq, Bool.not_eq_true', decide_eq_false_iff_not, not_true_eq_false, not_false_eq_true, decide_true, decide_false, Bool.false_eq_true, if_true, if_false, List.map_cons, List.map_nil, List.length_cons, List.length_nil, List.cons_append, List.nil_append, Nat.zero_add, beq_self_eq_true, Bool.not_true, Bool.not_false, Nat.reduceAdd, Nat.reduceSub, Int.reduceEq, Nat.reduceLeDiff, Dv.env0, List.replicate, Dv.c_seq, Dv.c_if]
  refine draw P (by omega) (by omega) fun a m1 a0 a1 P1 S1 => ?_
  obtain ⟨one, rfl⟩ := Int.eq_ofNat_of_zero_le a0
  simp only [Dv.wp_0, Dv.wp_1, Dv.wp_2, Dv.wp_3, Dv.wp_4, Dv.wp_5, true_and, and_true, and_self, Option.bind_some, List.set_cons_succ, List.set_cons_zero, List.getElem?_cons_zero, List.getElem?_cons_succ, decide_eq_true_eq, Bool.not_eq_true', decide_eq_false_iff_not, not_true_eq_false, not_false_eq_true, decide_true, decide_false, Bool.false_eq_true, if_true, if_false, List.map_cons, List.map_nil, List.length_cons, List.length_nil, List.cons_append, List.nil_append, Nat.zero_add, beq_self_eq_true, Bool.not_true, Bool.not_false, Nat.reduceAdd, Nat.reduceSub, Int.reduceEq, Nat.reduceLeDiff, Dv.env0, List.replicate, Dv.c_seq, Dv.c_if]
  refine draw P1 (by omega) (by omega) fun b m2 b0 b1 P2 S2 => ?_
  obtain ⟨oth, rfl⟩ := Int.eq_ofNat_of_zero_le b0
  simp only [Dv.wp_0, Dv.wp_1, Dv.wp_2, Dv.wp_3, Dv.wp_4, Dv.wp_5, true_and, and_true, and_self, Option.bind_some, List.set_cons_succ, List.set_cons_zero, List.getElem?_cons_zero, List.getElem?_cons_succ, decide_eq_true_eq, Bool.not_eq_true', decide_eq_false_iff_not, not_true_eq_false, not_false_eq_true, decide_true, decide_false, Bool.false_eq_true, if_true, if_false, List.map_cons, List.map_nil, List.length_cons, List.length_nil, List.cons_append, List.nil_append, Nat.zero_add, beq_self_eq_true, Bool.not_true, Bool.not_false, Nat.reduceAdd, Nat.reduceSub, Int.reduceEq, Nat.reduceLeDiff, Dv.env0, List.replicate, Dv.c_seq, Dv.c_if]
  refine draw P2 (by omega) (by omega) fun c m3 c0 c1 P3 S3 => ?_
  simp only [Dv.wp_0, Dv.wp_1, Dv.wp_2, Dv.wp_3, Dv.wp_4, Dv.wp_5, true_and, and_true, and_self, Option.bind_some, List.set_cons_succ, List.set_cons_zero, List.getElem?_cons_zero, List.getElem?_cons_succ, decide_eq_true_eq, Bool.not_eq_true', decide_eq_false_iff_not, not_true_eq_false, not_false_eq_true, decide_true, decide_false, Bool.false_eq_true, if_true, if_false, List.map_cons, List.map_nil, List.length_cons, List.length_nil, List.cons_append, List.nil_append, Nat.zero_add, beq_self_eq_true, Bool.not_true, Bool.not_false, Nat.reduceAdd, Nat.reduceSub, Int.reduceEq, Nat.reduceLeDiff, Dv.env0, List.replicate, Dv.c_seq, Dv.c_if]
  refine columns hr l1 l2 fun n m4 g4 hn h4 => ?_
  have hT0 : m4[m3.length]? = some (.lst []) := g4.at (by simp)
  have g5 : Gr m3 (m4 ++ [C.lst (((colsN letters rows).map colD).drop 1)]) := (Gr.refl.app.trans g4).app
  simp only [Dv.wp_0, Dv.wp_1, Dv.wp_2, Dv.wp_3, Dv.wp_4, Dv.wp_5, true_and, and_true, and_self, Option.bind_some, List.set_cons_succ, List.set_cons_zero, List.getElem?_cons_zero, List.getElem?_cons_succ, decide_eq_true_eq, Bool.not_eq_true', decide_eq_false_iff_not, not_true_eq_false, not_false_eq_true, decide_true, decide_false, Bool.false_eq_true, if_true, if_false, List.map_cons, List.map_nil, List.length_cons, List.length_nil, List.cons_append, List.nil_append, Nat.zero_add, beq_self_eq_true, Bool.not_true, Bool.not_false, Nat.reduceAdd, Nat.reduceSub, Int.reduceEq, Nat.reduceLeDiff, Dv.env0, List.replicate, Dv.c_seq, Dv.c_if, sl_cell h4, cut1', c_iLst1 (new_at (l := []))]
  refine for_wp (fun i e m => ∃ (ns : List Nat) (x1 x2 x3 : Option D), e = [some (.cell p), some (.int rows), some (.int letters), some (.int one), some (.int ((one : Int) + 1 + oth)), some (.bl (decide (c = 0))), some (.cell m3.length), x1, x2, x3] ∧ Gr m3 m ∧ m[m4.length]? = some (.lst (((colsN letters rows).map colD).drop 1)) ∧ ns.length = i ∧ (∀ i ∈ ns, i < 2) ∧ m[m3.length]? = some (.lst (ns.map natD))) ?_ ?_ ?_ ?_
  · rintro i e m ⟨ns, x1, x2, x3, rfl, g, hg, _⟩
    rw [gok_one]; exact hg
  · exact ⟨[], _, _, _, rfl, g5, new_at (l := []), rfl, (fun _ h => nomatch h), app_get hT0⟩
  · rintro i x _ m hx ⟨ns, x1, x2, x3, rfl, g, hg, hns, hb, hm⟩
    have hi := (List.getElem?_eq_some_iff.mp hx).1
    rw [List.length_drop, List.length_map, colsN_len] at hi
    rw [← List.map_drop, List.getElem?_map] at hx
    obtain ⟨col, hc, rfl⟩ := Option.map_eq_some_iff.mp hx
    obtain ⟨q1, q2⟩ := colsN_mem _ col (List.mem_of_mem_drop (List.mem_of_getElem? hc))
    have h1 : one < col.length := by omega
    have h2 : one + 1 + oth < col.length := by omega
    have e2 : atI (col.map sgnD) ((one : Int) + 1 + oth) = some (sgnD col[one + 1 + oth]) := by
      rw [show (one : Int) + 1 + oth = ((one + 1 + oth : Nat) : Int) by omega]; exact at_sgnD h2
    obtain ⟨b1', hb1⟩ := ne_sgn (s := col[one]) (t := col[one + 1 + oth]) (m := m)
    obtain ⟨b2', hb2⟩ := eq_dash (s := col[one]) (m := m)
    obtain ⟨b3', hb3⟩ := eq_dash (s := col[one + 1 + oth]) (m := m)
    have lt : m3.length ≠ m4.length := by have := g4.len; simp at this; omega
    have fin : ∀ v : Nat, v < 2 → ∀ x2' x3' : Option D, ∃ (ns' : List Nat) (x1 x2 x3 : Option D), ([some (.cell p), some (.int rows), some (.int letters), some (.int one), some (.int ((one : Int) + 1 + oth)), some (.bl (decide (c = 0))), some (.cell m3.length), some (colD col), x2', x3'] : Dv.Env) = [some (.cell p), some (.int rows), some (.int letters), some (.int one), some (.int ((one : Int) + 1 + oth)), some (.bl (decide (c = 0))), some (.cell m3.length), x1, x2, x3] ∧ Gr m3 (m.set m3.length (.lst (ns.map natD ++ [natD v]))) ∧ (m.set m3.length (.lst (ns.map natD ++ [natD v])))[m4.length]? = some (.lst (((colsN letters rows).map colD).drop 1)) ∧ ns'.length = i + 1 ∧ (∀ i ∈ ns', i < 2) ∧ (m.set m3.length (.lst (ns.map natD ++ [natD v])))[m3.length]? = some (.lst (ns'.map natD)) := by
      intro v hv x2' x3'
      refine ⟨ns ++ [v], _, _, _, rfl, g.set (Nat.le_refl _), get_set' hg lt, by simp [hns], fun j hj => (List.mem_append.mp hj).elim (hb j) (fun h => by rw [List.mem_singleton] at h; omega), by rw [get_set hm]; simp⟩
    by_cases hc0 : c = 0
    · simp only [hc0, decide_true] at fin ⊢
      simp only [Dv.wp_0, Dv.wp_1, Dv.wp_2, Dv.wp_3, Dv.wp_4, Dv.wp_5, true_and, and_true, and_self, Option.bind_some, List.set_cons_succ, List.set_cons_zero, List.getElem?_cons_zero, List.getElem?_cons_succ, decide_eq_true_eq, Bool.not_eq_true', decide_eq_false_iff_not, not_true_eq_false, not_false_eq_true, decide_true, decide_false, Bool.false_eq_true, if_true, if_false, List.map_cons, List.map_nil, List.length_cons, List.length_nil, List.cons_append, List.nil_append, Nat.zero_add, beq_self_eq_true, Bool.not_true, Bool.not_false, Nat.reduceAdd, Nat.reduceSub, Int.reduceEq, Nat.reduceLeDiff, Dv.env0, List.replicate, Dv.c_seq, Dv.c_if, colD, at_sgnD h1, e2, hb1, int1_b, tyL hm]
      refine append_wp hm (by simp; omega) ?_
      simp only [Dv.wp_0, Dv.wp_1, Dv.wp_2, Dv.wp_3, Dv.wp_4, Dv.wp_5, true_and, and_true, and_self, Option.bind_some, List.set_cons_succ, List.set_cons_zero, List.getElem?_cons_zero, List.getElem?_cons_succ, decide_eq_true_eq, Bool.not_eq_true', decide_eq_false_iff_not, not_true_eq_false, not_false_eq_true, decide_true, decide_false, Bool.false_eq_true, if_true, if_false, List.map_cons, List.map_nil, List.length_cons, List.length_nil, List.cons_append, List.nil_append, Nat.zero_add, beq_self_eq_true, Bool.not_true, Bool.not_false, Nat.reduceAdd, Nat.reduceSub, Int.reduceEq, Nat.reduceLeDiff, Dv.env0, List.replicate, Dv.c_seq, Dv.c_if]
      exact fin _ (by split <;> omega) _ _
    · simp only [hc0, decide_false] at fin ⊢
      simp only [Dv.wp_0, Dv.wp_1, Dv.wp_2, Dv.wp_3, Dv.wp_4, Dv.wp_5, true_and, and_true, and_self, Option.bind_some, List.set_cons_succ, List.set_cons_zero, List.getElem?_cons_zero, List.getElem?_cons_succ, decide_eq_true_eq, Bool.not_eq_true', decide_eq_false_iff_not, not_true_eq_false, not_false_eq_true, decide_true, decide_false, Bool.false_eq_true, if_true, if_false, List.map_cons, List.map_nil, List.length_cons, List.length_nil, List.cons_append, List.nil_append, Nat.zero_add, beq_self_eq_true, Bool.not_true, Bool.not_false, Nat.reduceAdd, Nat.reduceSub, Int.reduceEq, Nat.reduceLeDiff, Dv.env0, List.replicate, Dv.c_seq, Dv.c_if, colD, at_sgnD h1, e2, hb2, hb3, ne_bl, int1_b, tyL hm]
      refine append_wp hm (by simp; omega) ?_
      simp only [Dv.wp_0, Dv.wp_1, Dv.wp_2, Dv.wp_3, Dv.wp_4, Dv.wp_5, true_and, and_true, and_self, Option.bind_some, List.set_cons_succ, List.set_cons_zero, List.getElem?_cons_zero, List.getElem?_cons_succ, decide_eq_true_eq, Bool.not_eq_true', decide_eq_false_iff_not, not_true_eq_false, not_false_eq_true, decide_true, decide_false, Bool.false_eq_true, if_true, if_false, List.map_cons, List.map_nil, List.length_cons, List.length_nil, List.cons_append, List.nil_append, Nat.zero_add, beq_self_eq_true, Bool.not_true, Bool.not_false, Nat.reduceAdd, Nat.reduceSub, Int.reduceEq, Nat.reduceLeDiff, Dv.env0, List.replicate, Dv.c_seq, Dv.c_if]
      exact fin _ (by split <;> omega) _ _
  · rintro _ m ⟨ns, x1, x2, x3, rfl, g, hg, hns, hb, hm⟩
    rw [List.length_drop, List.length_map, colsN_len] at hns
    have P5 := g.pool P3
    have S5 := g.stp (n := p) P3.lt
    have O5 : Off m p m3.length := by obtain ⟨k, rfl⟩ := g; exact (P3.off (Nat.le_refl _)).app P3.lt
    simp only [Dv.wp_0, Dv.wp_1, Dv.wp_2, Dv.wp_3, Dv.wp_4, Dv.wp_5, true_and, and_true, and_self, Option.bind_some, List.set_cons_succ, List.set_cons_zero, List.getElem?_cons_zero, List.getElem?_cons_succ, decide_eq_true_eq, Bool.not_eq_true', decide_eq_false_iff_not, not_true_eq_false, not_false_eq_true, decide_true, decide_false, Bool.false_eq_true, if_true, if_false, List.map_cons, List.map_nil, List.length_cons, List.length_nil, List.cons_append, List.nil_append, Nat.zero_add, beq_self_eq_true, Bool.not_true, Bool.not_false, Nat.reduceAdd, Nat.reduceSub, Int.reduceEq, Nat.reduceLeDiff, Dv.env0, List.replicate, Dv.c_seq, Dv.c_if]
    refine draw P5 (by omega) (by omega) fun r1' m6 q0 q1 P6 S6 => ?_
    have hm6 := S6.at hm O5
    have O6 := S6.off hm O5
    simp only [Dv.wp_0, Dv.wp_1, Dv.wp_2, Dv.wp_3, Dv.wp_4, Dv.wp_5, true_and, and_true, and_self, Option.bind_some, List.set_cons_succ, List.set_cons_zero, List.getElem?_cons_zero, List.getElem?_cons_succ, decide_eq_true_eq, Bool.not_eq_true', decide_eq_false_iff_not, not_true_eq_false, not_false_eq_true, decide_true, decide_false, Bool.false_eq_true, if_true, if_false, List.map_cons, List.map_nil, List.length_cons, List.length_nil, List.cons_append, List.nil_append, Nat.zero_add, beq_self_eq_true, Bool.not_true, Bool.not_false, Nat.reduceAdd, Nat.reduceSub, Int.reduceEq, Nat.reduceLeDiff, Dv.env0, List.replicate, Dv.c_seq, Dv.c_if, tupOf_cell hm6]
    refine draw P6 (by omega) (by omega) fun r2' m7 q2 q3 P7 S7 => ?_
    have hm7 := S7.at hm6 O6
    simp only [Dv.wp_0, Dv.wp_1, Dv.wp_2, Dv.wp_3, Dv.wp_4, Dv.wp_5, true_and, and_true, and_self, Option.bind_some, List.set_cons_succ, List.set_cons_zero, List.getElem?_cons_zero, List.getElem?_cons_succ, decide_eq_true_eq, Bool.not_eq_true', decide_eq_false_iff_not, not_true_eq_false, not_false_eq_true, decide_true, decide_false, Bool.false_eq_true, if_true, if_false, List.map_cons, List.map_nil, List.length_cons, List.length_nil, List.cons_append, List.nil_append, Nat.zero_add, beq_self_eq_true, Bool.not_true, Bool.not_false, Nat.reduceAdd, Nat.reduceSub, Int.reduceEq, Nat.reduceLeDiff, Dv.env0, List.replicate, Dv.c_seq, Dv.c_if, len_cell hm7, List.length_map, repW_at (xs := [D.int 1]) (k := (ns.length : Int)) (μ := m7) ⟨by simp, by omega, by simp; omega⟩]
    refine ⟨_, [(decide (r1' = 0), ns), (decide (r2' = 0), List.replicate ns.length 1)], rfl, ⟨by simp, by simp, ?_⟩, P7.app, ((((S1.trans S2).trans S3).trans S5).trans (S6.trans S7)).app, ?_⟩
    · intro q hq
      rcases List.mem_cons.mp hq with rfl | hq
      · exact ⟨by omega, hb⟩
      · rw [List.mem_singleton] at hq; subst hq
        refine ⟨by simp; omega, fun i hi => ?_⟩
        have := List.eq_of_mem_replicate hi
        subst this; simp
    · rw [new_at]
      simp [rowD, natD]
end
end Law

set_option maxRecDepth 100000
set_option maxHeartbeats 4000000
namespace Law
open PySem PySem.Spec PyProof.Rows L2 Dv
theorem enum_nat {cs : List Nat} : enumD (cs.map natD) = cs.zipIdx.map fun q => .tup [natD q.2, natD q.1] := by
  unfold enumD
  rw [List.zipIdx_map, List.map_map]
  rfl
section
variable {p : Nat}
theorem counted {μ : Mem} {rows : Nat} {env : Dv.Env} {Q : D → Mem → Prop} {X : Exn → Mem → Prop} (P : Pool μ p) (hr : rows ≤ 4) (h1 : env[1]? = some (some (.int (rows : Int)))) (h0 : ∀ x, ((wipeE env [3]).set 3 (some x))[0]? = some (some (.cell p))) (h3 : ∀ x, ((wipeE env [3]).set 3 (some x))[3]? = some (some x))
    (k : ∀ (cs : List Nat) μ', cs.length ≤ 4 → (∀ c ∈ cs, c < rows) → Pool μ' p → Stp p μ μ' → μ'[μ.length]? = some (.lst (cs.map natD)) → Off μ' p μ.length → Q (.cell μ.length) μ') :
    (fLc (iRng1D (aCons (fVar 1) aNil)) (gNm 3) (bTest (fOp dEq (fCall0 (fun ds μ => if ds.length = 2 then g__law_draw ds μ else .no) (aCons (fVar 0) (aCons (fCon (.int 2)) aNil))) (fCon (.int 0)))) (fVar 3) [3] env μ).wp Q X := by
  refine lc_wp ?_
  simp only [Dv.wp_0, Dv.wp_1, Dv.wp_2, Dv.wp_3, Dv.wp_4, Dv.wp_5, true_and, and_true, and_self, Option.bind_some, List.set_cons_succ, List.set_cons_zero, List.getElem?_cons_zero, List.getElem?_cons_succ, decide_eq_true_eq, Bool.not_eq_true', decide_eq_false_iff_not, not_true_eq_false, not_false_eq_true, decide_true, decide_false, Bool.false_eq_true, if_true, if_false, List.map_cons, List.map_nil, List.length_cons, List.length_nil, List.cons_append, List.nil_append, Nat.zero_add, beq_self_eq_true, Bool.not_true, Bool.not_false, Nat.reduceAdd, Nat.reduceSub, Int.reduceEq, Nat.reduceLeDiff, Dv.env0, List.replicate, Dv.c_seq, Dv.c_if, h1, c_iRng11 (j := (rows : Int)) (by omega) (by omega), Int.toNat_natCast]
  refine ⟨fun i acc m => ∃ cs : List Nat, acc = cs.map natD ∧ cs.length ≤ i ∧ (∀ c ∈ cs, c < rows) ∧ Pool m p ∧ Stp p μ m ∧ Off m p μ.length, fun _ _ _ _ => gok_nil, ⟨[], rfl, by simp, (fun _ h => nomatch h), P.app, (Stp.refl P.lt).app, (P.off (Nat.le_refl _)).app P.lt⟩, ?_, ?_⟩
  · rintro i x _ m hx ⟨cs, rfl, hl, hc, P1, S1, O1⟩ hm
    have hi := (List.getElem?_eq_some_iff.mp hx).1
    rw [len_rng] at hi
    have hxv : x = .int (i : Int) := by
      rw [rngD_nat, List.getElem?_map] at hx
      obtain ⟨y, hy, rfl⟩ := Option.map_eq_some_iff.mp hx
      rw [List.getElem?_range hi] at hy
      cases hy; rfl
    subst hxv
    have e3 := h3 (.int (i : Int))
    have e0 := h0 (.int (i : Int))
    simp only [wipe_cons, wipe_nil] at e3 e0
    simp only [Dv.wp_0, Dv.wp_1, Dv.wp_2, Dv.wp_3, Dv.wp_4, Dv.wp_5, true_and, and_true, and_self, Option.bind_some, List.set_cons_succ, List.set_cons_zero, List.getElem?_cons_zero, List.getElem?_cons_succ, decide_eq_true_eq, Bool.not_eq_true', decide_eq_false_iff_not, not_true_eq_false, not_false_eq_true, decide_true, decide_false, Bool.false_eq_true, if_true, if_false, List.map_cons, List.map_nil, List.length_cons, List.length_nil, List.cons_append, List.nil_append, Nat.zero_add, beq_self_eq_true, Bool.not_true, Bool.not_false, Nat.reduceAdd, Nat.reduceSub, Int.reduceEq, Nat.reduceLeDiff, Dv.env0, List.replicate, Dv.c_seq, Dv.c_if, e0]
    refine draw P1 (by omega) (by omega) fun r m1 r0 r1 P2 S2 => ?_
    simp only [Dv.wp_0, Dv.wp_1, Dv.wp_2, Dv.wp_3, Dv.wp_4, Dv.wp_5, true_and, and_true, and_self, Option.bind_some, List.set_cons_succ, List.set_cons_zero, List.getElem?_cons_zero, List.getElem?_cons_succ, decide_eq_true_eq, Bool.not_eq_true', decide_eq_false_iff_not, not_true_eq_false, not_false_eq_true, decide_true, decide_false, Bool.false_eq_true, if_true, if_false, List.map_cons, List.map_nil, List.length_cons, List.length_nil, List.cons_append, List.nil_append, Nat.zero_add, beq_self_eq_true, Bool.not_true, Bool.not_false, Nat.reduceAdd, Nat.reduceSub, Int.reduceEq, Nat.reduceLeDiff, Dv.env0, List.replicate, Dv.c_seq, Dv.c_if]
    have hm1 := S2.at hm O1
    have O2 := S2.off hm O1
    refine lc_of (fun hp => ?_) (fun hp => ?_)
    · simp only [Dv.wp_0, Dv.wp_1, Dv.wp_2, Dv.wp_3, Dv.wp_4, Dv.wp_5, true_and, and_true, and_self, Option.bind_some, List.set_cons_succ, List.set_cons_zero, List.getElem?_cons_zero, List.getElem?_cons_succ, decide_eq_true_eq, Bool.not_eq_true', decide_eq_false_iff_not, not_true_eq_false, not_false_eq_true, decide_true, decide_false, Bool.false_eq_true, if_true, if_false, List.map_cons, List.map_nil, List.length_cons, List.length_nil, List.cons_append, List.nil_append, Nat.zero_add, beq_self_eq_true, Bool.not_true, Bool.not_false, Nat.reduceAdd, Nat.reduceSub, Int.reduceEq, Nat.reduceLeDiff, Dv.env0, List.replicate, Dv.c_seq, Dv.c_if, e3]
      refine ⟨hm1, by simp; omega, cs ++ [i], by simp [natD], by simp; omega, fun c h => (List.mem_append.mp h).elim (hc c) (fun h => by rw [List.mem_singleton] at h; omega), P2.put O2, (S1.trans S2).put (Nat.le_refl _), O2.set O2.1⟩
    · exact ⟨hm1, cs, rfl, by omega, hc, P2, S1.trans S2, O2⟩
  · rintro _ m ⟨cs, rfl, hl, hc, P1, S1, O1⟩ hm
    rw [len_rng] at hl
    exact k cs m (by omega) hc P1 S1 hm O1
theorem bit_in {L k at' : Nat} (h : at' < k) (hk : k ≤ 2) (hL : L < 2 ^ k) : ∃ (v w : Nat), (L : Int).fdiv (1 + (at' : Int)) = (v : Int) ∧ (v : Int).fmod 2 = (w : Int) ∧ (w = 0 ∧ L + (1 + at') < 2 ^ k ∨ w = 1 ∧ 1 + at' ≤ L) := by
  have e1 : (L : Int).fdiv (1 + (at' : Int)) = ((L / (1 + at') : Nat) : Int) := by
    rw [Int.fdiv_eq_ediv_of_nonneg _ (by omega)]; simp
  have e2 : (((L / (1 + at') : Nat) : Int)).fmod 2 = ((L / (1 + at') % 2 : Nat) : Int) := by
    rw [Int.fmod_eq_emod_of_nonneg _ (by omega)]; simp
  refine ⟨_, _, e1, e2, ?_⟩
  rcases (by omega : (k = 1 ∧ at' = 0) ∨ (k = 2 ∧ at' = 0) ∨ (k = 2 ∧ at' = 1)) with ⟨rfl, rfl⟩ | ⟨rfl, rfl⟩ | ⟨rfl, rfl⟩ <;> simp only [Nat.reducePow] at hL ⊢ <;> omega
theorem by_rows {μ : Mem} {rows letters : Nat} (P : Pool μ p) (r1 : 2 ≤ rows) (hr : rows ≤ 4) (l1 : 1 ≤ letters) (l2 : letters ≤ 2) :
    (g__law_by_rows [.cell p, .int rows, .int letters] μ).wp (TabPost p μ ((letters + 1) ^ rows - 1)) noX := by
  have hsm := small_pow (letters := letters) l2 hr
  have hpos : 1 ≤ (letters + 1) ^ rows := Nat.one_le_pow _ _ (by omega)
  unfold g__law_by_rows b__law_by_rows
  refine body_wp ?_
  (rw [Dv.c_seq]; simp only [Dv.wp_0, Dv.wp_1, Dv.wp_2, Dv.wp_3, Dv.wp_4, Dv.wp_5, true_and, and_true, and_self, Option.bind_some, List.set_cons_succ, List.set_cons_zero, List.getElem?_cons_zero, List.getElem?_cons_succ, decide_eq_true_eq, Bool.not_eq_true', decide_eq_false_iff_not, not_true_eq_false, not_false_eq_true, decide_true, decide_false, Bool.false_eq_true, if_true, if_false, List.map_cons, List.map_nil, List.length_cons, List.length_nil, List.cons_append, List.nil_append, Nat.zero_add, beq_self_eq_true, Bool.not_true, Bool.not_false, Nat.reduceAdd, Nat.reduceSub, Int.reduceEq, Nat.reduceLeDiff, Dv.env0, List.replicate, Dv.c_if])
  refine counted P hr rfl (fun _ => rfl) (fun _ => rfl) fun cs0 m1 hl0 hc0 P1 S1 h1 O1 => ?_
  simp only [Dv.wp_0, Dv.wp_1, Dv.wp_2, Dv.wp_3, Dv.wp_4, Dv.wp_5, true_and, and_true, and_self, Option.bind_some, List.set_cons_succ, List.set_cons_zero, List.getElem?_cons_zero, List.getElem?_cons_succ, decide_eq_true_eq, Bool.not_eq_true', decide_eq_false_iff_not, not_true_eq_false, not_false_eq_true, decide_true, decide_false, Bool.false_eq_true, if_true, if_false, List.map_cons, List.map_nil, List.length_cons, List.length_nil, List.cons_append, List.nil_append, Nat.zero_add, beq_self_eq_true, Bool.not_true, Bool.not_false, Nat.reduceAdd, Nat.reduceSub, Int.reduceEq, Nat.reduceLeDiff, Dv.env0, List.replicate, Dv.c_seq, Dv.c_if, sl_cell h1, cut2]
  generalize hcs : cs0.take 2 = cs
  have hl : cs.length ≤ 2 := by rw [← hcs, List.length_take]; omega
  have hc : ∀ c ∈ cs, c < rows := by rw [← hcs]; exact fun c h => hc0 c (List.mem_of_mem_take h)
  have ecs : (cs0.map natD).take 2 = cs.map natD := by rw [← hcs, List.map_take]
  rw [ecs]
  have P2 : Pool (m1 ++ [C.lst (cs.map natD)]) p := P1.app
  have S2 : Stp p μ (m1 ++ [C.lst (cs.map natD)]) := S1.app
  have O2 : Off (m1 ++ [C.lst (cs.map natD)]) p m1.length := (P1.off (Nat.le_refl _)).app P1.lt
  have h2 : (m1 ++ [C.lst (cs.map natD)])[m1.length]? = some (.lst (cs.map natD)) := by simp
  generalize m1.length = nc at *
  generalize (m1 ++ [C.lst (cs.map natD)]) = m2 at *
  clear hcs ecs hc0 hl0 h1 O1 cs0
  have hnc := (List.getElem?_eq_some_iff.mp h2).1
  obtain ⟨zs, z1, z3, ez⟩ : ∃ zs : List Str, 0 < zs.length ∧ zs.length ≤ 3 ∧ Dv.cutD [D.str "a", D.str "ab", D.str "b"] none (some (2 * (letters : Int) - 1)) = zs.map D.str := by
    rcases (by omega : letters = 1 ∨ letters = 2) with rfl | rfl
    · exact ⟨["a"], by simp, by simp, rfl⟩
    · exact ⟨["a", "ab", "b"], by simp, by simp, rfl⟩
  simp only [Dv.wp_0, Dv.wp_1, Dv.wp_2, Dv.wp_3, Dv.wp_4, Dv.wp_5, true_and, and_true, and_self, Option.bind_some, List.set_cons_succ, List.set_cons_zero, List.getElem?_cons_zero, List.getElem?_cons_succ, decide_eq_true_eq, Bool.not_eq_true', decide_eq_false_iff_not, not_true_eq_false, not_false_eq_true, decide_true, decide_false, Bool.false_eq_true, if_true, if_false, List.map_cons, List.map_nil, List.length_cons, List.length_nil, List.cons_append, List.nil_append, Nat.zero_add, beq_self_eq_true, Bool.not_true, Bool.not_false, Nat.reduceAdd, Nat.reduceSub, Int.reduceEq, Nat.reduceLeDiff, Dv.env0, List.replicate, Dv.c_seq, Dv.c_if, mulL (i := 2) (.inl ⟨by decide, by decide⟩), sl_cell (new_at (μ := m2) (l := [])), ez]
  have P3 : Pool (m2 ++ [C.lst [D.str "a", D.str "ab", D.str "b"]]) p := P2.app
  refine pick (P3.app (l := [.lst (zs.map D.str)])) (new_at (l := [])) ((P3.off (Nat.le_refl _)).app P3.lt) (by simpa using z1) (by simp; omega) fun d m3 hd P4 S4 => ?_
  obtain ⟨z, _, rfl⟩ := List.mem_map.mp hd
  have S5 : Stp p m2 m3 := (Stp.refl P2.lt).app.app.trans S4
  have h5 := S5.at h2 O2
  have O5 := S5.off h2 O2
  have hmany : ∀ (m : Mem) (n : Nat), m[n]? = some (.lst [.int 1, .int 2, .int 4]) → ixD (.cell n) (.int (cs.length : Int)) m = .ok (.int ((2 ^ cs.length : Nat) : Int)) m := by
    intro m n h
    refine ix_of h ?_
    rcases (by omega : cs.length = 0 ∨ cs.length = 1 ∨ cs.length = 2) with e | e | e <;> rw [e] <;> simp
  simp only [Dv.wp_0, Dv.wp_1, Dv.wp_2, Dv.wp_3, Dv.wp_4, Dv.wp_5, true_and, and_true, and_self, Option.bind_some, List.set_cons_succ, List.set_cons_zero, List.getElem?_cons_zero, List.getElem?_cons_succ, decide_eq_true_eq, Bool.not_eq_true', decide_eq_false_iff_not, not_true_eq_false, not_false_eq_true, decide_true, decide_false, Bool.false_eq_true, if_true, if_false, List.map_cons, List.map_nil, List.length_cons, List.length_nil, List.cons_append, List.nil_append, Nat.zero_add, beq_self_eq_true, Bool.not_true, Bool.not_false, Nat.reduceAdd, Nat.reduceSub, Int.reduceEq, Nat.reduceLeDiff, Dv.env0, List.replicate, Dv.c_seq, Dv.c_if, len_cell (app_get h5), List.length_map, hmany _ _ (new_at (μ := m3) (l := []))]
  generalize hmn : 2 ^ cs.length = many
  have hm1 : 1 ≤ many := by rw [← hmn]; exact Nat.one_le_pow _ _ (by omega)
  have hm4 : many ≤ 4 := by rw [← hmn]; exact Nat.pow_le_pow_right (by omega) hl
  have P6 : Pool (m3 ++ [C.lst [D.int 1, D.int 2, D.int 4]]) p := P4.app
  have S6 : Stp p m3 (m3 ++ [C.lst [D.int 1, D.int 2, D.int 4]]) := (Stp.refl P4.lt).app
  have h6 := S6.at h5 O5
  have O6 := S6.off h5 O5
  have hnc6 := (List.getElem?_eq_some_iff.mp h6).1
  have S7 : Stp p μ (m3 ++ [C.lst [D.int 1, D.int 2, D.int 4]]) := (S2.trans S5).trans S6
  generalize (m3 ++ [C.lst [D.int 1, D.int 2, D.int 4]]) = m4 at *
  simp only [Dv.wp_0, Dv.wp_1, Dv.wp_2, Dv.wp_3, Dv.wp_4, Dv.wp_5, true_and, and_true, and_self, Option.bind_some, List.set_cons_succ, List.set_cons_zero, List.getElem?_cons_zero, List.getElem?_cons_succ, decide_eq_true_eq, Bool.not_eq_true', decide_eq_false_iff_not, not_true_eq_false, not_false_eq_true, decide_true, decide_false, Bool.false_eq_true, if_true, if_false, List.map_cons, List.map_nil, List.length_cons, List.length_nil, List.cons_append, List.nil_append, Nat.zero_add, beq_self_eq_true, Bool.not_true, Bool.not_false, Nat.reduceAdd, Nat.reduceSub, Int.reduceEq, Nat.reduceLeDiff, Dv.env0, List.replicate, Dv.c_seq, Dv.c_if, c_iRng11 (j := (many : Int)) (by omega) (by omega), Int.toNat_natCast]
  refine for_wp (fun i e m => ∃ (T : List (Bool × List Nat)) (x1 x2 x3 x4 x5 x6 : Option D), e = [some (.cell p), some (.int rows), some (.int letters), x6, some (.cell nc), some (.str z), some (.int many), some (.cell m4.length), x1, x2, x3, x4, x5] ∧ Pool m p ∧ Stp p m4 m ∧ Off m p m4.length ∧ Off m p nc ∧ m[nc]? = some (.lst (cs.map natD)) ∧ T.length = i ∧ Rows ((letters + 1) ^ rows - 1) many T ∧ m[m4.length]? = some (.lst (T.map rowD))) (fun _ _ _ _ => gok_nil) ?_ ?_ ?_
  · exact ⟨[], _, _, _, _, _, _, rfl, P6.app, (Stp.refl P6.lt).app, (P6.off (Nat.le_refl _)).app P6.lt, O6.app P6.lt, app_get h6, rfl, (fun _ h => nomatch h), new_at (l := [])⟩
  · rintro i x _ m hx ⟨T, x1, x2, x3, x4, x5, x6, rfl, P7, S7', O7, O7c, hc7, hT, R7, hm⟩
    have hi := (List.getElem?_eq_some_iff.mp hx).1
    rw [len_rng] at hi
    have hxv : x = .int (i : Int) := by
      rw [rngD_nat, List.getElem?_map] at hx
      obtain ⟨y, hy, rfl⟩ := Option.map_eq_some_iff.mp hx
      rw [List.getElem?_range hi] at hy
      cases hy; rfl
    subst hxv
    simp only [Dv.wp_0, Dv.wp_1, Dv.wp_2, Dv.wp_3, Dv.wp_4, Dv.wp_5, true_and, and_true, and_self, Option.bind_some, List.set_cons_succ, List.set_cons_zero, List.getElem?_cons_zero, List.getElem?_cons_succ, decide_eq_true_eq, Bool.not_eq_true', decide_eq_false_iff_not, not_true_eq_false, not_false_eq_true, decide_true, decide_false, Bool.false_eq_true, if_true, if_false, List.map_cons, List.map_nil, List.length_cons, List.length_nil, List.cons_append, List.nil_append, Nat.zero_add, beq_self_eq_true, Bool.not_true, Bool.not_false, Nat.reduceAdd, Nat.reduceSub, Int.reduceEq, Nat.reduceLeDiff, Dv.env0, List.replicate, Dv.c_seq, Dv.c_if]
    refine columns hr l1 l2 fun n m8 g8 hn h8 => ?_
    have hcol : (m8 ++ [C.lst (((colsN letters rows).map colD).drop 1)])[m8.length]? = some (.lst (((colsN letters rows).map colD).drop 1)) := new_at (l := [])
    have gA : Gr (m ++ [C.lst []]) (m8 ++ [C.lst (((colsN letters rows).map colD).drop 1)]) := g8.app
    have hN0 : (m8 ++ [C.lst (((colsN letters rows).map colD).drop 1)])[m.length]? = some (.lst []) := gA.at (new_at (l := []))
    have gB : Gr m (m8 ++ [C.lst (((colsN letters rows).map colD).drop 1)]) := Gr.refl.app.trans gA
    have lt8 := g8.len
    have ltc := (List.getElem?_eq_some_iff.mp hc7).1
    have ltT := (List.getElem?_eq_some_iff.mp hm).1
    rw [List.length_append] at lt8
    simp only [List.length_cons, List.length_nil] at lt8
    simp only [Dv.wp_0, Dv.wp_1, Dv.wp_2, Dv.wp_3, Dv.wp_4, Dv.wp_5, true_and, and_true, and_self, Option.bind_some, List.set_cons_succ, List.set_cons_zero, List.getElem?_cons_zero, List.getElem?_cons_succ, decide_eq_true_eq, Bool.not_eq_true', decide_eq_false_iff_not, not_true_eq_false, not_false_eq_true, decide_true, decide_false, Bool.false_eq_true, if_true, if_false, List.map_cons, List.map_nil, List.length_cons, List.length_nil, List.cons_append, List.nil_append, Nat.zero_add, beq_self_eq_true, Bool.not_true, Bool.not_false, Nat.reduceAdd, Nat.reduceSub, Int.reduceEq, Nat.reduceLeDiff, Dv.env0, List.replicate, Dv.c_seq, Dv.c_if, sl_cell h8, cut1', c_iLst1 hcol]
    generalize (m8 ++ [C.lst (((colsN letters rows).map colD).drop 1)]) = m9 at *
    refine for_wp (fun j e m' => ∃ (ns : List Nat) (y1 y2 y3 y4 : Option D), e = [some (.cell p), some (.int rows), some (.int letters), y4, some (.cell nc), some (.str z), some (.int many), some (.cell m4.length), some (.int i), some (.cell m.length), y1, y2, y3] ∧ Gr m m' ∧ m'[m8.length]? = some (.lst (((colsN letters rows).map colD).drop 1)) ∧ ns.length = j ∧ (∀ i ∈ ns, i < many) ∧ m'[m.length]? = some (.lst (ns.map natD))) ?_ ?_ ?_ ?_
    · rintro j e m' ⟨ns, y1, y2, y3, y4, rfl, g, hg, _⟩
      rw [gok_one]; exact hg
    · exact ⟨[], _, _, _, _, rfl, gB, hcol, rfl, (fun _ h => nomatch h), hN0⟩
    · rintro j x _ m' hx ⟨ns, y1, y2, y3, y4, rfl, g, hg, hns, hb, hm'⟩
      have hj := (List.getElem?_eq_some_iff.mp hx).1
      rw [List.length_drop, List.length_map, colsN_len] at hj
      rw [← List.map_drop, List.getElem?_map] at hx
      obtain ⟨col, hcl, rfl⟩ := Option.map_eq_some_iff.mp hx
      obtain ⟨q1, q2⟩ := colsN_mem _ col (List.mem_of_mem_drop (List.mem_of_getElem? hcl))
      have hcm := g.at hc7
      rw [g_nm]
      (rw [Dv.c_seq]; simp only [Dv.wp_0, Dv.wp_1, Dv.wp_2, Dv.wp_3, Dv.wp_4, Dv.wp_5, true_and, and_true, and_self, Option.bind_some, List.set_cons_succ, List.set_cons_zero, List.getElem?_cons_zero, List.getElem?_cons_succ, decide_eq_true_eq, Bool.not_eq_true', decide_eq_false_iff_not, not_true_eq_false, not_false_eq_true, decide_true, decide_false, Bool.false_eq_true, if_true, if_false, List.map_cons, List.map_nil, List.length_cons, List.length_nil, List.cons_append, List.nil_append, Nat.zero_add, beq_self_eq_true, Bool.not_true, Bool.not_false, Nat.reduceAdd, Nat.reduceSub, Int.reduceEq, Nat.reduceLeDiff, Dv.env0, List.replicate, Dv.c_if])
      refine cut (fun e m2' => ∃ (L : Nat) (y3 y4 : Option D), e = [some (.cell p), some (.int rows), some (.int letters), y4, some (.cell nc), some (.str z), some (.int many), some (.cell m4.length), some (.int i), some (.cell m.length), some (colD col), some (natD L), y3] ∧ L < many ∧ Gr m' m2') ?_ ?_
      · simp only [Dv.wp_0, Dv.wp_1, Dv.wp_2, Dv.wp_3, Dv.wp_4, Dv.wp_5, true_and, and_true, and_self, Option.bind_some, List.set_cons_succ, List.set_cons_zero, List.getElem?_cons_zero, List.getElem?_cons_succ, decide_eq_true_eq, Bool.not_eq_true', decide_eq_false_iff_not, not_true_eq_false, not_false_eq_true, decide_true, decide_false, Bool.false_eq_true, if_true, if_false, List.map_cons, List.map_nil, List.length_cons, List.length_nil, List.cons_append, List.nil_append, Nat.zero_add, beq_self_eq_true, Bool.not_true, Bool.not_false, Nat.reduceAdd, Nat.reduceSub, Int.reduceEq, Nat.reduceLeDiff, Dv.env0, List.replicate, Dv.c_seq, Dv.c_if, c_iEnum1 hcm, enum_nat]
        refine for_wp (fun t e m2' => ∃ (L : Nat) (y3 y4 : Option D), e = [some (.cell p), some (.int rows), some (.int letters), y4, some (.cell nc), some (.str z), some (.int many), some (.cell m4.length), some (.int i), some (.cell m.length), some (colD col), some (natD L), y3] ∧ L < many ∧ Gr m' m2') ?_ ?_ ?_ ?_
        · rintro t e m2' ⟨L, y3, y4, rfl, hL, gg⟩
          rw [gok_one]; exact gg.at hcm
        · exact ⟨i, _, _, rfl, hi, Gr.refl⟩
        · rintro t x _ m2' hx ⟨L, y3, y4, rfl, hL, gg⟩
          rw [List.getElem?_map] at hx
          obtain ⟨q, hq, rfl⟩ := Option.map_eq_some_iff.mp hx
          rw [List.getElem?_zipIdx] at hq
          obtain ⟨cv, hcv, rfl⟩ := Option.map_eq_some_iff.mp hq
          have ht := (List.getElem?_eq_some_iff.mp hcv).1
          have hrow : cv < col.length := by rw [q1]; exact hc _ (List.mem_of_getElem? hcv)
          obtain ⟨b, hbb⟩ := in_sign (s := col[cv]) (z := z) (μ := m2')
          obtain ⟨v, w, e1, e2, hw⟩ := bit_in (L := L) (k := cs.length) ht hl (by rw [hmn]; exact hL)
          rw [hmn] at hw
          simp only [Dv.wp_0, Dv.wp_1, Dv.wp_2, Dv.wp_3, Dv.wp_4, Dv.wp_5, true_and, and_true, and_self, Option.bind_some, List.set_cons_succ, List.set_cons_zero, List.getElem?_cons_zero, List.getElem?_cons_succ, decide_eq_true_eq, Bool.not_eq_true', decide_eq_false_iff_not, not_true_eq_false, not_false_eq_true, decide_true, decide_false, Bool.false_eq_true, if_true, if_false, List.map_cons, List.map_nil, List.length_cons, List.length_nil, List.cons_append, List.nil_append, Nat.zero_add, beq_self_eq_true, Bool.not_true, Bool.not_false, Nat.reduceAdd, Nat.reduceSub, Int.reduceEq, Nat.reduceLeDiff, Dv.env0, List.replicate, Dv.c_seq, Dv.c_if, natD, colD, at_sgnD hrow, hbb]
          cases b with
          | false =>
            simp only [Dv.wp_0, Dv.wp_1, Dv.wp_2, Dv.wp_3, Dv.wp_4, Dv.wp_5, true_and, and_true, and_self, Option.bind_some, List.set_cons_succ, List.set_cons_zero, List.getElem?_cons_zero, List.getElem?_cons_succ, decide_eq_true_eq, Bool.not_eq_true', decide_eq_false_iff_not, not_true_eq_false, not_false_eq_true, decide_true, decide_false, Bool.false_eq_true, if_true, if_false, List.map_cons, List.map_nil, List.length_cons, List.length_nil, List.cons_append, List.nil_append, Nat.zero_add, beq_self_eq_true, Bool.not_true, Bool.not_false, Nat.reduceAdd, Nat.reduceSub, Int.reduceEq, Nat.reduceLeDiff, Dv.env0, List.replicate, Dv.c_seq, Dv.c_if]
            exact ⟨L, _, _, rfl, hL, gg⟩
          | true =>
            have ePM : ∀ (m : Mem) (n : Nat), m[n]? = some (.lst [.int 1, .int (-1)]) → ixD (.cell n) (.int (w : Int)) m = .ok (.int (if w = 0 then 1 else -1)) m := by
              intro m n h
              refine ix_of h ?_
              rcases hw with ⟨rfl, _⟩ | ⟨rfl, _⟩ <;> simp
            simp only [Dv.wp_0, Dv.wp_1, Dv.wp_2, Dv.wp_3, Dv.wp_4, Dv.wp_5, true_and, and_true, and_self, Option.bind_some, List.set_cons_succ, List.set_cons_zero, List.getElem?_cons_zero, List.getElem?_cons_succ, decide_eq_true_eq, Bool.not_eq_true', decide_eq_false_iff_not, not_true_eq_false, not_false_eq_true, decide_true, decide_false, Bool.false_eq_true, if_true, if_false, List.map_cons, List.map_nil, List.length_cons, List.length_nil, List.cons_append, List.nil_append, Nat.zero_add, beq_self_eq_true, Bool.not_true, Bool.not_false, Nat.reduceAdd, Nat.reduceSub, Int.reduceEq, Nat.reduceLeDiff, Dv.env0, List.replicate, Dv.c_seq, Dv.c_if, dNeg, fdivL (i := (L : Int)) (j := 1 + (t : Int)) ⟨by omega, by omega⟩, e1, modL (i := (v : Int)) (j := 2) (by decide), e2, ePM _ _ (new_at (μ := m2') (l := [])), mulL (i := if w = 0 then 1 else -1) (j := 1 + (t : Int)) (.inr ⟨by omega, by omega⟩)]
            rcases hw with ⟨rfl, hw⟩ | ⟨rfl, hw⟩
            · have e : (L : Int) + (if (0 : Nat) = 0 then 1 else -1) * (1 + (t : Int)) = ((L + (1 + t) : Nat) : Int) := by rw [if_pos rfl]; omega
              rw [e]
              exact ⟨L + (1 + t), _, _, rfl, by omega, gg.app⟩
            · have e : (L : Int) + (if (1 : Nat) = 0 then 1 else -1) * (1 + (t : Int)) = ((L - (1 + t) : Nat) : Int) := by rw [if_neg (by omega)]; omega
              rw [e]
              exact ⟨L - (1 + t), _, _, rfl, by omega, gg.app⟩
        · rintro _ m2' ⟨L, y3, y4, rfl, hL, gg⟩
          exact ⟨L, _, _, rfl, hL, gg⟩
      · rintro _ m2' ⟨L, y3, y4, rfl, hL, gg⟩
        simp only [Dv.wp_0, Dv.wp_1, Dv.wp_2, Dv.wp_3, Dv.wp_4, Dv.wp_5, true_and, and_true, and_self, Option.bind_some, List.set_cons_succ, List.set_cons_zero, List.getElem?_cons_zero, List.getElem?_cons_succ, decide_eq_true_eq, Bool.not_eq_true', decide_eq_false_iff_not, not_true_eq_false, not_false_eq_true, decide_true, decide_false, Bool.false_eq_true, if_true, if_false, List.map_cons, List.map_nil, List.length_cons, List.length_nil, List.cons_append, List.nil_append, Nat.zero_add, beq_self_eq_true, Bool.not_true, Bool.not_false, Nat.reduceAdd, Nat.reduceSub, Int.reduceEq, Nat.reduceLeDiff, Dv.env0, List.replicate, Dv.c_seq, Dv.c_if, tyL (gg.at hm')]
        refine append_wp (gg.at hm') (by simp; omega) ?_
        simp only [Dv.wp_0, Dv.wp_1, Dv.wp_2, Dv.wp_3, Dv.wp_4, Dv.wp_5, true_and, and_true, and_self, Option.bind_some, List.set_cons_succ, List.set_cons_zero, List.getElem?_cons_zero, List.getElem?_cons_succ, decide_eq_true_eq, Bool.not_eq_true', decide_eq_false_iff_not, not_true_eq_false, not_false_eq_true, decide_true, decide_false, Bool.false_eq_true, if_true, if_false, List.map_cons, List.map_nil, List.length_cons, List.length_nil, List.cons_append, List.nil_append, Nat.zero_add, beq_self_eq_true, Bool.not_true, Bool.not_false, Nat.reduceAdd, Nat.reduceSub, Int.reduceEq, Nat.reduceLeDiff, Dv.env0, List.replicate, Dv.c_seq, Dv.c_if]
        exact ⟨ns ++ [L], _, _, _, _, rfl, (g.trans gg).set (Nat.le_refl _), get_set' (gg.at hg) (by omega), by simp [hns], fun j hj => (List.mem_append.mp hj).elim (hb j) (fun h => by rw [List.mem_singleton] at h; omega), by rw [get_set (gg.at hm')]; simp⟩
    · rintro _ m' ⟨ns, y1, y2, y3, y4, rfl, g, hg, hns, hb, hm'⟩
      rw [List.length_drop, List.length_map, colsN_len] at hns
      have P9 := g.pool P7
      have S9 := g.stp (n := p) P7.lt
      have O9 := S9.off hm O7
      have hm9 := S9.at hm O7
      have hc9 := S9.at hc7 O7c
      have O9c := S9.off hc7 O7c
      have ON : Off m' p m.length := by obtain ⟨k, rfl⟩ := g; exact (P7.off (Nat.le_refl _)).app P7.lt
      have ne : m4.length ≠ nc := by omega
      simp only [Dv.wp_0, Dv.wp_1, Dv.wp_2, Dv.wp_3, Dv.wp_4, Dv.wp_5, true_and, and_true, and_self, Option.bind_some, List.set_cons_succ, List.set_cons_zero, List.getElem?_cons_zero, List.getElem?_cons_succ, decide_eq_true_eq, Bool.not_eq_true', decide_eq_false_iff_not, not_true_eq_false, not_false_eq_true, decide_true, decide_false, Bool.false_eq_true, if_true, if_false, List.map_cons, List.map_nil, List.length_cons, List.length_nil, List.cons_append, List.nil_append, Nat.zero_add, beq_self_eq_true, Bool.not_true, Bool.not_false, Nat.reduceAdd, Nat.reduceSub, Int.reduceEq, Nat.reduceLeDiff, Dv.env0, List.replicate, Dv.c_seq, Dv.c_if, tyL hm9]
      refine draw P9 (by omega) (by omega) fun r3 m11 q2 q3 P11 S11 => ?_
      simp only [Dv.wp_0, Dv.wp_1, Dv.wp_2, Dv.wp_3, Dv.wp_4, Dv.wp_5, true_and, and_true, and_self, Option.bind_some, List.set_cons_succ, List.set_cons_zero, List.getElem?_cons_zero, List.getElem?_cons_succ, decide_eq_true_eq, Bool.not_eq_true', decide_eq_false_iff_not, not_true_eq_false, not_false_eq_true, decide_true, decide_false, Bool.false_eq_true, if_true, if_false, List.map_cons, List.map_nil, List.length_cons, List.length_nil, List.cons_append, List.nil_append, Nat.zero_add, beq_self_eq_true, Bool.not_true, Bool.not_false, Nat.reduceAdd, Nat.reduceSub, Int.reduceEq, Nat.reduceLeDiff, Dv.env0, List.replicate, Dv.c_seq, Dv.c_if, tupOf_cell (S11.at hm' ON)]
      refine append_wp (S11.at hm9 O9) (by simp; omega) ?_
      simp only [Dv.wp_0, Dv.wp_1, Dv.wp_2, Dv.wp_3, Dv.wp_4, Dv.wp_5, true_and, and_true, and_self, Option.bind_some, List.set_cons_succ, List.set_cons_zero, List.getElem?_cons_zero, List.getElem?_cons_succ, decide_eq_true_eq, Bool.not_eq_true', decide_eq_false_iff_not, not_true_eq_false, not_false_eq_true, decide_true, decide_false, Bool.false_eq_true, if_true, if_false, List.map_cons, List.map_nil, List.length_cons, List.length_nil, List.cons_append, List.nil_append, Nat.zero_add, beq_self_eq_true, Bool.not_true, Bool.not_false, Nat.reduceAdd, Nat.reduceSub, Int.reduceEq, Nat.reduceLeDiff, Dv.env0, List.replicate, Dv.c_seq, Dv.c_if]
      refine ⟨T ++ [(decide (r3 = 0), ns)], _, _, _, _, _, _, rfl, P11.put (S11.off hm9 O9), ((S7'.trans S9).trans S11).put (Nat.le_refl _), (S11.off hm9 O9).set O7.1, (S11.off hc9 O9c).set O7.1, get_set' (S11.at hc9 O9c) ne, by simp [hT], R7.snoc hns hb, ?_⟩
      rw [get_set (S11.at hm9 O9)]
      simp [rowD, natD]
  · rintro _ m ⟨T, x1, x2, x3, x4, x5, x6, rfl, P7, S7', O7, O7c, hc7, hT, R7, hm⟩
    rw [len_rng] at hT
    simp only [Dv.wp_0, Dv.wp_1, Dv.wp_2, Dv.wp_3, Dv.wp_4, Dv.wp_5, true_and, and_true, and_self, Option.bind_some, List.set_cons_succ, List.set_cons_zero, List.getElem?_cons_zero, List.getElem?_cons_succ, decide_eq_true_eq, Bool.not_eq_true', decide_eq_false_iff_not, not_true_eq_false, not_false_eq_true, decide_true, decide_false, Bool.false_eq_true, if_true, if_false, List.map_cons, List.map_nil, List.length_cons, List.length_nil, List.cons_append, List.nil_append, Nat.zero_add, beq_self_eq_true, Bool.not_true, Bool.not_false, Nat.reduceAdd, Nat.reduceSub, Int.reduceEq, Nat.reduceLeDiff, Dv.env0, List.replicate, Dv.c_seq, Dv.c_if]
    exact ⟨_, T, rfl, ⟨by omega, by omega, by rw [hT]; exact R7⟩, P7, S7.trans S7', hm⟩
end
end Law

set_option maxRecDepth 100000
set_option maxHeartbeats 4000000
namespace Law
open PySem PySem.Spec PyProof.Rows L2 Dv
structure IsSpec (d : D) (rows letters : Nat) (T : List (Bool × List Nat)) : Prop where
  e : d = .tup [.int rows, .int letters, .tup (T.map rowD)]
  r2 : 2 ≤ rows
  r4 : rows ≤ 4
  l1 : 1 ≤ letters
  l2 : letters ≤ 2
  tab : IsTab ((letters + 1) ^ rows - 1) T
def SpecPost (p : Nat) (μ : Mem) (d : D) (μ' : Mem) : Prop := ∃ rows letters T, IsSpec d rows letters T ∧ Pool μ' p ∧ Stp p μ μ'
section
variable {p : Nat}
theorem spec {μ : Mem} (P : Pool μ p) : (g__law_spec [.cell p, .int 4] μ).wp (SpecPost p μ) noX := by
  unfold g__law_spec b__law_spec
  refine body_wp ?_
  (rw [Dv.c_seq]; simp only [Dv.wp_0, Dv.wp_1, Dv.wp_2, Dv.wp_3, Dv.wp_4, Dv.wp_5, true_and, and_true, and_self, Option.bind_some, List.set_cons_succ, List.set_cons_zero, List.getElem?_cons_zero, List.getElem?_cons_succ, decide_eq_true_eq, Bool.not_eq_true', decide_eq_false_iff_not, not_true_eq_false, not_false_eq_true, decide_true, decide_false, Bool.false_eq_true, if_true, if_false, List.map_cons, List.map_nil, List.length_cons, List.length_nil, List.cons_append, List.nil_append, Nat.zero_add, beq_self_eq_true, Bool.not_true, Bool.not_false, Nat.reduceAdd, Nat.reduceSub, Int.reduceEq, Nat.reduceLeDiff, Dv.env0, List.replicate, Dv.c_if])
  have P0 : Pool (μ ++ [C.lst [D.int 2, D.int 2, D.int 2, D.int 4]]) p := P.app
  refine pick P0 (new_at (l := [])) ((P.off (Nat.le_refl _)).app P.lt) (by simp) (by simp) fun d m1 hd P1 S1 => ?_
  have S1' : Stp p μ m1 := (Stp.refl P.lt).app.trans S1
  obtain ⟨rows, rfl, r2, r4⟩ : ∃ rows : Nat, d = .int rows ∧ 2 ≤ rows ∧ rows ≤ 4 := by
    simp at hd
    rcases hd with rfl | rfl
    · exact ⟨2, rfl, by omega, by omega⟩
    · exact ⟨4, rfl, by omega, by omega⟩
  simp only [Dv.wp_0, Dv.wp_1, Dv.wp_2, Dv.wp_3, Dv.wp_4, Dv.wp_5, true_and, and_true, and_self, Option.bind_some, List.set_cons_succ, List.set_cons_zero, List.getElem?_cons_zero, List.getElem?_cons_succ, decide_eq_true_eq, Bool.not_eq_true', decide_eq_false_iff_not, not_true_eq_false, not_false_eq_true, decide_true, decide_false, Bool.false_eq_true, if_true, if_false, List.map_cons, List.map_nil, List.length_cons, List.length_nil, List.cons_append, List.nil_append, Nat.zero_add, beq_self_eq_true, Bool.not_true, Bool.not_false, Nat.reduceAdd, Nat.reduceSub, Int.reduceEq, Nat.reduceLeDiff, Dv.env0, List.replicate, Dv.c_if]
  refine cut (fun e m => ∃ letters : Nat, e = [some (.cell p), some (.int 4), some (.int rows), some (.int letters), none, none] ∧ 1 ≤ letters ∧ letters ≤ 2 ∧ Pool m p ∧ Stp p μ m) ?_ ?_
  · by_cases h : (3 : Int) < rows
    · simp only [Dv.wp_0, Dv.wp_1, Dv.wp_2, Dv.wp_3, Dv.wp_4, Dv.wp_5, true_and, and_true, and_self, Option.bind_some, List.set_cons_succ, List.set_cons_zero, List.getElem?_cons_zero, List.getElem?_cons_succ, decide_eq_true_eq, Bool.not_eq_true', decide_eq_false_iff_not, not_true_eq_false, not_false_eq_true, decide_true, decide_false, Bool.false_eq_true, if_true, if_false, List.map_cons, List.map_nil, List.length_cons, List.length_nil, List.cons_append, List.nil_append, Nat.zero_add, beq_self_eq_true, Bool.not_true, Bool.not_false, Nat.reduceAdd, Nat.reduceSub, Int.reduceEq, Nat.reduceLeDiff, Dv.env0, List.replicate, Dv.c_seq, Dv.c_if, h]
      exact ⟨1, rfl, by omega, by omega, P1, S1'⟩
    · simp only [Dv.wp_0, Dv.wp_1, Dv.wp_2, Dv.wp_3, Dv.wp_4, Dv.wp_5, true_and, and_true, and_self, Option.bind_some, List.set_cons_succ, List.set_cons_zero, List.getElem?_cons_zero, List.getElem?_cons_succ, decide_eq_true_eq, Bool.not_eq_true', decide_eq_false_iff_not, not_true_eq_false, not_false_eq_true, decide_true, decide_false, Bool.false_eq_true, if_true, if_false, List.map_cons, List.map_nil, List.length_cons, List.length_nil, List.cons_append, List.nil_append, Nat.zero_add, beq_self_eq_true, Bool.not_true, Bool.not_false, Nat.reduceAdd, Nat.reduceSub, Int.reduceEq, Nat.reduceLeDiff, Dv.env0, List.replicate, Dv.c_seq, Dv.c_if, h]
      refine pick (P1.app (l := [.lst [D.int 1, D.int 1, D.int 2]])) (new_at (l := [])) ((P1.off (Nat.le_refl _)).app P1.lt) (by simp) (by simp) fun d m2 hd P2 S2 => ?_
      have S2' : Stp p μ m2 := S1'.app.trans S2
      simp at hd
      rcases hd with rfl | rfl
      · simp only [Dv.wp_0, Dv.wp_1, Dv.wp_2, Dv.wp_3, Dv.wp_4, Dv.wp_5, true_and, and_true, and_self, Option.bind_some, List.set_cons_succ, List.set_cons_zero, List.getElem?_cons_zero, List.getElem?_cons_succ, decide_eq_true_eq, Bool.not_eq_true', decide_eq_false_iff_not, not_true_eq_false, not_false_eq_true, decide_true, decide_false, Bool.false_eq_true, if_true, if_false, List.map_cons, List.map_nil, List.length_cons, List.length_nil, List.cons_append, List.nil_append, Nat.zero_add, beq_self_eq_true, Bool.not_true, Bool.not_false, Nat.reduceAdd, Nat.reduceSub, Int.reduceEq, Nat.reduceLeDiff, Dv.env0, List.replicate, Dv.c_seq, Dv.c_if]; exact ⟨1, rfl, by omega, by omega, P2, S2'⟩
      · simp only [Dv.wp_0, Dv.wp_1, Dv.wp_2, Dv.wp_3, Dv.wp_4, Dv.wp_5, true_and, and_true, and_self, Option.bind_some, List.set_cons_succ, List.set_cons_zero, List.getElem?_cons_zero, List.getElem?_cons_succ, decide_eq_true_eq, Bool.not_eq_true', decide_eq_false_iff_not, not_true_eq_false, not_false_eq_true, decide_true, decide_false, Bool.false_eq_true, if_true, if_false, List.map_cons, List.map_nil, List.length_cons, List.length_nil, List.cons_append, List.nil_append, Nat.zero_add, beq_self_eq_true, Bool.not_true, Bool.not_false, Nat.reduceAdd, Nat.reduceSub, Int.reduceEq, Nat.reduceLeDiff, Dv.env0, List.replicate, Dv.c_seq, Dv.c_if]; exact ⟨2, rfl, by omega, by omega, P2, S2'⟩
  rintro _ m2 ⟨letters, rfl, l1, l2, P2, S2⟩
  (rw [Dv.c_seq]; simp only [Dv.wp_0, Dv.wp_1, Dv.wp_2, Dv.wp_3, Dv.wp_4, Dv.wp_5, true_and, and_true, and_self, Option.bind_some, List.set_cons_succ, List.set_cons_zero, List.getElem?_cons_zero, List.getElem?_cons_succ, decide_eq_true_eq, Bool.not_eq_true', decide_eq_false_iff_not, not_true_eq_false, not_false_eq_true, decide_true, decide_false, Bool.false_eq_true, if_true, if_false, List.map_cons, List.map_nil, List.length_cons, List.length_nil, List.cons_append, List.nil_append, Nat.zero_add, beq_self_eq_true, Bool.not_true, Bool.not_false, Nat.reduceAdd, Nat.reduceSub, Int.reduceEq, Nat.reduceLeDiff, Dv.env0, List.replicate, Dv.c_if])
  refine draw P2 (by omega) (by omega) fun kind m3 k0 k8 P3 S3 => ?_
  have S3' := S2.trans S3
  simp only [Dv.wp_0, Dv.wp_1, Dv.wp_2, Dv.wp_3, Dv.wp_4, Dv.wp_5, true_and, and_true, and_self, Option.bind_some, List.set_cons_succ, List.set_cons_zero, List.getElem?_cons_zero, List.getElem?_cons_succ, decide_eq_true_eq, Bool.not_eq_true', decide_eq_false_iff_not, not_true_eq_false, not_false_eq_true, decide_true, decide_false, Bool.false_eq_true, if_true, if_false, List.map_cons, List.map_nil, List.length_cons, List.length_nil, List.cons_append, List.nil_append, Nat.zero_add, beq_self_eq_true, Bool.not_true, Bool.not_false, Nat.reduceAdd, Nat.reduceSub, Int.reduceEq, Nat.reduceLeDiff, Dv.env0, List.replicate, Dv.c_if]
  refine cut (fun e m => ∃ n T, e = [some (.cell p), some (.int 4), some (.int rows), some (.int letters), some (.int kind), some (.cell n)] ∧ IsTab ((letters + 1) ^ rows - 1) T ∧ Pool m p ∧ Stp p μ m ∧ m[n]? = some (.lst (T.map rowD))) ?_ ?_
  · by_cases k2 : kind < 2
    · simp only [Dv.wp_0, Dv.wp_1, Dv.wp_2, Dv.wp_3, Dv.wp_4, Dv.wp_5, true_and, and_true, and_self, Option.bind_some, List.set_cons_succ, List.set_cons_zero, List.getElem?_cons_zero, List.getElem?_cons_succ, decide_eq_true_eq, Bool.not_eq_true', decide_eq_false_iff_not, not_true_eq_false, not_false_eq_true, decide_true, decide_false, Bool.false_eq_true, if_true, if_false, List.map_cons, List.map_nil, List.length_cons, List.length_nil, List.cons_append, List.nil_append, Nat.zero_add, beq_self_eq_true, Bool.not_true, Bool.not_false, Nat.reduceAdd, Nat.reduceSub, Int.reduceEq, Nat.reduceLeDiff, Dv.env0, List.replicate, Dv.c_seq, Dv.c_if, k2]
      refine draw P3 (by omega) (by omega) fun r m4 q0 q1 P4 S4 => ?_
      obtain ⟨rn, rfl⟩ := Int.eq_ofNat_of_zero_le q0
      simp only [Dv.wp_0, Dv.wp_1, Dv.wp_2, Dv.wp_3, Dv.wp_4, Dv.wp_5, true_and, and_true, and_self, Option.bind_some, List.set_cons_succ, List.set_cons_zero, List.getElem?_cons_zero, List.getElem?_cons_succ, decide_eq_true_eq, Bool.not_eq_true', decide_eq_false_iff_not, not_true_eq_false, not_false_eq_true, decide_true, decide_false, Bool.false_eq_true, if_true, if_false, List.map_cons, List.map_nil, List.length_cons, List.length_nil, List.cons_append, List.nil_append, Nat.zero_add, beq_self_eq_true, Bool.not_true, Bool.not_false, Nat.reduceAdd, Nat.reduceSub, Int.reduceEq, Nat.reduceLeDiff, Dv.env0, List.replicate, Dv.c_seq, Dv.c_if, show (1 : Int) + (rn : Int) = ((1 + rn : Nat) : Int) by omega]
      refine R.wp.imp0 (drawn_table P4 r4 l1 l2 (by omega) (by omega)) ?_
      rintro _ m5 ⟨n, T, rfl, hT, P5, S5, h5⟩
      exact ⟨n, T, rfl, hT, P5, (S3'.trans S4).trans S5, h5⟩
    by_cases k5 : kind < 5
    · simp only [Dv.wp_0, Dv.wp_1, Dv.wp_2, Dv.wp_3, Dv.wp_4, Dv.wp_5, true_and, and_true, and_self, Option.bind_some, List.set_cons_succ, List.set_cons_zero, List.getElem?_cons_zero, List.getElem?_cons_succ, decide_eq_true_eq, Bool.not_eq_true', decide_eq_false_iff_not, not_true_eq_false, not_false_eq_true, decide_true, decide_false, Bool.false_eq_true, if_true, if_false, List.map_cons, List.map_nil, List.length_cons, List.length_nil, List.cons_append, List.nil_append, Nat.zero_add, beq_self_eq_true, Bool.not_true, Bool.not_false, Nat.reduceAdd, Nat.reduceSub, Int.reduceEq, Nat.reduceLeDiff, Dv.env0, List.replicate, Dv.c_seq, Dv.c_if, k2, k5]
      refine R.wp.imp0 (by_rows P3 r2 r4 l1 l2) ?_
      rintro _ m5 ⟨n, T, rfl, hT, P5, S5, h5⟩
      exact ⟨n, T, rfl, hT, P5, S3'.trans S5, h5⟩
    by_cases k7 : kind < 7
    · simp only [Dv.wp_0, Dv.wp_1, Dv.wp_2, Dv.wp_3, Dv.wp_4, Dv.wp_5, true_and, and_true, and_self, Option.bind_some, List.set_cons_succ, List.set_cons_zero, List.getElem?_cons_zero, List.getElem?_cons_succ, decide_eq_true_eq, Bool.not_eq_true', decide_eq_false_iff_not, not_true_eq_false, not_false_eq_true, decide_true, decide_false, Bool.false_eq_true, if_true, if_false, List.map_cons, List.map_nil, List.length_cons, List.length_nil, List.cons_append, List.nil_append, Nat.zero_add, beq_self_eq_true, Bool.not_true, Bool.not_false, Nat.reduceAdd, Nat.reduceSub, Int.reduceEq, Nat.reduceLeDiff, Dv.env0, List.replicate, Dv.c_seq, Dv.c_if, k2, k5, k7]
      refine R.wp.imp0 (first_signs P3 (by omega) r4 l1 l2) ?_
      rintro _ m5 ⟨n, T, rfl, hT, P5, S5, h5⟩
      exact ⟨n, T, rfl, hT, P5, S3'.trans S5, h5⟩
    · simp only [Dv.wp_0, Dv.wp_1, Dv.wp_2, Dv.wp_3, Dv.wp_4, Dv.wp_5, true_and, and_true, and_self, Option.bind_some, List.set_cons_succ, List.set_cons_zero, List.getElem?_cons_zero, List.getElem?_cons_succ, decide_eq_true_eq, Bool.not_eq_true', decide_eq_false_iff_not, not_true_eq_false, not_false_eq_true, decide_true, decide_false, Bool.false_eq_true, if_true, if_false, List.map_cons, List.map_nil, List.length_cons, List.length_nil, List.cons_append, List.nil_append, Nat.zero_add, beq_self_eq_true, Bool.not_true, Bool.not_false, Nat.reduceAdd, Nat.reduceSub, Int.reduceEq, Nat.reduceLeDiff, Dv.env0, List.replicate, Dv.c_seq, Dv.c_if, k2, k5, k7]
      refine R.wp.imp0 (compared P3 r2 r4 l1 l2) ?_
      rintro _ m5 ⟨n, T, rfl, hT, P5, S5, h5⟩
      exact ⟨n, T, rfl, hT, P5, S3'.trans S5, h5⟩
  · rintro _ m4 ⟨n, T, rfl, hT, P4, S4, h4⟩
    simp only [Dv.wp_0, Dv.wp_1, Dv.wp_2, Dv.wp_3, Dv.wp_4, Dv.wp_5, true_and, and_true, and_self, Option.bind_some, List.set_cons_succ, List.set_cons_zero, List.getElem?_cons_zero, List.getElem?_cons_succ, decide_eq_true_eq, Bool.not_eq_true', decide_eq_false_iff_not, not_true_eq_false, not_false_eq_true, decide_true, decide_false, Bool.false_eq_true, if_true, if_false, List.map_cons, List.map_nil, List.length_cons, List.length_nil, List.cons_append, List.nil_append, Nat.zero_add, beq_self_eq_true, Bool.not_true, Bool.not_false, Nat.reduceAdd, Nat.reduceSub, Int.reduceEq, Nat.reduceLeDiff, Dv.env0, List.replicate, Dv.c_seq, Dv.c_if, tupOf_cell h4]
    exact ⟨rows, letters, T, ⟨rfl, r2, r4, l1, l2, hT⟩, P4, S4⟩
end
end Law

set_option maxRecDepth 100000
set_option maxHeartbeats 4000000
namespace Law
open PySem PySem.Spec PyProof.Rows L2 Dv
/-! ### checks of what is right -/
theorem isi_int {i : Int} {μ : Mem} : dIsi [.int i, .ty "int"] μ = .ok (.bl true) μ := by simp [dIsi, tyN, kb_3]
theorem isi_nb {i : Int} {μ : Mem} : dIsi [.int i, .ty "bool"] μ = .ok (.bl false) μ := by simp [dIsi, tyN, kb_13]
theorem isi_bb {b : Bool} {μ : Mem} : dIsi [.bl b, .ty "bool"] μ = .ok (.bl true) μ := by simp [dIsi, tyN, kb_12]
theorem isi_tt {xs : List D} {μ : Mem} : dIsi [.tup xs, .ty "tuple"] μ = .ok (.bl true) μ := by simp [dIsi, tyN, kb_35]
theorem isi_ss {z : Str} {μ : Mem} : dIsi [.str z, .ty "str"] μ = .ok (.bl true) μ := by simp [dIsi, tyN, kb_24]
theorem integer_ok {i : Int} {μ : Mem} : g_is_integer [.int i] μ = .ok (.bl true) μ := by
  unfold g_is_integer b_is_integer runB
  simp only [Dv.ev_0, Dv.ev_1, Dv.ev_2, Option.bind_some, List.set_cons_succ, List.set_cons_zero, List.getElem?_cons_zero, List.getElem?_cons_succ, decide_true, decide_false, Bool.false_eq_true, if_true, if_false, Dv.env0, List.map_cons, List.map_nil, List.length_cons, List.length_nil, List.replicate, List.cons_append, List.nil_append, Nat.zero_add, Nat.reduceAdd, Nat.reduceSub, beq_self_eq_true, Bool.not_true, Bool.not_false, Int.reduceEq, isi_int, isi_nb, outS_rt]
theorem between_ok {lo hi i : Int} {μ : Mem} (h1 : lo ≤ i) (h2 : i ≤ hi) : g_is_between [.int lo, .int hi, .int i] μ = .ok (.bl true) μ := by
  unfold g_is_between b_is_between runB
  simp only [Dv.ev_0, Dv.ev_1, Dv.ev_2, Option.bind_some, List.set_cons_succ, List.set_cons_zero, List.getElem?_cons_zero, List.getElem?_cons_succ, decide_true, decide_false, Bool.false_eq_true, if_true, if_false, Dv.env0, List.map_cons, List.map_nil, List.length_cons, List.length_nil, List.replicate, List.cons_append, List.nil_append, Nat.zero_add, Nat.reduceAdd, Nat.reduceSub, beq_self_eq_true, Bool.not_true, Bool.not_false, Int.reduceEq, integer_ok, h1, h2, outS_rt]
theorem tuple_ok {xs : List D} {k : Int} {μ : Mem} (h : (xs.length : Int) = k) : g_is_tuple_of [.int k, .tup xs] μ = .ok (.bl true) μ := by
  unfold g_is_tuple_of b_is_tuple_of runB
  simp only [Dv.ev_0, Dv.ev_1, Dv.ev_2, Option.bind_some, List.set_cons_succ, List.set_cons_zero, List.getElem?_cons_zero, List.getElem?_cons_succ, decide_true, decide_false, Bool.false_eq_true, if_true, if_false, Dv.env0, List.map_cons, List.map_nil, List.length_cons, List.length_nil, List.replicate, List.cons_append, List.nil_append, Nat.zero_add, Nat.reduceAdd, Nat.reduceSub, beq_self_eq_true, Bool.not_true, Bool.not_false, Int.reduceEq, isi_tt, h, outS_rt]
theorem table_ok {xs : List D} {k : Int} {μ : Mem} (h1 : 1 ≤ xs.length) (h : (xs.length : Int) ≤ k) : g_is_table [.int k, .tup xs] μ = .ok (.bl true) μ := by
  unfold g_is_table b_is_table runB
  simp only [Dv.ev_0, Dv.ev_1, Dv.ev_2, Option.bind_some, List.set_cons_succ, List.set_cons_zero, List.getElem?_cons_zero, List.getElem?_cons_succ, decide_true, decide_false, Bool.false_eq_true, if_true, if_false, Dv.env0, List.map_cons, List.map_nil, List.length_cons, List.length_nil, List.replicate, List.cons_append, List.nil_append, Nat.zero_add, Nat.reduceAdd, Nat.reduceSub, beq_self_eq_true, Bool.not_true, Bool.not_false, Int.reduceEq, isi_tt, h, show (1 : Int) ≤ (xs.length : Int) by omega, outS_rt]
theorem way_ok {ns : List Nat} {k m : Nat} {μ : Mem} (h : ns.length = k) (hb : ∀ i ∈ ns, i < m) : g_is_way [.int k, .int m, .tup (ns.map natD)] μ = .ok (.bl true) μ := by
  have : (g_is_way [.int k, .int m, .tup (ns.map natD)] μ).wp (fun d m => d = .bl true ∧ m = μ) noX := by
    unfold g_is_way b_is_way
    refine body_wp ?_
    simp only [Dv.wp_0, Dv.wp_1, Dv.wp_2, Dv.wp_3, Dv.wp_4, Dv.wp_5, true_and, and_true, and_self, Option.bind_some, List.set_cons_succ, List.set_cons_zero, List.getElem?_cons_zero, List.getElem?_cons_succ, decide_eq_true_eq, Bool.not_eq_true', decide_eq_false_iff_not, not_true_eq_false, not_false_eq_true, decide_true, decide_false, Bool.false_eq_true, if_true, if_false, List.map_cons, List.map_nil, List.length_cons, List.length_nil, List.cons_append, List.nil_append, Nat.zero_add, beq_self_eq_true, Bool.not_true, Bool.not_false, Nat.reduceAdd, Nat.reduceSub, Int.reduceEq, Nat.reduceLeDiff, Dv.env0, List.replicate, Dv.c_seq, Dv.c_if, tuple_ok (xs := ns.map natD) (k := (k : Int)) (by simp [h])]
    refine for_wp (fun i e m' => m' = μ ∧ ∃ x, e = [some (.int k), some (.int m), some (.tup (ns.map natD)), x]) (fun _ _ _ _ => gok_nil) ⟨rfl, _, rfl⟩ ?_ ?_
    · rintro i x _ m' hx ⟨rfl, y, rfl⟩
      rw [List.getElem?_map] at hx
      obtain ⟨n, hn, rfl⟩ := Option.map_eq_some_iff.mp hx
      have := hb n (List.mem_of_getElem? hn)
      simp only [Dv.wp_0, Dv.wp_1, Dv.wp_2, Dv.wp_3, Dv.wp_4, Dv.wp_5, true_and, and_true, and_self, Option.bind_some, List.set_cons_succ, List.set_cons_zero, List.getElem?_cons_zero, List.getElem?_cons_succ, decide_eq_true_eq, Bool.not_eq_true', decide_eq_false_iff_not, not_true_eq_false, not_false_eq_true, decide_true, decide_false, Bool.false_eq_true, if_true, if_false, List.map_cons, List.map_nil, List.length_cons, List.length_nil, List.cons_append, List.nil_append, Nat.zero_add, beq_self_eq_true, Bool.not_true, Bool.not_false, Nat.reduceAdd, Nat.reduceSub, Int.reduceEq, Nat.reduceLeDiff, Dv.env0, List.replicate, Dv.c_seq, Dv.c_if, natD, between_ok (lo := 0) (hi := (m : Int) - 1) (i := (n : Int)) (by omega) (by omega)]
      exact ⟨_, rfl⟩
    · rintro _ m' ⟨rfl, y, rfl⟩
      simp only [Dv.wp_0, Dv.wp_1, Dv.wp_2, Dv.wp_3, Dv.wp_4, Dv.wp_5, true_and, and_true, and_self, Option.bind_some, List.set_cons_succ, List.set_cons_zero, List.getElem?_cons_zero, List.getElem?_cons_succ, decide_eq_true_eq, Bool.not_eq_true', decide_eq_false_iff_not, not_true_eq_false, not_false_eq_true, decide_true, decide_false, Bool.false_eq_true, if_true, if_false, List.map_cons, List.map_nil, List.length_cons, List.length_nil, List.cons_append, List.nil_append, Nat.zero_add, beq_self_eq_true, Bool.not_true, Bool.not_false, Nat.reduceAdd, Nat.reduceSub, Int.reduceEq, Nat.reduceLeDiff, Dv.env0, List.replicate, Dv.c_seq, Dv.c_if]
  obtain ⟨d, m', e, rfl, rfl⟩ := this.gives
  exact e
/-- the figures of so many rows -/
def figD (c : List Nat) : D := .tup (c.map natD)
def rf4 (rows letters : Nat) (d e : D) : List (Str × D) := [("rows", .int rows), ("letters", .int letters), ("figures", d), ("ended", e)]
theorem sum_cell {μ : Mem} {n : Nat} {ns : List Int} (h : μ[n]? = some (.lst (ns.map .int))) : dSum [.cell n] μ = .ok (.int ns.sum) μ := by
  have e : intsOf (ns.map D.int) = some ns := by
    clear h
    induction ns with
    | nil => rfl
    | cons x xs ih => rw [List.map_cons]; show (intsOf (xs.map .int)).map _ = _; rw [ih]; rfl
  simp only [dSum, onInts, lstOf, h, e]
theorem cpow1 {r : Nat} (h : r ≤ 4) : CPow 1 (r : Int) := by
  rcases (by omega : r = 0 ∨ r = 1 ∨ r = 2 ∨ r = 3 ∨ r = 4) with rfl | rfl | rfl | rfl | rfl <;> exact ⟨by decide, by decide, by decide⟩
def rf2 (rows letters : Nat) : List (Str × D) := [("rows", .int rows), ("letters", .int letters)]
def rf3 (rows letters : Nat) (d : D) : List (Str × D) := [("rows", .int rows), ("letters", .int letters), ("figures", d)]
section
variable {K : PySem.W.Frag} {a : Adr}
theorem many_readings {μ : Mem} {rows letters : Nat} {Q : D → Mem → Prop} {X : Exn → Mem → Prop} (hr : rows ≤ 4) (l1 : 1 ≤ letters) (l2 : letters ≤ 2) (h : ∀ μ', Gr μ μ' → Q (.int (((letters + 1) ^ rows - 1 : Nat) : Int)) μ') : (g_many_readings K a [.int rows, .int letters] μ).wp Q X := by
  have hpos : 1 ≤ (letters + 1) ^ rows := Nat.one_le_pow _ _ (by omega)
  unfold g_many_readings b_many_readings
  refine body_wp ?_
  simp only [Dv.wp_0, Dv.wp_1, Dv.wp_2, Dv.wp_3, Dv.wp_4, Dv.wp_5, true_and, and_true, and_self, Option.bind_some, List.set_cons_succ, List.set_cons_zero, List.getElem?_cons_zero, List.getElem?_cons_succ, decide_eq_true_eq, Bool.not_eq_true', decide_eq_false_iff_not, not_true_eq_false, not_false_eq_true, decide_true, decide_false, Bool.false_eq_true, if_true, if_false, List.map_cons, List.map_nil, List.length_cons, List.length_nil, List.cons_append, List.nil_append, Nat.zero_add, beq_self_eq_true, Bool.not_true, Bool.not_false, Nat.reduceAdd, Nat.reduceSub, Int.reduceEq, Nat.reduceLeDiff, Dv.env0, List.replicate, Dv.c_seq, Dv.c_if]
  unfold g_Readings_M___init__ b_Readings_M___init__
  refine body_wp ?_
  have h0 : (μ ++ [C.ins a.Readings []])[μ.length]? = some (.ins a.Readings []) := new_at (l := [])
  (rw [Dv.c_seq]; simp only [Dv.wp_0, Dv.wp_1, Dv.wp_2, Dv.wp_3, Dv.wp_4, Dv.wp_5, true_and, and_true, and_self, Option.bind_some, List.set_cons_succ, List.set_cons_zero, List.getElem?_cons_zero, List.getElem?_cons_succ, decide_eq_true_eq, Bool.not_eq_true', decide_eq_false_iff_not, not_true_eq_false, not_false_eq_true, decide_true, decide_false, Bool.false_eq_true, if_true, if_false, List.map_cons, List.map_nil, List.length_cons, List.length_nil, List.cons_append, List.nil_append, Nat.zero_add, beq_self_eq_true, Bool.not_true, Bool.not_false, Nat.reduceAdd, Nat.reduceSub, Int.reduceEq, Nat.reduceLeDiff, Dv.env0, List.replicate, Dv.c_if, c_sf2 h0 (by simp), putD])
  have h1 := get_set (c' := C.ins a.Readings [("rows", .int (rows : Int))]) h0
  have g1 : Gr μ ((μ ++ [C.ins a.Readings []]).set μ.length (C.ins a.Readings [("rows", .int (rows : Int))])) := (Gr.refl.app).set (Nat.le_refl _)
  generalize ((μ ++ [C.ins a.Readings []]).set μ.length (C.ins a.Readings [("rows", .int (rows : Int))])) = m1 at *
  (rw [Dv.c_seq]; simp only [Dv.wp_0, Dv.wp_1, Dv.wp_2, Dv.wp_3, Dv.wp_4, Dv.wp_5, true_and, and_true, and_self, Option.bind_some, List.set_cons_succ, List.set_cons_zero, List.getElem?_cons_zero, List.getElem?_cons_succ, decide_eq_true_eq, Bool.not_eq_true', decide_eq_false_iff_not, not_true_eq_false, not_false_eq_true, decide_true, decide_false, Bool.false_eq_true, if_true, if_false, List.map_cons, List.map_nil, List.length_cons, List.length_nil, List.cons_append, List.nil_append, Nat.zero_add, beq_self_eq_true, Bool.not_true, Bool.not_false, Nat.reduceAdd, Nat.reduceSub, Int.reduceEq, Nat.reduceLeDiff, Dv.env0, List.replicate, Dv.c_if, c_sf2 h1 (by simp)])
  have e2 : putD "letters" (.int (letters : Int)) [(("rows" : Str), D.int (rows : Int))] = (rf2 rows letters) := rfl
  rw [e2]
  have h2 := get_set (c' := C.ins a.Readings (rf2 rows letters)) h1
  have g2 : Gr μ (m1.set μ.length (C.ins a.Readings (rf2 rows letters))) := g1.set (Nat.le_refl _)
  generalize (m1.set μ.length (C.ins a.Readings (rf2 rows letters))) = m2 at *
  have e3 : ∀ d : D, putD "figures" d (rf2 rows letters) = rf3 rows letters d := fun _ => rfl
  (rw [Dv.c_seq]; simp only [Dv.wp_0, Dv.wp_1, Dv.wp_2, Dv.wp_3, Dv.wp_4, Dv.wp_5, true_and, and_true, and_self, Option.bind_some, List.set_cons_succ, List.set_cons_zero, List.getElem?_cons_zero, List.getElem?_cons_succ, decide_eq_true_eq, Bool.not_eq_true', decide_eq_false_iff_not, not_true_eq_false, not_false_eq_true, decide_true, decide_false, Bool.false_eq_true, if_true, if_false, List.map_cons, List.map_nil, List.length_cons, List.length_nil, List.cons_append, List.nil_append, Nat.zero_add, beq_self_eq_true, Bool.not_true, Bool.not_false, Nat.reduceAdd, Nat.reduceSub, Int.reduceEq, Nat.reduceLeDiff, Dv.env0, List.replicate, Dv.c_if, c_sf2 (app_get h2) (by simp [rf2]), e3])
  have h3 := get_set (c' := C.ins a.Readings (rf3 rows letters (.cell m2.length))) (app_get (l := [C.lst [.tup []]]) h2)
  have g3 : Gr μ ((m2 ++ [C.lst [.tup []]]).set μ.length (C.ins a.Readings (rf3 rows letters (.cell m2.length)))) := (g2.app).set (Nat.le_refl _)
  have f3 : ((m2 ++ [C.lst [.tup []]]).set μ.length (C.ins a.Readings (rf3 rows letters (.cell m2.length))))[m2.length]? = some (.lst [.tup []]) := get_set' (new_at (l := [])) (by have := (List.getElem?_eq_some_iff.mp h2).1; omega)
  generalize ((m2 ++ [C.lst [.tup []]]).set μ.length (C.ins a.Readings (rf3 rows letters (.cell m2.length)))) = m3 at *
  have e4 : ∀ d d' : D, putD "figures" d (rf3 rows letters d') = rf3 rows letters d := fun _ _ => rfl
  refine cut (fun e m => ∃ (n : Nat) (x1 x2 x3 x4 : Option D), e = [some (.cell μ.length), some (.int rows), some (.int letters), x1, x2, x3, x4] ∧ Gr μ m ∧ m[μ.length]? = some (C.ins a.Readings (rf3 rows letters (.cell n))) ∧ m[n]? = some (.lst ((colsN letters rows).map figD)) ∧ n ≠ μ.length) ?_ ?_
  · simp only [Dv.wp_0, Dv.wp_1, Dv.wp_2, Dv.wp_3, Dv.wp_4, Dv.wp_5, true_and, and_true, and_self, Option.bind_some, List.set_cons_succ, List.set_cons_zero, List.getElem?_cons_zero, List.getElem?_cons_succ, decide_eq_true_eq, Bool.not_eq_true', decide_eq_false_iff_not, not_true_eq_false, not_false_eq_true, decide_true, decide_false, Bool.false_eq_true, if_true, if_false, List.map_cons, List.map_nil, List.length_cons, List.length_nil, List.cons_append, List.nil_append, Nat.zero_add, beq_self_eq_true, Bool.not_true, Bool.not_false, Nat.reduceAdd, Nat.reduceSub, Int.reduceEq, Nat.reduceLeDiff, Dv.env0, List.replicate, Dv.c_seq, Dv.c_if, c_iRng11 (j := (rows : Int)) (by omega) (by omega), Int.toNat_natCast]
    refine for_wp (fun i e m => ∃ (n : Nat) (x1 x2 x3 x4 : Option D), e = [some (.cell μ.length), some (.int rows), some (.int letters), x1, x2, x3, x4] ∧ Gr μ m ∧ m[μ.length]? = some (C.ins a.Readings (rf3 rows letters (.cell n))) ∧ m[n]? = some (.lst ((colsN letters i).map figD)) ∧ n ≠ μ.length) (fun _ _ _ _ => gok_nil) ?_ ?_ ?_
    · exact ⟨_, _, _, _, _, rfl, g3, h3, f3, by have := (List.getElem?_eq_some_iff.mp h2).1; omega⟩
    · rintro i x _ m hx ⟨n, x1, x2, x3, x4, rfl, g, hm, hn, ne⟩
      have hi := (List.getElem?_eq_some_iff.mp hx).1
      rw [len_rng] at hi
      have hb := small_cols (r := i) l2 (by omega)
      simp only [Dv.wp_0, Dv.wp_1, Dv.wp_2, Dv.wp_3, Dv.wp_4, Dv.wp_5, true_and, and_true, and_self, Option.bind_some, List.set_cons_succ, List.set_cons_zero, List.getElem?_cons_zero, List.getElem?_cons_succ, decide_eq_true_eq, Bool.not_eq_true', decide_eq_false_iff_not, not_true_eq_false, not_false_eq_true, decide_true, decide_false, Bool.false_eq_true, if_true, if_false, List.map_cons, List.map_nil, List.length_cons, List.length_nil, List.cons_append, List.nil_append, Nat.zero_add, beq_self_eq_true, Bool.not_true, Bool.not_false, Nat.reduceAdd, Nat.reduceSub, Int.reduceEq, Nat.reduceLeDiff, Dv.env0, List.replicate, Dv.c_seq, Dv.c_if]
      refine lc2_ga figD natD (fun _ => List.range (letters + 1)) (fun c s => figD (c ++ [s])) ?_
      simp only [Dv.wp_0, Dv.wp_1, Dv.wp_2, Dv.wp_3, Dv.wp_4, Dv.wp_5, true_and, and_true, and_self, Option.bind_some, List.set_cons_succ, List.set_cons_zero, List.getElem?_cons_zero, List.getElem?_cons_succ, decide_eq_true_eq, Bool.not_eq_true', decide_eq_false_iff_not, not_true_eq_false, not_false_eq_true, decide_true, decide_false, Bool.false_eq_true, if_true, if_false, List.map_cons, List.map_nil, List.length_cons, List.length_nil, List.cons_append, List.nil_append, Nat.zero_add, beq_self_eq_true, Bool.not_true, Bool.not_false, Nat.reduceAdd, Nat.reduceSub, Int.reduceEq, Nat.reduceLeDiff, Dv.env0, List.replicate, Dv.c_seq, Dv.c_if, fld_at (f := "figures") (d := .cell n) hm rfl, c_iLst1 hn]
      refine ⟨colsN letters i, rfl, gok_one.mpr hn, ?_, ?_, ?_⟩
      · simp only [List.length_flatMap, List.length_map, List.length_range, List.map_const', List.sum_replicate_nat]
        exact Nat.le_trans (Nat.mul_le_mul hb (show letters + 1 ≤ 3 by omega)) (by omega)
      · intro c hc l
        have hcl := (colsN_mem _ c hc).1
        simp only [Dv.wp_0, Dv.wp_1, Dv.wp_2, Dv.wp_3, Dv.wp_4, Dv.wp_5, true_and, and_true, and_self, Option.bind_some, List.set_cons_succ, List.set_cons_zero, List.getElem?_cons_zero, List.getElem?_cons_succ, decide_eq_true_eq, Bool.not_eq_true', decide_eq_false_iff_not, not_true_eq_false, not_false_eq_true, decide_true, decide_false, Bool.false_eq_true, if_true, if_false, List.map_cons, List.map_nil, List.length_cons, List.length_nil, List.cons_append, List.nil_append, Nat.zero_add, beq_self_eq_true, Bool.not_true, Bool.not_false, Nat.reduceAdd, Nat.reduceSub, Int.reduceEq, Nat.reduceLeDiff, Dv.env0, List.replicate, Dv.c_seq, Dv.c_if, c_iRng11 (j := (letters : Int) + 1) (by omega) (by omega)]
        refine ⟨by rw [rngD_nat, show ((letters : Int) + 1).toNat = letters + 1 by omega]; rfl, ?_⟩
        intro s hs l
        simp only [Dv.wp_0, Dv.wp_1, Dv.wp_2, Dv.wp_3, Dv.wp_4, Dv.wp_5, true_and, and_true, and_self, Option.bind_some, List.set_cons_succ, List.set_cons_zero, List.getElem?_cons_zero, List.getElem?_cons_succ, decide_eq_true_eq, Bool.not_eq_true', decide_eq_false_iff_not, not_true_eq_false, not_false_eq_true, decide_true, decide_false, Bool.false_eq_true, if_true, if_false, List.map_cons, List.map_nil, List.length_cons, List.length_nil, List.cons_append, List.nil_append, Nat.zero_add, beq_self_eq_true, Bool.not_true, Bool.not_false, Nat.reduceAdd, Nat.reduceSub, Int.reduceEq, Nat.reduceLeDiff, Dv.env0, List.replicate, Dv.c_seq, Dv.c_if, figD, dAddG_tt, List.length_map, hcl, show i + 1 ≤ 16777216 by omega, natD]
        exact ⟨by simp [natD], [], by simp⟩
      · intro l
        have hin : (m ++ C.lst ((colsN letters i).flatMap fun c => (List.range (letters + 1)).map fun s => figD (c ++ [s])) :: l)[μ.length]? = some (C.ins a.Readings (rf3 rows letters (.cell n))) := app_get hm
        have hlt := (List.getElem?_eq_some_iff.mp hm).1
        simp only [Dv.wp_0, Dv.wp_1, Dv.wp_2, Dv.wp_3, Dv.wp_4, Dv.wp_5, true_and, and_true, and_self, Option.bind_some, List.set_cons_succ, List.set_cons_zero, List.getElem?_cons_zero, List.getElem?_cons_succ, decide_eq_true_eq, Bool.not_eq_true', decide_eq_false_iff_not, not_true_eq_false, not_false_eq_true, decide_true, decide_false, Bool.false_eq_true, if_true, if_false, List.map_cons, List.map_nil, List.length_cons, List.length_nil, List.cons_append, List.nil_append, Nat.zero_add, beq_self_eq_true, Bool.not_true, Bool.not_false, Nat.reduceAdd, Nat.reduceSub, Int.reduceEq, Nat.reduceLeDiff, Dv.env0, List.replicate, Dv.c_seq, Dv.c_if, c_sf2 hin (by simp [rf3]), e4]
        refine ⟨_, _, _, _, _, rfl, (g.app).set (Nat.le_refl _), get_set hin, ?_, by omega⟩
        rw [get_set' (new_at (μ := m)) (by omega)]
        rw [colsN, List.map_flatMap]
        simp only [List.map_map]
        rfl
    · rintro _ m ⟨n, x1, x2, x3, x4, rfl, g, hm, hn, ne⟩
      rw [len_rng] at hn
      exact ⟨n, _, _, _, _, rfl, g, hm, hn, ne⟩
  · rintro _ m ⟨n, x1, x2, x3, x4, rfl, g, hm, hn, ne⟩
    simp only [Dv.wp_0, Dv.wp_1, Dv.wp_2, Dv.wp_3, Dv.wp_4, Dv.wp_5, true_and, and_true, and_self, Option.bind_some, List.set_cons_succ, List.set_cons_zero, List.getElem?_cons_zero, List.getElem?_cons_succ, decide_eq_true_eq, Bool.not_eq_true', decide_eq_false_iff_not, not_true_eq_false, not_false_eq_true, decide_true, decide_false, Bool.false_eq_true, if_true, if_false, List.map_cons, List.map_nil, List.length_cons, List.length_nil, List.cons_append, List.nil_append, Nat.zero_add, beq_self_eq_true, Bool.not_true, Bool.not_false, Nat.reduceAdd, Nat.reduceSub, Int.reduceEq, Nat.reduceLeDiff, Dv.env0, List.replicate, Dv.c_seq, Dv.c_if]
    have hb := small_cols (r := rows) l2 hr
    refine lc_ga figD (fun c => .int (((List.range rows).filter fun r => decide (c.getD r 0 = 0)).map fun r => (2 : Int) ^ r).sum) ?_
    simp only [Dv.wp_0, Dv.wp_1, Dv.wp_2, Dv.wp_3, Dv.wp_4, Dv.wp_5, true_and, and_true, and_self, Option.bind_some, List.set_cons_succ, List.set_cons_zero, List.getElem?_cons_zero, List.getElem?_cons_succ, decide_eq_true_eq, Bool.not_eq_true', decide_eq_false_iff_not, not_true_eq_false, not_false_eq_true, decide_true, decide_false, Bool.false_eq_true, if_true, if_false, List.map_cons, List.map_nil, List.length_cons, List.length_nil, List.cons_append, List.nil_append, Nat.zero_add, beq_self_eq_true, Bool.not_true, Bool.not_false, Nat.reduceAdd, Nat.reduceSub, Int.reduceEq, Nat.reduceLeDiff, Dv.env0, List.replicate, Dv.c_seq, Dv.c_if, fld_at (f := "figures") (d := .cell n) hm rfl, c_iLst1 hn]
    refine ⟨colsN letters rows, rfl, gok_one.mpr hn, by omega, ?_, ?_⟩
    · intro c hc l
      have hcl := (colsN_mem _ c hc).1
      refine lc_fa (fun r => decide (c.getD r 0 = 0)) natD (fun r => .int ((2 : Int) ^ r)) ?_
      simp only [Dv.wp_0, Dv.wp_1, Dv.wp_2, Dv.wp_3, Dv.wp_4, Dv.wp_5, true_and, and_true, and_self, Option.bind_some, List.set_cons_succ, List.set_cons_zero, List.getElem?_cons_zero, List.getElem?_cons_succ, decide_eq_true_eq, Bool.not_eq_true', decide_eq_false_iff_not, not_true_eq_false, not_false_eq_true, decide_true, decide_false, Bool.false_eq_true, if_true, if_false, List.map_cons, List.map_nil, List.length_cons, List.length_nil, List.cons_append, List.nil_append, Nat.zero_add, beq_self_eq_true, Bool.not_true, Bool.not_false, Nat.reduceAdd, Nat.reduceSub, Int.reduceEq, Nat.reduceLeDiff, Dv.env0, List.replicate, Dv.c_seq, Dv.c_if, c_iRng11 (j := (rows : Int)) (by omega) (by omega)]
      refine ⟨List.range rows, by rw [rngD_nat, Int.toNat_natCast]; rfl, gok_nil, by simp; omega, ?_, ?_⟩
      · intro r hr' l
        have hrc : r < c.length := by have := List.mem_range.mp hr'; omega
        have e1 : c.getD r 0 = c[r] := by rw [List.getD_eq_getElem?_getD, List.getElem?_eq_getElem hrc]; rfl
        have e5 : ∀ m, dShl (.int 1) (.int (r : Int)) m = .ok (.int ((2 : Int) ^ r)) m := by
          intro m
          have : dShl (.int 1) (.int (r : Int)) m = .ok (.int (1 * 2 ^ (r : Int).toNat)) m := dI_int (C := CPow) (g := fun i j => .int (i * 2 ^ j.toNat)) (i := 1) (j := (r : Int)) (cpow1 (by omega))
          rw [this]; simp
        simp only [Dv.wp_0, Dv.wp_1, Dv.wp_2, Dv.wp_3, Dv.wp_4, Dv.wp_5, true_and, and_true, and_self, Option.bind_some, List.set_cons_succ, List.set_cons_zero, List.getElem?_cons_zero, List.getElem?_cons_succ, decide_eq_true_eq, Bool.not_eq_true', decide_eq_false_iff_not, not_true_eq_false, not_false_eq_true, decide_true, decide_false, Bool.false_eq_true, if_true, if_false, List.map_cons, List.map_nil, List.length_cons, List.length_nil, List.cons_append, List.nil_append, Nat.zero_add, beq_self_eq_true, Bool.not_true, Bool.not_false, Nat.reduceAdd, Nat.reduceSub, Int.reduceEq, Nat.reduceLeDiff, Dv.env0, List.replicate, Dv.c_seq, Dv.c_if, natD, figD, at_natD hrc, e1, e5]
        refine ⟨?_, fun _ => ⟨[], by simp⟩⟩
        by_cases z : c[r] = 0 <;> simp [z]
      · intro l2
        simp only [Dv.wp_0, Dv.wp_1, Dv.wp_2, Dv.wp_3, Dv.wp_4, Dv.wp_5, true_and, and_true, and_self, Option.bind_some, List.set_cons_succ, List.set_cons_zero, List.getElem?_cons_zero, List.getElem?_cons_succ, decide_eq_true_eq, Bool.not_eq_true', decide_eq_false_iff_not, not_true_eq_false, not_false_eq_true, decide_true, decide_false, Bool.false_eq_true, if_true, if_false, List.map_cons, List.map_nil, List.length_cons, List.length_nil, List.cons_append, List.nil_append, Nat.zero_add, beq_self_eq_true, Bool.not_true, Bool.not_false, Nat.reduceAdd, Nat.reduceSub, Int.reduceEq, Nat.reduceLeDiff, Dv.env0, List.replicate, Dv.c_seq, Dv.c_if, sum_cell (ns := (((List.range rows).filter fun r => decide (c.getD r 0 = 0)).map fun r => (2 : Int) ^ r)) (show (m ++ l ++ C.lst (((List.range rows).filter fun r => decide (c.getD r 0 = 0)).map fun r => D.int ((2 : Int) ^ r)) :: l2)[(m ++ l).length]? = _ by rw [new_at, List.map_map]; rfl)]
        exact ⟨_, by rw [List.append_assoc]⟩
    · intro l
      generalize (((colsN letters rows).map fun c => D.int (((List.range rows).filter fun r => decide (c.getD r 0 = 0)).map fun r => (2 : Int) ^ r).sum)) = en
      have hin : (m ++ C.lst en :: l)[μ.length]? = some (C.ins a.Readings (rf3 rows letters (.cell n))) := app_get hm
      have hn' : (m ++ C.lst en :: l)[n]? = some (.lst ((colsN letters rows).map figD)) := app_get hn
      have gg : Gr μ (m ++ C.lst en :: l) := g.app
      have hml : m.length < (m ++ C.lst en :: l).length := by simp
      generalize (m ++ C.lst en :: l) = m5 at *
      have e6 : putD "ended" (.cell m.length) (rf3 rows letters (.cell n)) = rf4 rows letters (.cell n) (.cell m.length) := rfl
      have hin2 := get_set (c' := C.ins a.Readings (rf4 rows letters (.cell n) (.cell m.length))) hin
      have hn2 := get_set' (c' := C.ins a.Readings (rf4 rows letters (.cell n) (.cell m.length))) hn' (Ne.symm ne)
      simp only [Dv.wp_0, Dv.wp_1, Dv.wp_2, Dv.wp_3, Dv.wp_4, Dv.wp_5, true_and, and_true, and_self, Option.bind_some, List.set_cons_succ, List.set_cons_zero, List.getElem?_cons_zero, List.getElem?_cons_succ, decide_eq_true_eq, Bool.not_eq_true', decide_eq_false_iff_not, not_true_eq_false, not_false_eq_true, decide_true, decide_false, Bool.false_eq_true, if_true, if_false, List.map_cons, List.map_nil, List.length_cons, List.length_nil, List.cons_append, List.nil_append, Nat.zero_add, beq_self_eq_true, Bool.not_true, Bool.not_false, Nat.reduceAdd, Nat.reduceSub, Int.reduceEq, Nat.reduceLeDiff, Dv.env0, List.replicate, Dv.c_seq, Dv.c_if, c_sf2 hin (by simp [rf3]), e6, fld_at (f := "figures") (d := .cell n) hin2 rfl, len_cell hn2, List.length_map, colsN_len]
      rw [show (((letters + 1) ^ rows : Nat) : Int) - 1 = (((letters + 1) ^ rows - 1 : Nat) : Int) by omega]
      exact h _ (gg.set (Nat.le_refl _))
end
end Law

set_option maxRecDepth 100000
set_option maxHeartbeats 4000000
namespace Law
open PySem PySem.Spec PyProof.Rows L2 Dv
/-- the parts of a question -/
def qf (rows letters : Nat) (T : List (Bool × List Nat)) : List (Str × D) := [("rows", .int rows), ("letters", .int letters), ("table", .tup (T.map rowD))]
section
variable {K : PySem.W.Frag} {a : Adr}
theorem row_way {wide m : Nat} {p : Bool × List Nat} {μ : Mem} (h : p.2.length = wide) (hb : ∀ i ∈ p.2, i < m) : g_is_way [.int wide, .int m, .tup (p.2.map fun i : Nat => D.int (i : Int))] μ = .ok (.bl true) μ := way_ok h hb
theorem question_table {μ : Mem} {rows letters : Nat} {T : List (Bool × List Nat)} {Q : D → Mem → Prop} {X : Exn → Mem → Prop} (hr : rows ≤ 4) (l1 : 1 ≤ letters) (l2 : letters ≤ 2) (hT : IsTab ((letters + 1) ^ rows - 1) T) (h : ∀ μ', Gr μ μ' → Q (.bl true) μ') :
    (g_is_question_table K a [.int rows, .int letters, .tup (T.map rowD)] μ).wp Q X := by
  have t1 := hT.l1
  have t8 := hT.l8
  unfold g_is_question_table b_is_question_table
  refine body_wp ?_
  simp only [Dv.wp_0, Dv.wp_1, Dv.wp_2, Dv.wp_3, Dv.wp_4, Dv.wp_5, true_and, and_true, and_self, Option.bind_some, List.set_cons_succ, List.set_cons_zero, List.getElem?_cons_zero, List.getElem?_cons_succ, decide_eq_true_eq, Bool.not_eq_true', decide_eq_false_iff_not, not_true_eq_false, not_false_eq_true, decide_true, decide_false, Bool.false_eq_true, if_true, if_false, List.map_cons, List.map_nil, List.length_cons, List.length_nil, List.cons_append, List.nil_append, Nat.zero_add, beq_self_eq_true, Bool.not_true, Bool.not_false, Nat.reduceAdd, Nat.reduceSub, Int.reduceEq, Nat.reduceLeDiff, Dv.env0, List.replicate, Dv.c_seq, Dv.c_if, table_ok (xs := T.map rowD) (k := 8) (by simp; omega) (by simp; omega)]
  refine many_readings hr l1 l2 fun m1 g1 => ?_
  simp only [Dv.wp_0, Dv.wp_1, Dv.wp_2, Dv.wp_3, Dv.wp_4, Dv.wp_5, true_and, and_true, and_self, Option.bind_some, List.set_cons_succ, List.set_cons_zero, List.getElem?_cons_zero, List.getElem?_cons_succ, decide_eq_true_eq, Bool.not_eq_true', decide_eq_false_iff_not, not_true_eq_false, not_false_eq_true, decide_true, decide_false, Bool.false_eq_true, if_true, if_false, List.map_cons, List.map_nil, List.length_cons, List.length_nil, List.cons_append, List.nil_append, Nat.zero_add, beq_self_eq_true, Bool.not_true, Bool.not_false, Nat.reduceAdd, Nat.reduceSub, Int.reduceEq, Nat.reduceLeDiff, Dv.env0, List.replicate, Dv.c_seq, Dv.c_if]
  refine for_wp (fun i e m' => m' = m1 ∧ ∃ x, e = [some (.int rows), some (.int letters), some (.tup (T.map rowD)), some (.int (((letters + 1) ^ rows - 1 : Nat) : Int)), x]) (fun _ _ _ _ => gok_nil) ⟨rfl, _, rfl⟩ ?_ ?_
  · rintro i x _ m' hx ⟨rfl, y, rfl⟩
    rw [List.getElem?_map] at hx
    obtain ⟨r, hr', rfl⟩ := Option.map_eq_some_iff.mp hx
    obtain ⟨q1, q2⟩ := hT.rows r (List.mem_of_getElem? hr')
    simp only [Dv.wp_0, Dv.wp_1, Dv.wp_2, Dv.wp_3, Dv.wp_4, Dv.wp_5, true_and, and_true, and_self, Option.bind_some, List.set_cons_succ, List.set_cons_zero, List.getElem?_cons_zero, List.getElem?_cons_succ, decide_eq_true_eq, Bool.not_eq_true', decide_eq_false_iff_not, not_true_eq_false, not_false_eq_true, decide_true, decide_false, Bool.false_eq_true, if_true, if_false, List.map_cons, List.map_nil, List.length_cons, List.length_nil, List.cons_append, List.nil_append, Nat.zero_add, beq_self_eq_true, Bool.not_true, Bool.not_false, Nat.reduceAdd, Nat.reduceSub, Int.reduceEq, Nat.reduceLeDiff, Dv.env0, List.replicate, Dv.c_seq, Dv.c_if, rowD, tuple_ok (xs := [D.bl r.1, .tup (r.2.map fun i : Nat => D.int (i : Int))]) (k := 2) (by simp), isi_bb, List.length_map, row_way (wide := (letters + 1) ^ rows - 1) (m := T.length) (p := r) q1 q2]
    exact ⟨_, rfl⟩
  · rintro _ m' ⟨rfl, y, rfl⟩
    simp only [Dv.wp_0, Dv.wp_1, Dv.wp_2, Dv.wp_3, Dv.wp_4, Dv.wp_5, true_and, and_true, and_self, Option.bind_some, List.set_cons_succ, List.set_cons_zero, List.getElem?_cons_zero, List.getElem?_cons_succ, decide_eq_true_eq, Bool.not_eq_true', decide_eq_false_iff_not, not_true_eq_false, not_false_eq_true, decide_true, decide_false, Bool.false_eq_true, if_true, if_false, List.map_cons, List.map_nil, List.length_cons, List.length_nil, List.cons_append, List.nil_append, Nat.zero_add, beq_self_eq_true, Bool.not_true, Bool.not_false, Nat.reduceAdd, Nat.reduceSub, Int.reduceEq, Nat.reduceLeDiff, Dv.env0, List.replicate, Dv.c_seq, Dv.c_if]
    exact h _ g1
theorem question {μ : Mem} {d : D} {rows letters : Nat} {T : List (Bool × List Nat)} {Q : D → Mem → Prop} {X : Exn → Mem → Prop} (S : IsSpec d rows letters T) (h : ∀ n μ', Gr μ μ' → μ'[n]? = some (.ins a.Question (qf rows letters T)) → μ.length ≤ n → Q (.cell n) μ') : (g__law_question K a [d] μ).wp Q X := by
  have t1 := S.r2
  have t2 := S.r4
  have t3 := S.l1
  have t4 := S.l2
  rw [S.e]
  unfold g__law_question b__law_question
  refine body_wp ?_
  simp only [Dv.wp_0, Dv.wp_1, Dv.wp_2, Dv.wp_3, Dv.wp_4, Dv.wp_5, true_and, and_true, and_self, Option.bind_some, List.set_cons_succ, List.set_cons_zero, List.getElem?_cons_zero, List.getElem?_cons_succ, decide_eq_true_eq, Bool.not_eq_true', decide_eq_false_iff_not, not_true_eq_false, not_false_eq_true, decide_true, decide_false, Bool.false_eq_true, if_true, if_false, List.map_cons, List.map_nil, List.length_cons, List.length_nil, List.cons_append, List.nil_append, Nat.zero_add, beq_self_eq_true, Bool.not_true, Bool.not_false, Nat.reduceAdd, Nat.reduceSub, Int.reduceEq, Nat.reduceLeDiff, Dv.env0, List.replicate, Dv.c_seq, Dv.c_if]
  unfold g_Question_M___init__ b_Question_M___init__
  refine body_wp ?_
  simp only [Dv.wp_0, Dv.wp_1, Dv.wp_2, Dv.wp_3, Dv.wp_4, Dv.wp_5, true_and, and_true, and_self, Option.bind_some, List.set_cons_succ, List.set_cons_zero, List.getElem?_cons_zero, List.getElem?_cons_succ, decide_eq_true_eq, Bool.not_eq_true', decide_eq_false_iff_not, not_true_eq_false, not_false_eq_true, decide_true, decide_false, Bool.false_eq_true, if_true, if_false, List.map_cons, List.map_nil, List.length_cons, List.length_nil, List.cons_append, List.nil_append, Nat.zero_add, beq_self_eq_true, Bool.not_true, Bool.not_false, Nat.reduceAdd, Nat.reduceSub, Int.reduceEq, Nat.reduceLeDiff, Dv.env0, List.replicate, Dv.c_seq, Dv.c_if, between_ok (lo := 2) (hi := 4) (i := (rows : Int)) (by omega) (by omega), between_ok (lo := 1) (hi := 2) (i := (letters : Int)) (by omega) (by omega)]
  refine question_table t2 t3 t4 S.tab fun m1 g1 => ?_
  have h0 := g1.at (new_at (μ := μ) (c := C.ins a.Question []) (l := []))
  have h1 := get_set (c' := C.ins a.Question [(("rows" : Str), .int (rows : Int))]) h0
  have h2 := get_set (c' := C.ins a.Question [(("rows" : Str), .int (rows : Int)), ("letters", .int (letters : Int))]) h1
  have h3 := get_set (c' := C.ins a.Question (qf rows letters T)) h2
  have e1 : putD "rows" (.int (rows : Int)) [] = [(("rows" : Str), .int (rows : Int))] := rfl
  have e2 : putD "letters" (.int (letters : Int)) [(("rows" : Str), .int (rows : Int))] = [(("rows" : Str), .int (rows : Int)), ("letters", .int (letters : Int))] := rfl
  have e3 : putD "table" (.tup (T.map rowD)) [(("rows" : Str), .int (rows : Int)), ("letters", .int (letters : Int))] = qf rows letters T := rfl
  simp only [Dv.wp_0, Dv.wp_1, Dv.wp_2, Dv.wp_3, Dv.wp_4, Dv.wp_5, true_and, and_true, and_self, Option.bind_some, List.set_cons_succ, List.set_cons_zero, List.getElem?_cons_zero, List.getElem?_cons_succ, decide_eq_true_eq, Bool.not_eq_true', decide_eq_false_iff_not, not_true_eq_false, not_false_eq_true, decide_true, decide_false, Bool.false_eq_true, if_true, if_false, List.map_cons, List.map_nil, List.length_cons, List.length_nil, List.cons_append, List.nil_append, Nat.zero_add, beq_self_eq_true, Bool.not_true, Bool.not_false, Nat.reduceAdd, Nat.reduceSub, Int.reduceEq, Nat.reduceLeDiff, Dv.env0, List.replicate, Dv.c_seq, Dv.c_if, c_sf2 h0 (by simp), e1, c_sf2 h1 (by simp), e2, c_sf2 h2 (by simp), e3]
  exact h _ _ ((((Gr.refl.app.trans g1).set (Nat.le_refl _)).set (Nat.le_refl _)).set (Nat.le_refl _)) h3 (Nat.le_refl _)
end
/-! ### words -/
def wS (w : List Nat) : Str := ⟨(w.map (97 + ·)).toArray⟩
def wD (w : List Nat) : D := .str (wS w)
theorem wS_len {w : List Nat} : (wS w).length = w.length := by simp [wS, Str.length]
theorem wS_at {w : List Nat} {i : Nat} (h : i < w.length) (μ : Mem) : ixD (wD w) (.int (i : Int)) μ = .ok (.str ⟨#[97 + w[i]]⟩) μ := by
  have : atI (wS w).cps.toList (i : Int) = some (97 + w[i]) := by
    rw [atI_in (by omega) (by simp [wS]; omega)]
    simp [wS, List.getElem?_eq_getElem h]
  simp only [ixD, wD, this]
theorem lettered_ok {letters : Nat} {w : List Nat} {μ : Mem} (l2 : letters ≤ 2) (h : ∀ i ∈ w, i < letters) : g_is_lettered [.int letters, wD w] μ = .ok (.bl true) μ := by
  unfold g_is_lettered b_is_lettered runB
  have e := strip_abc (n := (letters : Int)) (by omega) (by omega) (wS w)
  have e2 : lettB letters (wS w) = true := by
    simp only [lettB, wS, List.all_eq_true]
    intro c hc
    obtain ⟨i, hi, rfl⟩ := List.mem_map.mp hc
    have := h i hi
    simp
    omega
  rw [e2] at e
  have e3 : Txt.stripChars (wS w) (cutS ("abc" : Str) none (some (letters : Int))) = "" := by
    have := of_decide_eq_true e
    exact V.str.inj this
  simp only [Dv.ev_0, Dv.ev_1, Dv.ev_2, Option.bind_some, List.set_cons_succ, List.set_cons_zero, List.getElem?_cons_zero, List.getElem?_cons_succ, decide_true, decide_false, Bool.false_eq_true, if_true, if_false, Dv.env0, List.map_cons, List.map_nil, List.length_cons, List.length_nil, List.replicate, List.cons_append, List.nil_append, Nat.zero_add, Nat.reduceAdd, Nat.reduceSub, beq_self_eq_true, Bool.not_true, Bool.not_false, Int.reduceEq, wD, isi_ss, tyM, slG, slS, mStrip, e3, outS_rt]
end Law

set_option maxRecDepth 100000
set_option maxHeartbeats 4000000
namespace Law
open PySem PySem.Spec PyProof.Rows L2 Dv
/-- what stands in a word at a place: 0 for none -/
def sg (w : List Nat) (p : Nat) : Nat := match w[p]? with
  | some i => 1 + i
  | none => 0
def numF (l : Nat) (ws : List (List Nat)) (p : Nat) : Nat := ws.foldl (fun n w => n * (l + 1) + sg w p) 0
structure Words (rows l : Nat) (ws : List (List Nat)) : Prop where
  len : ws.length = rows
  let_ : ∀ w ∈ ws, ∀ i ∈ w, i < l
  short : ∀ w ∈ ws, w.length ≤ 1000
theorem sg_le {l p : Nat} {w : List Nat} (h : ∀ i ∈ w, i < l) : sg w p ≤ l := by
  unfold sg
  split
  · rename_i i e; have := h i (List.mem_of_getElem? e); omega
  · omega
theorem fold_lt {l p : Nat} : ∀ {ws : List (List Nat)} {n k : Nat}, n < k → (∀ w ∈ ws, ∀ i ∈ w, i < l) → ws.foldl (fun n w => n * (l + 1) + sg w p) n < k * (l + 1) ^ ws.length
  | [], n, k, h, _ => by simpa using h
  | w :: ws, n, k, h, hw => by
    have h1 := sg_le (p := p) (hw w (List.mem_cons_self ..))
    have := fold_lt (l := l) (p := p) (ws := ws) (n := n * (l + 1) + sg w p) (k := k * (l + 1)) (by
      have : (n + 1) * (l + 1) ≤ k * (l + 1) := Nat.mul_le_mul_right _ h
      rw [Nat.add_mul] at this
      omega) fun w' hw' => hw w' (List.mem_cons_of_mem _ hw')
    rw [List.foldl_cons, List.length_cons, Nat.pow_succ']
    rw [← Nat.mul_assoc]
    exact this
theorem numF_lt {rows l p : Nat} {ws : List (List Nat)} (W : Words rows l ws) : numF l ws p < (l + 1) ^ rows := by
  have := fold_lt (l := l) (p := p) (ws := ws) (n := 0) (k := 1) (by omega) W.let_
  rw [W.len, Nat.one_mul] at this
  exact this
theorem fold_ge {l p : Nat} : ∀ {ws : List (List Nat)} {n : Nat}, n ≤ ws.foldl (fun n w => n * (l + 1) + sg w p) n
  | [], n => Nat.le_refl _
  | w :: ws, n => Nat.le_trans (by
      have : n * 1 ≤ n * (l + 1) := Nat.mul_le_mul_left _ (by omega)
      omega) (fold_ge (l := l) (p := p) (ws := ws) (n := n * (l + 1) + sg w p))
theorem fold_pos {l p : Nat} : ∀ {ws : List (List Nat)} {n : Nat}, (∃ w ∈ ws, p < w.length) → 0 < ws.foldl (fun n w => n * (l + 1) + sg w p) n
  | w :: ws, n, ⟨v, hv, hp⟩ => by
    rw [List.foldl_cons]
    rcases List.mem_cons.mp hv with rfl | hv
    · have : 0 < sg v p := by unfold sg; rw [List.getElem?_eq_getElem hp]; simp; omega
      exact Nat.lt_of_lt_of_le (by omega) fold_ge
    · exact fold_pos ⟨v, hv, hp⟩
theorem index_ab {i : Nat} {m : Mem} (h : i < 2) : mIndexS (.str "abc") [.str ⟨#[97 + i]⟩] m = .ok (.int (i : Int)) m := by
  have h0 : Txt.index0 "abc" ⟨#[97 + 0]⟩ = some 0 := by decide +kernel
  have h1 : Txt.index0 "abc" ⟨#[97 + 1]⟩ = some 1 := by decide +kernel
  rcases (by omega : i = 0 ∨ i = 1) with rfl | rfl
  · simp only [mIndexS, h0]
  · simp only [mIndexS, h1]
theorem find_ab {i : Nat} {m : Mem} (h : i < 2) : mFind (.str "-ab") [.str ⟨#[97 + i]⟩] m = .ok (.int ((1 + i : Nat) : Int)) m := by
  have h0 : Txt.find "-ab" ⟨#[97 + 0]⟩ = 1 := by decide +kernel
  have h1 : Txt.find "-ab" ⟨#[97 + 1]⟩ = 2 := by decide +kernel
  rcases (by omega : i = 0 ∨ i = 1) with rfl | rfl
  · simp only [mFind, h0]; rfl
  · simp only [mFind, h1]; rfl
theorem find_no {m : Mem} : mFind (.str "-ab") [.str "-"] m = .ok (.int 0) m := by
  have h0 : Txt.find "-ab" "-" = 0 := by decide +kernel
  simp only [mFind, h0]
theorem dMul_c {i j : Int} {μ : Mem} (h : -(2 ^ 64) < j ∧ j < 2 ^ 64) : dMul (.int i) (.int j) μ = .ok (.int (i * j)) μ := dI_int (.inr h)
theorem dAdd_ii {i j : Int} {μ : Mem} : dAdd (.int i) (.int j) μ = .ok (.int (i + j)) μ := rfl
theorem reading_at {rows l p : Nat} {ws : List (List Nat)} {μ : Mem} (l2 : l ≤ 2) (W : Words rows l ws) : g_reading_at [.int l, .tup (ws.map wD), .int p] μ = .ok (natD (numF l ws p)) μ := by
  have : (g_reading_at [.int l, .tup (ws.map wD), .int p] μ).wp (fun d m => d = natD (numF l ws p) ∧ m = μ) noX := by
    unfold g_reading_at b_reading_at
    refine body_wp ?_
    simp only [Dv.wp_0, Dv.wp_1, Dv.wp_2, Dv.wp_3, Dv.wp_4, Dv.wp_5, true_and, and_true, and_self, Option.bind_some, List.set_cons_succ, List.set_cons_zero, List.getElem?_cons_zero, List.getElem?_cons_succ, decide_eq_true_eq, Bool.not_eq_true', decide_eq_false_iff_not, not_true_eq_false, not_false_eq_true, decide_true, decide_false, Bool.false_eq_true, if_true, if_false, List.map_cons, List.map_nil, List.length_cons, List.length_nil, List.cons_append, List.nil_append, Nat.zero_add, beq_self_eq_true, Bool.not_true, Bool.not_false, Nat.reduceAdd, Nat.reduceSub, Int.reduceEq, Nat.reduceLeDiff, Dv.env0, List.replicate, Dv.c_seq, Dv.c_if]
    refine for_wp (fun i e m => m = μ ∧ ∃ x, e = [some (.int l), some (.tup (ws.map wD)), some (.int p), some (natD ((ws.take i).foldl (fun n w => n * (l + 1) + sg w p) 0)), x]) (fun _ _ _ _ => gok_nil) ⟨rfl, _, rfl⟩ ?_ ?_
    · rintro i x _ m hx ⟨rfl, y, rfl⟩
      rw [List.getElem?_map] at hx
      obtain ⟨w, hw, rfl⟩ := Option.map_eq_some_iff.mp hx
      have hl := W.let_ w (List.mem_of_getElem? hw)
      rw [List.take_add_one, hw]
      generalize hn : (ws.take i).foldl (fun n w => n * (l + 1) + sg w p) 0 = n
      rw [show ((ws.take i ++ (some w).toList).foldl (fun n w => n * (l + 1) + sg w p) 0) = n * (l + 1) + sg w p by rw [Option.toList_some, List.foldl_append, hn]; rfl]
      simp only [Dv.wp_0, Dv.wp_1, Dv.wp_2, Dv.wp_3, Dv.wp_4, Dv.wp_5, true_and, and_true, and_self, Option.bind_some, List.set_cons_succ, List.set_cons_zero, List.getElem?_cons_zero, List.getElem?_cons_succ, decide_eq_true_eq, Bool.not_eq_true', decide_eq_false_iff_not, not_true_eq_false, not_false_eq_true, decide_true, decide_false, Bool.false_eq_true, if_true, if_false, List.map_cons, List.map_nil, List.length_cons, List.length_nil, List.cons_append, List.nil_append, Nat.zero_add, beq_self_eq_true, Bool.not_true, Bool.not_false, Nat.reduceAdd, Nat.reduceSub, Int.reduceEq, Nat.reduceLeDiff, Dv.env0, List.replicate, Dv.c_seq, Dv.c_if, natD, dMul_c (i := (n : Int)) (j := (l : Int) + 1) ⟨by omega, by omega⟩, wD, wS_len]
      by_cases c : p < w.length
      · have hs : sg w p = 1 + w[p] := by unfold sg; rw [List.getElem?_eq_getElem c]
        have hi := hl _ (List.getElem_mem c)
        have e1 := fun m => wS_at c m
        unfold wD at e1
        simp only [Dv.wp_0, Dv.wp_1, Dv.wp_2, Dv.wp_3, Dv.wp_4, Dv.wp_5, true_and, and_true, and_self, Option.bind_some, List.set_cons_succ, List.set_cons_zero, List.getElem?_cons_zero, List.getElem?_cons_succ, decide_eq_true_eq, Bool.not_eq_true', decide_eq_false_iff_not, not_true_eq_false, not_false_eq_true, decide_true, decide_false, Bool.false_eq_true, if_true, if_false, List.map_cons, List.map_nil, List.length_cons, List.length_nil, List.cons_append, List.nil_append, Nat.zero_add, beq_self_eq_true, Bool.not_true, Bool.not_false, Nat.reduceAdd, Nat.reduceSub, Int.reduceEq, Nat.reduceLeDiff, Dv.env0, List.replicate, Dv.c_seq, Dv.c_if, show (p : Int) < (w.length : Int) by omega, e1, tyM, index_ab (i := w[p]) (by omega), dAdd_ii]
        rw [hs]
        exact ⟨some (.str (wS w)), by simp [natD]⟩
      · have hs : sg w p = 0 := by unfold sg; rw [List.getElem?_eq_none (by omega)]
        simp only [Dv.wp_0, Dv.wp_1, Dv.wp_2, Dv.wp_3, Dv.wp_4, Dv.wp_5, true_and, and_true, and_self, Option.bind_some, List.set_cons_succ, List.set_cons_zero, List.getElem?_cons_zero, List.getElem?_cons_succ, decide_eq_true_eq, Bool.not_eq_true', decide_eq_false_iff_not, not_true_eq_false, not_false_eq_true, decide_true, decide_false, Bool.false_eq_true, if_true, if_false, List.map_cons, List.map_nil, List.length_cons, List.length_nil, List.cons_append, List.nil_append, Nat.zero_add, beq_self_eq_true, Bool.not_true, Bool.not_false, Nat.reduceAdd, Nat.reduceSub, Int.reduceEq, Nat.reduceLeDiff, Dv.env0, List.replicate, Dv.c_seq, Dv.c_if, show ¬ (p : Int) < (w.length : Int) by omega]
        rw [hs]
        exact ⟨some (.str (wS w)), by simp [natD]⟩
    · rintro _ m ⟨rfl, y, rfl⟩
      rw [List.length_map, List.take_of_length_le (Nat.le_refl _)]
      simp only [Dv.wp_0, Dv.wp_1, Dv.wp_2, Dv.wp_3, Dv.wp_4, Dv.wp_5, true_and, and_true, and_self, Option.bind_some, List.set_cons_succ, List.set_cons_zero, List.getElem?_cons_zero, List.getElem?_cons_succ, decide_eq_true_eq, Bool.not_eq_true', decide_eq_false_iff_not, not_true_eq_false, not_false_eq_true, decide_true, decide_false, Bool.false_eq_true, if_true, if_false, List.map_cons, List.map_nil, List.length_cons, List.length_nil, List.cons_append, List.nil_append, Nat.zero_add, beq_self_eq_true, Bool.not_true, Bool.not_false, Nat.reduceAdd, Nat.reduceSub, Int.reduceEq, Nat.reduceLeDiff, Dv.env0, List.replicate, Dv.c_seq, Dv.c_if]
      rfl
  obtain ⟨d, m', e, rfl, rfl⟩ := this.gives
  exact e
end Law

set_option maxRecDepth 100000
set_option maxHeartbeats 4000000
namespace Law
open PySem PySem.Spec PyProof.Rows L2 Dv
/-- how many places are read -/
def many (ws : List (List Nat)) : Nat := ws.foldr (fun w m => max w.length m) 0
theorem many_spec : ∀ {ws : List (List Nat)}, ws ≠ [] → (∃ w ∈ ws, w.length = many ws) ∧ ∀ w ∈ ws, w.length ≤ many ws
  | [w], _ => by simp [many]
  | w :: v :: ws, _ => by
    obtain ⟨⟨u, hu, eu⟩, h2⟩ := many_spec (ws := v :: ws) (by simp)
    have e : many (w :: v :: ws) = max w.length (many (v :: ws)) := rfl
    rw [e]
    constructor
    · by_cases c : many (v :: ws) ≤ w.length
      · exact ⟨w, List.mem_cons_self .., by omega⟩
      · exact ⟨u, List.mem_cons_of_mem _ hu, by omega⟩
    · intro x hx
      rcases List.mem_cons.mp hx with rfl | hx
      · omega
      · have := h2 x hx; omega
theorem intsOf_map : ∀ ns : List Int, intsOf (ns.map .int) = some ns
  | [] => rfl
  | n :: ns => by rw [List.map_cons]; show (intsOf (ns.map .int)).map _ = _; rw [intsOf_map ns]; rfl
theorem max_cell {μ : Mem} {n : Nat} {fs : List Int} {m : Int} (h : μ[n]? = some (.lst (fs.map .int))) (e : maxI fs = some m) : dMaxG [.cell n] μ = .ok (.int m) μ := by
  show dMaxL [.cell n] μ = _
  simp only [dMaxL, onInts, lstOf, h, intsOf_map, e]
theorem max_lens {μ : Mem} {n : Nat} {ws : List (List Nat)} (hne : ws ≠ []) (h : μ[n]? = some (.lst (ws.map fun w => D.int (w.length : Int)))) : dMaxG [.cell n] μ = .ok (.int (many ws : Int)) μ := by
  obtain ⟨⟨w, hw, ew⟩, h2⟩ := many_spec hne
  have e : ws.map (fun w => D.int (w.length : Int)) = (ws.map fun w => (w.length : Int)).map .int := by rw [List.map_map]; rfl
  rw [e] at h
  refine max_cell h (maxI_eq ?_ ?_)
  · rw [← ew]; exact List.mem_map.mpr ⟨w, hw, rfl⟩
  · intro y hy
    obtain ⟨v, hv, rfl⟩ := List.mem_map.mp hy
    have := h2 v hv; omega
theorem many_le {rows l : Nat} {ws : List (List Nat)} (W : Words rows l ws) (h : 1 ≤ rows) : many ws ≤ 1000 := by
  obtain ⟨⟨w, hw, ew⟩, _⟩ := many_spec (ws := ws) (by intro e; have := W.len; rw [e] at this; simp at this; omega)
  rw [← ew]; exact W.short w hw
theorem numF_pos {l p : Nat} {ws : List (List Nat)} (hne : ws ≠ []) (h : p < many ws) : 0 < numF l ws p := by
  obtain ⟨⟨w, hw, ew⟩, _⟩ := many_spec hne
  exact fold_pos ⟨w, hw, by omega⟩
/-- a standing behind another -/
def nxt (T : List (Bool × List Nat)) (n : Nat → Nat) (st p : Nat) : Nat := ((T.getD st (false, [])).2.getD (n p - 1) 0)
def run (T : List (Bool × List Nat)) (n : Nat → Nat) (k : Nat) : Nat := (List.range k).foldl (nxt T n) 0
theorem run_succ {T : List (Bool × List Nat)} {n : Nat → Nat} {k : Nat} : run T n (k + 1) = nxt T n (run T n k) k := by simp [run, List.range_succ]
theorem nxt_lt {wide st p : Nat} {T : List (Bool × List Nat)} {n : Nat → Nat} (hT : IsTab wide T) (hs : st < T.length) (h0 : 0 < n p) (h1 : n p ≤ wide) : nxt T n st p < T.length ∧ ∃ (h : st < T.length) (h2 : n p - 1 < (T[st]).2.length), nxt T n st p = (T[st]).2[n p - 1] := by
  obtain ⟨q1, q2⟩ := hT.rows T[st] (List.getElem_mem hs)
  have h2 : n p - 1 < (T[st]).2.length := by omega
  have e : nxt T n st p = (T[st]).2[n p - 1] := by
    have e0 : T.getD st (false, []) = T[st] := by rw [List.getD_eq_getElem?_getD, List.getElem?_eq_getElem hs, Option.getD_some]
    unfold nxt
    rw [e0, List.getD_eq_getElem?_getD, List.getElem?_eq_getElem h2, Option.getD_some]
  exact ⟨by rw [e]; exact q2 _ (List.getElem_mem h2), hs, h2, e⟩
theorem run_lt {wide : Nat} {T : List (Bool × List Nat)} {n : Nat → Nat} (hT : IsTab wide T) : ∀ {k : Nat}, (∀ p, p < k → 0 < n p ∧ n p ≤ wide) → run T n k < T.length
  | 0, _ => hT.l1
  | k + 1, h => by
    rw [run_succ]
    have := h k (by omega)
    exact (nxt_lt hT (run_lt hT fun p hp => h p (by omega)) this.1 this.2).1
theorem at_rowD {T : List (Bool × List Nat)} {i : Nat} (h : i < T.length) : atI (T.map rowD) (i : Int) = some (rowD T[i]) := by
  rw [atI_in (by omega) (by simp; omega), List.getElem?_map]
  simp [List.getElem?_eq_getElem h]
/-- what is asked -/
def ans (T : List (Bool × List Nat)) (l : Nat) (ws : List (List Nat)) : Bool := (T.getD (run T (numF l ws) (many ws)) (false, [])).1
section
variable {K : PySem.W.Frag} {a : Adr} {rows l : Nat} {T : List (Bool × List Nat)} {ws : List (List Nat)}
theorem num_ok (r2 : 1 ≤ rows) (W : Words rows l ws) : ∀ p, p < many ws → 0 < numF l ws p ∧ numF l ws p ≤ (l + 1) ^ rows - 1 := fun p hp => by
  have h1 := numF_lt (p := p) W
  have h2 := numF_pos (l := l) (ws := ws) (by intro e; have := W.len; rw [e] at this; simp at this; omega) hp
  omega
theorem words_ok (l2 : l ≤ 2) (W : Words rows l ws) {μ : Mem} : g_is_words [.int l, .int rows, .tup (ws.map wD)] μ = .ok (.bl true) μ := by
  have : (g_is_words [.int l, .int rows, .tup (ws.map wD)] μ).wp (fun d m => d = .bl true ∧ m = μ) noX := by
    unfold g_is_words b_is_words
    refine body_wp ?_
    simp only [Dv.wp_0, Dv.wp_1, Dv.wp_2, Dv.wp_3, Dv.wp_4, Dv.wp_5, true_and, and_true, and_self, Option.bind_some, List.set_cons_succ, List.set_cons_zero, List.getElem?_cons_zero, List.getElem?_cons_succ, decide_eq_true_eq, Bool.not_eq_true', decide_eq_false_iff_not, not_true_eq_false, not_false_eq_true, decide_true, decide_false, Bool.false_eq_true, if_true, if_false, List.map_cons, List.map_nil, List.length_cons, List.length_nil, List.cons_append, List.nil_append, Nat.zero_add, beq_self_eq_true, Bool.not_true, Bool.not_false, Nat.reduceAdd, Nat.reduceSub, Int.reduceEq, Nat.reduceLeDiff, Dv.env0, List.replicate, Dv.c_seq, Dv.c_if, tuple_ok (xs := ws.map wD) (k := (rows : Int)) (by simp [W.len])]
    refine for_wp (fun i e m => m = μ ∧ ∃ x, e = [some (.int l), some (.int rows), some (.tup (ws.map wD)), x]) (fun _ _ _ _ => gok_nil) ⟨rfl, _, rfl⟩ ?_ ?_
    · rintro i x _ m hx ⟨rfl, y, rfl⟩
      rw [List.getElem?_map] at hx
      obtain ⟨w, hw, rfl⟩ := Option.map_eq_some_iff.mp hx
      simp only [Dv.wp_0, Dv.wp_1, Dv.wp_2, Dv.wp_3, Dv.wp_4, Dv.wp_5, true_and, and_true, and_self, Option.bind_some, List.set_cons_succ, List.set_cons_zero, List.getElem?_cons_zero, List.getElem?_cons_succ, decide_eq_true_eq, Bool.not_eq_true', decide_eq_false_iff_not, not_true_eq_false, not_false_eq_true, decide_true, decide_false, Bool.false_eq_true, if_true, if_false, List.map_cons, List.map_nil, List.length_cons, List.length_nil, List.cons_append, List.nil_append, Nat.zero_add, beq_self_eq_true, Bool.not_true, Bool.not_false, Nat.reduceAdd, Nat.reduceSub, Int.reduceEq, Nat.reduceLeDiff, Dv.env0, List.replicate, Dv.c_seq, Dv.c_if, lettered_ok l2 (W.let_ w (List.mem_of_getElem? hw))]
      exact ⟨_, rfl⟩
    · rintro _ m ⟨rfl, y, rfl⟩
      simp only [Dv.wp_0, Dv.wp_1, Dv.wp_2, Dv.wp_3, Dv.wp_4, Dv.wp_5, true_and, and_true, and_self, Option.bind_some, List.set_cons_succ, List.set_cons_zero, List.getElem?_cons_zero, List.getElem?_cons_succ, decide_eq_true_eq, Bool.not_eq_true', decide_eq_false_iff_not, not_true_eq_false, not_false_eq_true, decide_true, decide_false, Bool.false_eq_true, if_true, if_false, List.map_cons, List.map_nil, List.length_cons, List.length_nil, List.cons_append, List.nil_append, Nat.zero_add, beq_self_eq_true, Bool.not_true, Bool.not_false, Nat.reduceAdd, Nat.reduceSub, Int.reduceEq, Nat.reduceLeDiff, Dv.env0, List.replicate, Dv.c_seq, Dv.c_if]
  obtain ⟨d, m', e, rfl, rfl⟩ := this.gives
  exact e
theorem answer {μ : Mem} {n : Nat} {Q : D → Mem → Prop} {X : Exn → Mem → Prop} (r2 : 1 ≤ rows) (r4 : rows ≤ 4) (l1 : 1 ≤ l) (l2 : l ≤ 2) (hT : IsTab ((l + 1) ^ rows - 1) T) (W : Words rows l ws) (hn : μ[n]? = some (.ins a.Question (qf rows l T))) (h : ∀ μ', Gr μ μ' → Q (.bl (ans T l ws)) μ') :
    (g_answer K a [.cell n, .tup (ws.map wD)] μ).wp Q X := by
  have hne : ws ≠ [] := by intro e; have := W.len; rw [e] at this; simp at this; omega
  have hml := many_le W r2
  unfold g_answer b_answer
  refine body_wp ?_
  simp only [Dv.wp_0, Dv.wp_1, Dv.wp_2, Dv.wp_3, Dv.wp_4, Dv.wp_5, true_and, and_true, and_self, Option.bind_some, List.set_cons_succ, List.set_cons_zero, List.getElem?_cons_zero, List.getElem?_cons_succ, decide_eq_true_eq, Bool.not_eq_true', decide_eq_false_iff_not, not_true_eq_false, not_false_eq_true, decide_true, decide_false, Bool.false_eq_true, if_true, if_false, List.map_cons, List.map_nil, List.length_cons, List.length_nil, List.cons_append, List.nil_append, Nat.zero_add, beq_self_eq_true, Bool.not_true, Bool.not_false, Nat.reduceAdd, Nat.reduceSub, Int.reduceEq, Nat.reduceLeDiff, Dv.env0, List.replicate, Dv.c_seq, Dv.c_if, fld_at (f := "rows") (d := .int (rows : Int)) hn rfl]
  unfold g_need_words b_need_words
  refine body_wp ?_
  simp only [Dv.wp_0, Dv.wp_1, Dv.wp_2, Dv.wp_3, Dv.wp_4, Dv.wp_5, true_and, and_true, and_self, Option.bind_some, List.set_cons_succ, List.set_cons_zero, List.getElem?_cons_zero, List.getElem?_cons_succ, decide_eq_true_eq, Bool.not_eq_true', decide_eq_false_iff_not, not_true_eq_false, not_false_eq_true, decide_true, decide_false, Bool.false_eq_true, if_true, if_false, List.map_cons, List.map_nil, List.length_cons, List.length_nil, List.cons_append, List.nil_append, Nat.zero_add, beq_self_eq_true, Bool.not_true, Bool.not_false, Nat.reduceAdd, Nat.reduceSub, Int.reduceEq, Nat.reduceLeDiff, Dv.env0, List.replicate, Dv.c_seq, Dv.c_if, fld_at (f := "letters") (d := .int (l : Int)) hn rfl, words_ok l2 W]
  unfold g_readings_of b_readings_of
  refine body_wp ?_
  simp only [Dv.wp_0, Dv.wp_1, Dv.wp_2, Dv.wp_3, Dv.wp_4, Dv.wp_5, true_and, and_true, and_self, Option.bind_some, List.set_cons_succ, List.set_cons_zero, List.getElem?_cons_zero, List.getElem?_cons_succ, decide_eq_true_eq, Bool.not_eq_true', decide_eq_false_iff_not, not_true_eq_false, not_false_eq_true, decide_true, decide_false, Bool.false_eq_true, if_true, if_false, List.map_cons, List.map_nil, List.length_cons, List.length_nil, List.cons_append, List.nil_append, Nat.zero_add, beq_self_eq_true, Bool.not_true, Bool.not_false, Nat.reduceAdd, Nat.reduceSub, Int.reduceEq, Nat.reduceLeDiff, Dv.env0, List.replicate, Dv.c_seq, Dv.c_if]
  refine lc_ga (α := Nat) natD (fun p => natD (numF l ws p)) ?_
  simp only [Dv.wp_0, Dv.wp_1, Dv.wp_2, Dv.wp_3, Dv.wp_4, Dv.wp_5, true_and, and_true, and_self, Option.bind_some, List.set_cons_succ, List.set_cons_zero, List.getElem?_cons_zero, List.getElem?_cons_succ, decide_eq_true_eq, Bool.not_eq_true', decide_eq_false_iff_not, not_true_eq_false, not_false_eq_true, decide_true, decide_false, Bool.false_eq_true, if_true, if_false, List.map_cons, List.map_nil, List.length_cons, List.length_nil, List.cons_append, List.nil_append, Nat.zero_add, beq_self_eq_true, Bool.not_true, Bool.not_false, Nat.reduceAdd, Nat.reduceSub, Int.reduceEq, Nat.reduceLeDiff, Dv.env0, List.replicate, Dv.c_seq, Dv.c_if]
  refine lc_ga (α := List Nat) wD (fun w => .int (w.length : Int)) ?_
  simp only [Dv.wp_0, Dv.wp_1, Dv.wp_2, Dv.wp_3, Dv.wp_4, Dv.wp_5, true_and, and_true, and_self, Option.bind_some, List.set_cons_succ, List.set_cons_zero, List.getElem?_cons_zero, List.getElem?_cons_succ, decide_eq_true_eq, Bool.not_eq_true', decide_eq_false_iff_not, not_true_eq_false, not_false_eq_true, decide_true, decide_false, Bool.false_eq_true, if_true, if_false, List.map_cons, List.map_nil, List.length_cons, List.length_nil, List.cons_append, List.nil_append, Nat.zero_add, beq_self_eq_true, Bool.not_true, Bool.not_false, Nat.reduceAdd, Nat.reduceSub, Int.reduceEq, Nat.reduceLeDiff, Dv.env0, List.replicate, Dv.c_seq, Dv.c_if]
  refine ⟨ws, rfl, gok_nil, by rw [W.len]; omega, ?_, ?_⟩
  · intro w hw l
    simp only [Dv.wp_0, Dv.wp_1, Dv.wp_2, Dv.wp_3, Dv.wp_4, Dv.wp_5, true_and, and_true, and_self, Option.bind_some, List.set_cons_succ, List.set_cons_zero, List.getElem?_cons_zero, List.getElem?_cons_succ, decide_eq_true_eq, Bool.not_eq_true', decide_eq_false_iff_not, not_true_eq_false, not_false_eq_true, decide_true, decide_false, Bool.false_eq_true, if_true, if_false, List.map_cons, List.map_nil, List.length_cons, List.length_nil, List.cons_append, List.nil_append, Nat.zero_add, beq_self_eq_true, Bool.not_true, Bool.not_false, Nat.reduceAdd, Nat.reduceSub, Int.reduceEq, Nat.reduceLeDiff, Dv.env0, List.replicate, Dv.c_seq, Dv.c_if, wD, wS_len]
    exact ⟨[], by simp⟩
  intro k
  simp only [Dv.wp_0, Dv.wp_1, Dv.wp_2, Dv.wp_3, Dv.wp_4, Dv.wp_5, true_and, and_true, and_self, Option.bind_some, List.set_cons_succ, List.set_cons_zero, List.getElem?_cons_zero, List.getElem?_cons_succ, decide_eq_true_eq, Bool.not_eq_true', decide_eq_false_iff_not, not_true_eq_false, not_false_eq_true, decide_true, decide_false, Bool.false_eq_true, if_true, if_false, List.map_cons, List.map_nil, List.length_cons, List.length_nil, List.cons_append, List.nil_append, Nat.zero_add, beq_self_eq_true, Bool.not_true, Bool.not_false, Nat.reduceAdd, Nat.reduceSub, Int.reduceEq, Nat.reduceLeDiff, Dv.env0, List.replicate, Dv.c_seq, Dv.c_if, max_lens hne (new_at (μ := μ) (l := k)), c_iRng11 (j := (many ws : Int)) (by omega) (by omega)]
  refine ⟨List.range (many ws), by rw [rngD_nat, Int.toNat_natCast]; rfl, gok_nil, by simp; omega, ?_, ?_⟩
  · intro p hp k2
    simp only [Dv.wp_0, Dv.wp_1, Dv.wp_2, Dv.wp_3, Dv.wp_4, Dv.wp_5, true_and, and_true, and_self, Option.bind_some, List.set_cons_succ, List.set_cons_zero, List.getElem?_cons_zero, List.getElem?_cons_succ, decide_eq_true_eq, Bool.not_eq_true', decide_eq_false_iff_not, not_true_eq_false, not_false_eq_true, decide_true, decide_false, Bool.false_eq_true, if_true, if_false, List.map_cons, List.map_nil, List.length_cons, List.length_nil, List.cons_append, List.nil_append, Nat.zero_add, beq_self_eq_true, Bool.not_true, Bool.not_false, Nat.reduceAdd, Nat.reduceSub, Int.reduceEq, Nat.reduceLeDiff, Dv.env0, List.replicate, Dv.c_seq, Dv.c_if, natD, reading_at l2 W]
    exact ⟨[], by simp⟩
  intro k2
  have hN : (μ ++ C.lst (ws.map fun w => D.int (w.length : Int)) :: k ++ C.lst ((List.range (many ws)).map fun p => natD (numF l ws p)) :: k2)[(μ ++ C.lst (ws.map fun w => D.int (w.length : Int)) :: k).length]? = some (.lst ((List.range (many ws)).map fun p => natD (numF l ws p))) := new_at
  have g1 : Gr μ (μ ++ C.lst (ws.map fun w => D.int (w.length : Int)) :: k ++ C.lst ((List.range (many ws)).map fun p => natD (numF l ws p)) :: k2) := Gr.refl.app.app
  generalize (μ ++ C.lst (ws.map fun w => D.int (w.length : Int)) :: k).length = nn at *
  generalize (μ ++ C.lst (ws.map fun w => D.int (w.length : Int)) :: k ++ C.lst ((List.range (many ws)).map fun p => natD (numF l ws p)) :: k2) = m1 at *
  have hn1 := g1.at hn
  simp only [Dv.wp_0, Dv.wp_1, Dv.wp_2, Dv.wp_3, Dv.wp_4, Dv.wp_5, true_and, and_true, and_self, Option.bind_some, List.set_cons_succ, List.set_cons_zero, List.getElem?_cons_zero, List.getElem?_cons_succ, decide_eq_true_eq, Bool.not_eq_true', decide_eq_false_iff_not, not_true_eq_false, not_false_eq_true, decide_true, decide_false, Bool.false_eq_true, if_true, if_false, List.map_cons, List.map_nil, List.length_cons, List.length_nil, List.cons_append, List.nil_append, Nat.zero_add, beq_self_eq_true, Bool.not_true, Bool.not_false, Nat.reduceAdd, Nat.reduceSub, Int.reduceEq, Nat.reduceLeDiff, Dv.env0, List.replicate, Dv.c_seq, Dv.c_if, c_iLst1 hN]
  refine for_wp (fun i e m => m = m1 ∧ ∃ x, e = [some (.cell n), some (.tup (ws.map wD)), some (natD (run T (numF l ws) i)), x]) ?_ ⟨rfl, _, rfl⟩ ?_ ?_
  · rintro i e m ⟨rfl, _⟩
    exact gok_one.mpr hN
  · rintro i x _ m hx ⟨rfl, y, rfl⟩
    rw [List.getElem?_map] at hx
    obtain ⟨p, hp, rfl⟩ := Option.map_eq_some_iff.mp hx
    have hi := (List.getElem?_eq_some_iff.mp hp).1
    rw [List.length_range] at hi
    rw [List.getElem?_range hi] at hp
    cases hp
    have hr := run_lt (k := i) hT (fun p hp => num_ok r2 W p (by omega))
    obtain ⟨z1, z2⟩ := num_ok r2 W i hi
    obtain ⟨q1, q2, q3, q4⟩ := nxt_lt hT hr z1 z2
    have e5 : atI ((T[run T (numF l ws) i]).2.map fun j : Nat => D.int (j : Int)) ((numF l ws i - 1 : Nat) : Int) = some (natD ((T[run T (numF l ws) i]).2[numF l ws i - 1])) := at_natD q3
    simp only [Dv.wp_0, Dv.wp_1, Dv.wp_2, Dv.wp_3, Dv.wp_4, Dv.wp_5, true_and, and_true, and_self, Option.bind_some, List.set_cons_succ, List.set_cons_zero, List.getElem?_cons_zero, List.getElem?_cons_succ, decide_eq_true_eq, Bool.not_eq_true', decide_eq_false_iff_not, not_true_eq_false, not_false_eq_true, decide_true, decide_false, Bool.false_eq_true, if_true, if_false, List.map_cons, List.map_nil, List.length_cons, List.length_nil, List.cons_append, List.nil_append, Nat.zero_add, beq_self_eq_true, Bool.not_true, Bool.not_false, Nat.reduceAdd, Nat.reduceSub, Int.reduceEq, Nat.reduceLeDiff, Dv.env0, List.replicate, Dv.c_seq, Dv.c_if, fld_at (f := "table") (d := .tup (T.map rowD)) hn1 rfl, natD, at_rowD hr, rowD]
    rw [show ((numF l ws i : Nat) : Int) - 1 = ((numF l ws i - 1 : Nat) : Int) by omega]
    simp only [Dv.wp_0, Dv.wp_1, Dv.wp_2, Dv.wp_3, Dv.wp_4, Dv.wp_5, true_and, and_true, and_self, Option.bind_some, List.set_cons_succ, List.set_cons_zero, List.getElem?_cons_zero, List.getElem?_cons_succ, decide_eq_true_eq, Bool.not_eq_true', decide_eq_false_iff_not, not_true_eq_false, not_false_eq_true, decide_true, decide_false, Bool.false_eq_true, if_true, if_false, List.map_cons, List.map_nil, List.length_cons, List.length_nil, List.cons_append, List.nil_append, Nat.zero_add, beq_self_eq_true, Bool.not_true, Bool.not_false, Nat.reduceAdd, Nat.reduceSub, Int.reduceEq, Nat.reduceLeDiff, Dv.env0, List.replicate, Dv.c_seq, Dv.c_if, e5]
    exact ⟨_, by rw [run_succ, q4]; rfl⟩
  · rintro _ m ⟨rfl, y, rfl⟩
    rw [List.length_map, List.length_range]
    have hr := run_lt (k := many ws) hT (fun p hp => num_ok r2 W p hp)
    simp only [Dv.wp_0, Dv.wp_1, Dv.wp_2, Dv.wp_3, Dv.wp_4, Dv.wp_5, true_and, and_true, and_self, Option.bind_some, List.set_cons_succ, List.set_cons_zero, List.getElem?_cons_zero, List.getElem?_cons_succ, decide_eq_true_eq, Bool.not_eq_true', decide_eq_false_iff_not, not_true_eq_false, not_false_eq_true, decide_true, decide_false, Bool.false_eq_true, if_true, if_false, List.map_cons, List.map_nil, List.length_cons, List.length_nil, List.cons_append, List.nil_append, Nat.zero_add, beq_self_eq_true, Bool.not_true, Bool.not_false, Nat.reduceAdd, Nat.reduceSub, Int.reduceEq, Nat.reduceLeDiff, Dv.env0, List.replicate, Dv.c_seq, Dv.c_if, fld_at (f := "table") (d := .tup (T.map rowD)) hn1 rfl, natD, at_rowD hr, rowD]
    have := h m g1
    unfold ans at this
    rw [List.getD_eq_getElem?_getD, List.getElem?_eq_getElem hr, Option.getD_some] at this
    exact this
end
end Law

set_option maxRecDepth 100000
set_option maxHeartbeats 4000000
namespace Law
open PySem PySem.Spec PyProof.Rows L2 Dv
/-- a column of words -/
def cSg (w : List Nat) (p : Nat) : D := match w[p]? with
  | some i => .str ⟨#[97 + i]⟩
  | none => .str "-"
theorem find_c {l p : Nat} {w : List Nat} {m : Mem} (l2 : l ≤ 2) (h : ∀ i ∈ w, i < l) : ∃ z, cSg w p = .str z ∧ mFind (.str "-ab") [.str z] m = .ok (.int (sg w p : Int)) m := by
  unfold cSg sg
  cases e : w[p]? with
  | none => exact ⟨_, rfl, find_no⟩
  | some i => exact ⟨_, rfl, find_ab (by have := h i (List.mem_of_getElem? e); omega)⟩
section
variable {rows l : Nat} {T : List (Bool × List Nat)} {ws : List (List Nat)}
theorem column_at {p : Nat} {μ : Mem} {Q : D → Mem → Prop} {X : Exn → Mem → Prop} (r4 : rows ≤ 4) (W : Words rows l ws) (h : ∀ μ', Gr μ μ' → Q (.tup (ws.map fun w => cSg w p)) μ') : (g__law_column_at [.tup (ws.map wD), .int p] μ).wp Q X := by
  unfold g__law_column_at b__law_column_at
  refine body_wp ?_
  simp only [Dv.wp_0, Dv.wp_1, Dv.wp_2, Dv.wp_3, Dv.wp_4, Dv.wp_5, true_and, and_true, and_self, Option.bind_some, List.set_cons_succ, List.set_cons_zero, List.getElem?_cons_zero, List.getElem?_cons_succ, decide_eq_true_eq, Bool.not_eq_true', decide_eq_false_iff_not, not_true_eq_false, not_false_eq_true, decide_true, decide_false, Bool.false_eq_true, if_true, if_false, List.map_cons, List.map_nil, List.length_cons, List.length_nil, List.cons_append, List.nil_append, Nat.zero_add, beq_self_eq_true, Bool.not_true, Bool.not_false, Nat.reduceAdd, Nat.reduceSub, Int.reduceEq, Nat.reduceLeDiff, Dv.env0, List.replicate, Dv.c_seq, Dv.c_if]
  refine lc_ga (α := List Nat) wD (fun w => cSg w p) ?_
  simp only [Dv.wp_0, Dv.wp_1, Dv.wp_2, Dv.wp_3, Dv.wp_4, Dv.wp_5, true_and, and_true, and_self, Option.bind_some, List.set_cons_succ, List.set_cons_zero, List.getElem?_cons_zero, List.getElem?_cons_succ, decide_eq_true_eq, Bool.not_eq_true', decide_eq_false_iff_not, not_true_eq_false, not_false_eq_true, decide_true, decide_false, Bool.false_eq_true, if_true, if_false, List.map_cons, List.map_nil, List.length_cons, List.length_nil, List.cons_append, List.nil_append, Nat.zero_add, beq_self_eq_true, Bool.not_true, Bool.not_false, Nat.reduceAdd, Nat.reduceSub, Int.reduceEq, Nat.reduceLeDiff, Dv.env0, List.replicate, Dv.c_seq, Dv.c_if]
  refine ⟨ws, rfl, gok_nil, by rw [W.len]; omega, ?_, ?_⟩
  · intro w hw k
    simp only [Dv.wp_0, Dv.wp_1, Dv.wp_2, Dv.wp_3, Dv.wp_4, Dv.wp_5, true_and, and_true, and_self, Option.bind_some, List.set_cons_succ, List.set_cons_zero, List.getElem?_cons_zero, List.getElem?_cons_succ, decide_eq_true_eq, Bool.not_eq_true', decide_eq_false_iff_not, not_true_eq_false, not_false_eq_true, decide_true, decide_false, Bool.false_eq_true, if_true, if_false, List.map_cons, List.map_nil, List.length_cons, List.length_nil, List.cons_append, List.nil_append, Nat.zero_add, beq_self_eq_true, Bool.not_true, Bool.not_false, Nat.reduceAdd, Nat.reduceSub, Int.reduceEq, Nat.reduceLeDiff, Dv.env0, List.replicate, Dv.c_seq, Dv.c_if, wD, wS_len]
    by_cases c : p < w.length
    · have e1 := fun m => wS_at c m
      unfold wD at e1
      simp only [Dv.wp_0, Dv.wp_1, Dv.wp_2, Dv.wp_3, Dv.wp_4, Dv.wp_5, true_and, and_true, and_self, Option.bind_some, List.set_cons_succ, List.set_cons_zero, List.getElem?_cons_zero, List.getElem?_cons_succ, decide_eq_true_eq, Bool.not_eq_true', decide_eq_false_iff_not, not_true_eq_false, not_false_eq_true, decide_true, decide_false, Bool.false_eq_true, if_true, if_false, List.map_cons, List.map_nil, List.length_cons, List.length_nil, List.cons_append, List.nil_append, Nat.zero_add, beq_self_eq_true, Bool.not_true, Bool.not_false, Nat.reduceAdd, Nat.reduceSub, Int.reduceEq, Nat.reduceLeDiff, Dv.env0, List.replicate, Dv.c_seq, Dv.c_if, show (p : Int) < (w.length : Int) by omega, e1, cSg, List.getElem?_eq_getElem c]
      exact ⟨[], by simp⟩
    · simp only [Dv.wp_0, Dv.wp_1, Dv.wp_2, Dv.wp_3, Dv.wp_4, Dv.wp_5, true_and, and_true, and_self, Option.bind_some, List.set_cons_succ, List.set_cons_zero, List.getElem?_cons_zero, List.getElem?_cons_succ, decide_eq_true_eq, Bool.not_eq_true', decide_eq_false_iff_not, not_true_eq_false, not_false_eq_true, decide_true, decide_false, Bool.false_eq_true, if_true, if_false, List.map_cons, List.map_nil, List.length_cons, List.length_nil, List.cons_append, List.nil_append, Nat.zero_add, beq_self_eq_true, Bool.not_true, Bool.not_false, Nat.reduceAdd, Nat.reduceSub, Int.reduceEq, Nat.reduceLeDiff, Dv.env0, List.replicate, Dv.c_seq, Dv.c_if, show ¬ (p : Int) < (w.length : Int) by omega, cSg, List.getElem?_eq_none (show w.length ≤ p by omega)]
      exact ⟨[], by simp⟩
  · intro k
    simp only [Dv.wp_0, Dv.wp_1, Dv.wp_2, Dv.wp_3, Dv.wp_4, Dv.wp_5, true_and, and_true, and_self, Option.bind_some, List.set_cons_succ, List.set_cons_zero, List.getElem?_cons_zero, List.getElem?_cons_succ, decide_eq_true_eq, Bool.not_eq_true', decide_eq_false_iff_not, not_true_eq_false, not_false_eq_true, decide_true, decide_false, Bool.false_eq_true, if_true, if_false, List.map_cons, List.map_nil, List.length_cons, List.length_nil, List.cons_append, List.nil_append, Nat.zero_add, beq_self_eq_true, Bool.not_true, Bool.not_false, Nat.reduceAdd, Nat.reduceSub, Int.reduceEq, Nat.reduceLeDiff, Dv.env0, List.replicate, Dv.c_seq, Dv.c_if, tupOf_cell (new_at (μ := μ) (l := k))]
    exact h _ Gr.refl.app
theorem lead {d : D} {p st : Nat} {μ : Mem} {Q : D → Mem → Prop} {X : Exn → Mem → Prop} (S : IsSpec d rows l T) (W : Words rows l ws) (hs : st < T.length) (hp : p < many ws) (h : Q (natD (nxt T (numF l ws) st p)) μ) : (g__law_lead [d, natD st, .tup (ws.map fun w => cSg w p)] μ).wp Q X := by
  have r2 := S.r2
  have l2 := S.l2
  obtain ⟨z1, z2⟩ := num_ok (by omega) W p hp
  obtain ⟨q1, q2, q3, q4⟩ := nxt_lt S.tab hs z1 z2
  rw [S.e]
  unfold g__law_lead b__law_lead
  refine body_wp ?_
  refine cut (fun e m => m = μ ∧ e = [some (.tup [.int rows, .int l, .tup (T.map rowD)]), some (natD st), some (.tup (ws.map fun w => cSg w p)), some (.int 0), none]) ?_ ?_
  · simp only [Dv.wp_0, Dv.wp_1, Dv.wp_2, Dv.wp_3, Dv.wp_4, Dv.wp_5, true_and, and_true, and_self, Option.bind_some, List.set_cons_succ, List.set_cons_zero, List.getElem?_cons_zero, List.getElem?_cons_succ, decide_eq_true_eq, Bool.not_eq_true', decide_eq_false_iff_not, not_true_eq_false, not_false_eq_true, decide_true, decide_false, Bool.false_eq_true, if_true, if_false, List.map_cons, List.map_nil, List.length_cons, List.length_nil, List.cons_append, List.nil_append, Nat.zero_add, beq_self_eq_true, Bool.not_true, Bool.not_false, Nat.reduceAdd, Nat.reduceSub, Int.reduceEq, Nat.reduceLeDiff, Dv.env0, List.replicate, Dv.c_seq, Dv.c_if]
  rintro _ m0 ⟨hm0, rfl⟩
  rw [hm0]
  refine cut (fun e m => m = μ ∧ ∃ x, e = [some (.tup [.int rows, .int l, .tup (T.map rowD)]), some (natD st), some (.tup (ws.map fun w => cSg w p)), some (natD (numF l ws p)), x]) ?_ ?_
  · simp only [Dv.wp_0, Dv.wp_1, Dv.wp_2, Dv.wp_3, Dv.wp_4, Dv.wp_5, true_and, and_true, and_self, Option.bind_some, List.set_cons_succ, List.set_cons_zero, List.getElem?_cons_zero, List.getElem?_cons_succ, decide_eq_true_eq, Bool.not_eq_true', decide_eq_false_iff_not, not_true_eq_false, not_false_eq_true, decide_true, decide_false, Bool.false_eq_true, if_true, if_false, List.map_cons, List.map_nil, List.length_cons, List.length_nil, List.cons_append, List.nil_append, Nat.zero_add, beq_self_eq_true, Bool.not_true, Bool.not_false, Nat.reduceAdd, Nat.reduceSub, Int.reduceEq, Nat.reduceLeDiff, Dv.env0, List.replicate, Dv.c_seq, Dv.c_if]
    refine for_wp (fun i e m => m = μ ∧ ∃ x, e = [some (.tup [.int rows, .int l, .tup (T.map rowD)]), some (natD st), some (.tup (ws.map fun w => cSg w p)), some (natD ((ws.take i).foldl (fun n w => n * (l + 1) + sg w p) 0)), x]) (fun _ _ _ _ => gok_nil) ⟨rfl, _, rfl⟩ ?_ ?_
    · rintro i x _ m hx ⟨rfl, y, rfl⟩
      rw [List.getElem?_map] at hx
      obtain ⟨w, hw, rfl⟩ := Option.map_eq_some_iff.mp hx
      obtain ⟨z, e1, e2⟩ := find_c (p := p) (m := m) l2 (W.let_ w (List.mem_of_getElem? hw))
      rw [List.take_add_one, hw]
      generalize hn : (ws.take i).foldl (fun n w => n * (l + 1) + sg w p) 0 = n
      rw [show ((ws.take i ++ (some w).toList).foldl (fun n w => n * (l + 1) + sg w p) 0) = n * (l + 1) + sg w p by rw [Option.toList_some, List.foldl_append, hn]; rfl]
      simp only [Dv.wp_0, Dv.wp_1, Dv.wp_2, Dv.wp_3, Dv.wp_4, Dv.wp_5, true_and, and_true, and_self, Option.bind_some, List.set_cons_succ, List.set_cons_zero, List.getElem?_cons_zero, List.getElem?_cons_succ, decide_eq_true_eq, Bool.not_eq_true', decide_eq_false_iff_not, not_true_eq_false, not_false_eq_true, decide_true, decide_false, Bool.false_eq_true, if_true, if_false, List.map_cons, List.map_nil, List.length_cons, List.length_nil, List.cons_append, List.nil_append, Nat.zero_add, beq_self_eq_true, Bool.not_true, Bool.not_false, Nat.reduceAdd, Nat.reduceSub, Int.reduceEq, Nat.reduceLeDiff, Dv.env0, List.replicate, Dv.c_seq, Dv.c_if, natD, mulL (i := (n : Int)) (j := (l : Int) + 1) (.inr ⟨by omega, by omega⟩), e1, tyM, e2]
      exact ⟨some (.str z), by simp [natD]⟩
    · rintro _ m ⟨rfl, y, rfl⟩
      rw [List.length_map, List.take_of_length_le (Nat.le_refl _)]
      exact ⟨rfl, y, rfl⟩
  · rintro _ m ⟨rfl, y, rfl⟩
    have e5 : atI ((T[st]).2.map fun j : Nat => D.int (j : Int)) ((numF l ws p - 1 : Nat) : Int) = some (natD ((T[st]).2[numF l ws p - 1])) := at_natD q3
    simp only [Dv.wp_0, Dv.wp_1, Dv.wp_2, Dv.wp_3, Dv.wp_4, Dv.wp_5, true_and, and_true, and_self, Option.bind_some, List.set_cons_succ, List.set_cons_zero, List.getElem?_cons_zero, List.getElem?_cons_succ, decide_eq_true_eq, Bool.not_eq_true', decide_eq_false_iff_not, not_true_eq_false, not_false_eq_true, decide_true, decide_false, Bool.false_eq_true, if_true, if_false, List.map_cons, List.map_nil, List.length_cons, List.length_nil, List.cons_append, List.nil_append, Nat.zero_add, beq_self_eq_true, Bool.not_true, Bool.not_false, Nat.reduceAdd, Nat.reduceSub, Int.reduceEq, Nat.reduceLeDiff, Dv.env0, List.replicate, Dv.c_seq, Dv.c_if, natD, show ¬ ((numF l ws p : Nat) : Int) = 0 by omega, at_rowD hs, rowD]
    rw [show ((numF l ws p : Nat) : Int) - 1 = ((numF l ws p - 1 : Nat) : Int) by omega]
    simp only [Dv.wp_0, Dv.wp_1, Dv.wp_2, Dv.wp_3, Dv.wp_4, Dv.wp_5, true_and, and_true, and_self, Option.bind_some, List.set_cons_succ, List.set_cons_zero, List.getElem?_cons_zero, List.getElem?_cons_succ, decide_eq_true_eq, Bool.not_eq_true', decide_eq_false_iff_not, not_true_eq_false, not_false_eq_true, decide_true, decide_false, Bool.false_eq_true, if_true, if_false, List.map_cons, List.map_nil, List.length_cons, List.length_nil, List.cons_append, List.nil_append, Nat.zero_add, beq_self_eq_true, Bool.not_true, Bool.not_false, Nat.reduceAdd, Nat.reduceSub, Int.reduceEq, Nat.reduceLeDiff, Dv.env0, List.replicate, Dv.c_seq, Dv.c_if, e5]
    rw [← q4]; exact h
theorem law_answer {d : D} {μ : Mem} {Q : D → Mem → Prop} {X : Exn → Mem → Prop} (S : IsSpec d rows l T) (W : Words rows l ws) (h : ∀ μ', Gr μ μ' → Q (.bl (ans T l ws)) μ') : (g__law_answer [d, .tup (ws.map wD)] μ).wp Q X := by
  have r2 := S.r2
  have r4 := S.r4
  have l2 := S.l2
  have hne : ws ≠ [] := by intro e; have := W.len; rw [e] at this; simp at this; omega
  have hml := many_le W (by omega)
  unfold g__law_answer b__law_answer
  refine body_wp ?_
  simp only [Dv.wp_0, Dv.wp_1, Dv.wp_2, Dv.wp_3, Dv.wp_4, Dv.wp_5, true_and, and_true, and_self, Option.bind_some, List.set_cons_succ, List.set_cons_zero, List.getElem?_cons_zero, List.getElem?_cons_succ, decide_eq_true_eq, Bool.not_eq_true', decide_eq_false_iff_not, not_true_eq_false, not_false_eq_true, decide_true, decide_false, Bool.false_eq_true, if_true, if_false, List.map_cons, List.map_nil, List.length_cons, List.length_nil, List.cons_append, List.nil_append, Nat.zero_add, beq_self_eq_true, Bool.not_true, Bool.not_false, Nat.reduceAdd, Nat.reduceSub, Int.reduceEq, Nat.reduceLeDiff, Dv.env0, List.replicate, Dv.c_seq, Dv.c_if]
  refine lc_ga (α := List Nat) wD (fun w => .int (w.length : Int)) ?_
  simp only [Dv.wp_0, Dv.wp_1, Dv.wp_2, Dv.wp_3, Dv.wp_4, Dv.wp_5, true_and, and_true, and_self, Option.bind_some, List.set_cons_succ, List.set_cons_zero, List.getElem?_cons_zero, List.getElem?_cons_succ, decide_eq_true_eq, Bool.not_eq_true', decide_eq_false_iff_not, not_true_eq_false, not_false_eq_true, decide_true, decide_false, Bool.false_eq_true, if_true, if_false, List.map_cons, List.map_nil, List.length_cons, List.length_nil, List.cons_append, List.nil_append, Nat.zero_add, beq_self_eq_true, Bool.not_true, Bool.not_false, Nat.reduceAdd, Nat.reduceSub, Int.reduceEq, Nat.reduceLeDiff, Dv.env0, List.replicate, Dv.c_seq, Dv.c_if]
  refine ⟨ws, rfl, gok_nil, by rw [W.len]; omega, ?_, ?_⟩
  · intro w hw l
    simp only [Dv.wp_0, Dv.wp_1, Dv.wp_2, Dv.wp_3, Dv.wp_4, Dv.wp_5, true_and, and_true, and_self, Option.bind_some, List.set_cons_succ, List.set_cons_zero, List.getElem?_cons_zero, List.getElem?_cons_succ, decide_eq_true_eq, Bool.not_eq_true', decide_eq_false_iff_not, not_true_eq_false, not_false_eq_true, decide_true, decide_false, Bool.false_eq_true, if_true, if_false, List.map_cons, List.map_nil, List.length_cons, List.length_nil, List.cons_append, List.nil_append, Nat.zero_add, beq_self_eq_true, Bool.not_true, Bool.not_false, Nat.reduceAdd, Nat.reduceSub, Int.reduceEq, Nat.reduceLeDiff, Dv.env0, List.replicate, Dv.c_seq, Dv.c_if, wD, wS_len]
    exact ⟨[], by simp⟩
  intro k
  simp only [Dv.wp_0, Dv.wp_1, Dv.wp_2, Dv.wp_3, Dv.wp_4, Dv.wp_5, true_and, and_true, and_self, Option.bind_some, List.set_cons_succ, List.set_cons_zero, List.getElem?_cons_zero, List.getElem?_cons_succ, decide_eq_true_eq, Bool.not_eq_true', decide_eq_false_iff_not, not_true_eq_false, not_false_eq_true, decide_true, decide_false, Bool.false_eq_true, if_true, if_false, List.map_cons, List.map_nil, List.length_cons, List.length_nil, List.cons_append, List.nil_append, Nat.zero_add, beq_self_eq_true, Bool.not_true, Bool.not_false, Nat.reduceAdd, Nat.reduceSub, Int.reduceEq, Nat.reduceLeDiff, Dv.env0, List.replicate, Dv.c_seq, Dv.c_if, max_lens hne (new_at (μ := μ) (l := k)), c_iRng11 (j := (many ws : Int)) (by omega) (by omega), Int.toNat_natCast]
  refine for_wp (fun i e m => Gr μ m ∧ ∃ x y, e = [some d, some (.tup (ws.map wD)), some (natD (run T (numF l ws) i)), x, y]) (fun _ _ _ _ => gok_nil) ⟨Gr.refl.app, _, _, rfl⟩ ?_ ?_
  · rintro i x _ m hx ⟨g, y, y2, rfl⟩
    have hi := (List.getElem?_eq_some_iff.mp hx).1
    rw [len_rng] at hi
    have hxv : x = .int (i : Int) := by
      rw [rngD_nat, List.getElem?_map] at hx
      obtain ⟨y, hy, rfl⟩ := Option.map_eq_some_iff.mp hx
      rw [List.getElem?_range hi] at hy
      cases hy; rfl
    subst hxv
    have hr := run_lt (k := i) S.tab (fun p hp => num_ok (by omega) W p (by omega))
    simp only [Dv.wp_0, Dv.wp_1, Dv.wp_2, Dv.wp_3, Dv.wp_4, Dv.wp_5, true_and, and_true, and_self, Option.bind_some, List.set_cons_succ, List.set_cons_zero, List.getElem?_cons_zero, List.getElem?_cons_succ, decide_eq_true_eq, Bool.not_eq_true', decide_eq_false_iff_not, not_true_eq_false, not_false_eq_true, decide_true, decide_false, Bool.false_eq_true, if_true, if_false, List.map_cons, List.map_nil, List.length_cons, List.length_nil, List.cons_append, List.nil_append, Nat.zero_add, beq_self_eq_true, Bool.not_true, Bool.not_false, Nat.reduceAdd, Nat.reduceSub, Int.reduceEq, Nat.reduceLeDiff, Dv.env0, List.replicate, Dv.c_seq, Dv.c_if]
    refine column_at r4 W fun m2 g2 => ?_
    simp only [Dv.wp_0, Dv.wp_1, Dv.wp_2, Dv.wp_3, Dv.wp_4, Dv.wp_5, true_and, and_true, and_self, Option.bind_some, List.set_cons_succ, List.set_cons_zero, List.getElem?_cons_zero, List.getElem?_cons_succ, decide_eq_true_eq, Bool.not_eq_true', decide_eq_false_iff_not, not_true_eq_false, not_false_eq_true, decide_true, decide_false, Bool.false_eq_true, if_true, if_false, List.map_cons, List.map_nil, List.length_cons, List.length_nil, List.cons_append, List.nil_append, Nat.zero_add, beq_self_eq_true, Bool.not_true, Bool.not_false, Nat.reduceAdd, Nat.reduceSub, Int.reduceEq, Nat.reduceLeDiff, Dv.env0, List.replicate, Dv.c_seq, Dv.c_if]
    refine lead S W hr hi ?_
    simp only [Dv.wp_0, Dv.wp_1, Dv.wp_2, Dv.wp_3, Dv.wp_4, Dv.wp_5, true_and, and_true, and_self, Option.bind_some, List.set_cons_succ, List.set_cons_zero, List.getElem?_cons_zero, List.getElem?_cons_succ, decide_eq_true_eq, Bool.not_eq_true', decide_eq_false_iff_not, not_true_eq_false, not_false_eq_true, decide_true, decide_false, Bool.false_eq_true, if_true, if_false, List.map_cons, List.map_nil, List.length_cons, List.length_nil, List.cons_append, List.nil_append, Nat.zero_add, beq_self_eq_true, Bool.not_true, Bool.not_false, Nat.reduceAdd, Nat.reduceSub, Int.reduceEq, Nat.reduceLeDiff, Dv.env0, List.replicate, Dv.c_seq, Dv.c_if]
    exact ⟨g.trans g2, _, _, by rw [run_succ]⟩
  · rintro _ m ⟨g, y, y2, rfl⟩
    rw [len_rng]
    have hr := run_lt (k := many ws) S.tab (fun p hp => num_ok (by omega) W p hp)
    simp only [Dv.wp_0, Dv.wp_1, Dv.wp_2, Dv.wp_3, Dv.wp_4, Dv.wp_5, true_and, and_true, and_self, Option.bind_some, List.set_cons_succ, List.set_cons_zero, List.getElem?_cons_zero, List.getElem?_cons_succ, decide_eq_true_eq, Bool.not_eq_true', decide_eq_false_iff_not, not_true_eq_false, not_false_eq_true, decide_true, decide_false, Bool.false_eq_true, if_true, if_false, List.map_cons, List.map_nil, List.length_cons, List.length_nil, List.cons_append, List.nil_append, Nat.zero_add, beq_self_eq_true, Bool.not_true, Bool.not_false, Nat.reduceAdd, Nat.reduceSub, Int.reduceEq, Nat.reduceLeDiff, Dv.env0, List.replicate, Dv.c_seq, Dv.c_if, S.e, natD, at_rowD hr, rowD]
    have := h m g
    unfold ans at this
    rw [List.getD_eq_getElem?_getD, List.getElem?_eq_getElem hr, Option.getD_some] at this
    exact this
end
end Law

set_option maxRecDepth 100000
set_option maxHeartbeats 4000000
namespace Law
open PySem PySem.Spec PyProof.Rows L2 Dv TL
theorem ab_at {i : Nat} {μ : Mem} (h : i < 2) : ixD (.str "ab") (.int (i : Int)) μ = .ok (.str ⟨#[97 + i]⟩) μ := by
  rcases (by omega : i = 0 ∨ i = 1) with rfl | rfl
  · rfl
  · rfl
theorem join_w {w : List Nat} {n : Nat} {μ : Mem} (h : μ[n]? = some (.lst (w.map fun i => D.str ⟨#[97 + i]⟩))) (hl : w.length ≤ 1000) : dJoin (.str "") (.cell n) μ = .ok (wD w) μ := by
  have e : strsOf (w.map fun i => D.str ⟨#[97 + i]⟩) = some (w.map fun i => (⟨#[97 + i]⟩ : Str)) := by
    have := strsOf_map (w.map fun i => (⟨#[97 + i]⟩ : Str))
    rw [List.map_map] at this
    exact this
  have hf : joinFits "" (w.map fun i => (⟨#[97 + i]⟩ : Str)) := by
    unfold joinFits
    rw [List.map_map]
    have : ((fun x : Str => x.length) ∘ fun i : Nat => (⟨#[97 + i]⟩ : Str)) = fun _ => 1 := by funext i; rfl
    rw [this, List.map_const', List.sum_replicate_nat]
    have e0 : (("" : Str)).length = 0 := rfl
    rw [e0, List.length_map]
    omega
  have ej : Txt.join "" (w.map fun i => (⟨#[97 + i]⟩ : Str)) = wS w := by
    have e1 : ∀ ps : List (List Nat), joinL [] ps = ps.flatten := by
      intro ps
      induction ps with
      | nil => rfl
      | cons p ps ih =>
        cases ps with
        | nil => simp [joinL]
        | cons q r => rw [joinL, ih]; simp
    refine TL.ext_tl ?_
    rw [join_eq, tl_join]
    have e0 : tl ("" : Str) = [] := rfl
    rw [e0, e1, List.map_map]
    have : ∀ w : List Nat, (w.map (tl ∘ fun i => (⟨#[97 + i]⟩ : Str))).flatten = w.map (97 + ·) := by
      intro w
      induction w with
      | nil => rfl
      | cons x xs ih => rw [List.map_cons, List.flatten_cons, ih, List.map_cons]; rfl
    rw [this]
    simp [tl, wS]
  simp only [dJoin, seqOf, h, e]
  rw [if_pos hf, ej]; rfl
section
variable {p : Nat}
theorem drawn_words {μ : Mem} {rows l most : Nat} {Q : D → Mem → Prop} {X : Exn → Mem → Prop} (P : Pool μ p) (r4 : rows ≤ 4) (l1 : 1 ≤ l) (l2 : l ≤ 2) (hm : most ≤ 60) (h : ∀ ws μ', Words rows l ws → Pool μ' p → Stp p μ μ' → Q (.tup (ws.map wD)) μ') : (g__law_drawn_words [.cell p, .int rows, .int l, .int most] μ).wp Q X := by
  unfold g__law_drawn_words b__law_drawn_words
  refine body_wp ?_
  simp only [Dv.wp_0, Dv.wp_1, Dv.wp_2, Dv.wp_3, Dv.wp_4, Dv.wp_5, true_and, and_true, and_self, Option.bind_some, List.set_cons_succ, List.set_cons_zero, List.getElem?_cons_zero, List.getElem?_cons_succ, decide_eq_true_eq, Bool.not_eq_true', decide_eq_false_iff_not, not_true_eq_false, not_false_eq_true, decide_true, decide_false, Bool.false_eq_true, if_true, if_false, List.map_cons, List.map_nil, List.length_cons, List.length_nil, List.cons_append, List.nil_append, Nat.zero_add, beq_self_eq_true, Bool.not_true, Bool.not_false, Nat.reduceAdd, Nat.reduceSub, Int.reduceEq, Nat.reduceLeDiff, Dv.env0, List.replicate, Dv.c_seq, Dv.c_if, c_iRng11 (j := (rows : Int)) (by omega) (by omega), Int.toNat_natCast]
  refine for_wp (fun i e m => ∃ (ws : List (List Nat)) (x1 x2 : Option D), e = [some (.cell p), some (.int rows), some (.int l), some (.int most), some (.cell μ.length), x1, x2] ∧ Pool m p ∧ Stp p μ m ∧ Off m p μ.length ∧ Words i l ws ∧ m[μ.length]? = some (.lst (ws.map wD))) (fun _ _ _ _ => gok_nil) ?_ ?_ ?_
  · exact ⟨[], _, _, rfl, P.app, (Stp.refl P.lt).app, (P.off (Nat.le_refl _)).app P.lt, ⟨rfl, (fun _ h => nomatch h), (fun _ h => nomatch h)⟩, new_at (l := [])⟩
  · rintro i x _ m hx ⟨ws, x1, x2, rfl, P1, S1, O1, W, hm1⟩
    have hi := (List.getElem?_eq_some_iff.mp hx).1
    rw [len_rng] at hi
    simp only [Dv.wp_0, Dv.wp_1, Dv.wp_2, Dv.wp_3, Dv.wp_4, Dv.wp_5, true_and, and_true, and_self, Option.bind_some, List.set_cons_succ, List.set_cons_zero, List.getElem?_cons_zero, List.getElem?_cons_succ, decide_eq_true_eq, Bool.not_eq_true', decide_eq_false_iff_not, not_true_eq_false, not_false_eq_true, decide_true, decide_false, Bool.false_eq_true, if_true, if_false, List.map_cons, List.map_nil, List.length_cons, List.length_nil, List.cons_append, List.nil_append, Nat.zero_add, beq_self_eq_true, Bool.not_true, Bool.not_false, Nat.reduceAdd, Nat.reduceSub, Int.reduceEq, Nat.reduceLeDiff, Dv.env0, List.replicate, Dv.c_seq, Dv.c_if, tyL hm1]
    refine lc_wp ?_
    simp only [Dv.wp_0, Dv.wp_1, Dv.wp_2, Dv.wp_3, Dv.wp_4, Dv.wp_5, true_and, and_true, and_self, Option.bind_some, List.set_cons_succ, List.set_cons_zero, List.getElem?_cons_zero, List.getElem?_cons_succ, decide_eq_true_eq, Bool.not_eq_true', decide_eq_false_iff_not, not_true_eq_false, not_false_eq_true, decide_true, decide_false, Bool.false_eq_true, if_true, if_false, List.map_cons, List.map_nil, List.length_cons, List.length_nil, List.cons_append, List.nil_append, Nat.zero_add, beq_self_eq_true, Bool.not_true, Bool.not_false, Nat.reduceAdd, Nat.reduceSub, Int.reduceEq, Nat.reduceLeDiff, Dv.env0, List.replicate, Dv.c_seq, Dv.c_if]
    refine draw P1 (by omega) (by omega) fun k m2 k0 k1 P2 S2 => ?_
    obtain ⟨kn, rfl⟩ := Int.eq_ofNat_of_zero_le k0
    simp only [Dv.wp_0, Dv.wp_1, Dv.wp_2, Dv.wp_3, Dv.wp_4, Dv.wp_5, true_and, and_true, and_self, Option.bind_some, List.set_cons_succ, List.set_cons_zero, List.getElem?_cons_zero, List.getElem?_cons_succ, decide_eq_true_eq, Bool.not_eq_true', decide_eq_false_iff_not, not_true_eq_false, not_false_eq_true, decide_true, decide_false, Bool.false_eq_true, if_true, if_false, List.map_cons, List.map_nil, List.length_cons, List.length_nil, List.cons_append, List.nil_append, Nat.zero_add, beq_self_eq_true, Bool.not_true, Bool.not_false, Nat.reduceAdd, Nat.reduceSub, Int.reduceEq, Nat.reduceLeDiff, Dv.env0, List.replicate, Dv.c_seq, Dv.c_if, c_iRng11 (j := (kn : Int)) (by omega) (by omega), Int.toNat_natCast]
    refine ⟨fun i acc m' => ∃ w : List Nat, acc = (w.map fun i => D.str ⟨#[97 + i]⟩) ∧ w.length = i ∧ (∀ i ∈ w, i < l) ∧ Pool m' p ∧ Stp p m2 m' ∧ Off m' p m2.length, (fun _ _ _ _ => gok_nil), ⟨[], rfl, rfl, (fun _ h => nomatch h), P2.app, (Stp.refl P2.lt).app, (P2.off (Nat.le_refl _)).app P2.lt⟩, ?_, ?_⟩
    · rintro j y _ m3 hy ⟨w, rfl, hw, hb, P3, S3, O3⟩ hm3
      have hj := (List.getElem?_eq_some_iff.mp hy).1
      rw [len_rng] at hj
      simp only [Dv.wp_0, Dv.wp_1, Dv.wp_2, Dv.wp_3, Dv.wp_4, Dv.wp_5, true_and, and_true, and_self, Option.bind_some, List.set_cons_succ, List.set_cons_zero, List.getElem?_cons_zero, List.getElem?_cons_succ, decide_eq_true_eq, Bool.not_eq_true', decide_eq_false_iff_not, not_true_eq_false, not_false_eq_true, decide_true, decide_false, Bool.false_eq_true, if_true, if_false, List.map_cons, List.map_nil, List.length_cons, List.length_nil, List.cons_append, List.nil_append, Nat.zero_add, beq_self_eq_true, Bool.not_true, Bool.not_false, Nat.reduceAdd, Nat.reduceSub, Int.reduceEq, Nat.reduceLeDiff, Dv.env0, List.replicate, Dv.c_seq, Dv.c_if]
      refine draw P3 (by omega) (by omega) fun r m4 r0 r1 P4 S4 => ?_
      obtain ⟨rn, rfl⟩ := Int.eq_ofNat_of_zero_le r0
      simp only [Dv.wp_0, Dv.wp_1, Dv.wp_2, Dv.wp_3, Dv.wp_4, Dv.wp_5, true_and, and_true, and_self, Option.bind_some, List.set_cons_succ, List.set_cons_zero, List.getElem?_cons_zero, List.getElem?_cons_succ, decide_eq_true_eq, Bool.not_eq_true', decide_eq_false_iff_not, not_true_eq_false, not_false_eq_true, decide_true, decide_false, Bool.false_eq_true, if_true, if_false, List.map_cons, List.map_nil, List.length_cons, List.length_nil, List.cons_append, List.nil_append, Nat.zero_add, beq_self_eq_true, Bool.not_true, Bool.not_false, Nat.reduceAdd, Nat.reduceSub, Int.reduceEq, Nat.reduceLeDiff, Dv.env0, List.replicate, Dv.c_seq, Dv.c_if, ab_at (i := rn) (by omega)]
      refine ⟨S4.at hm3 O3, by simp; omega, w ++ [rn], by simp, by simp [hw], fun i h => (List.mem_append.mp h).elim (hb i) (fun h => by rw [List.mem_singleton] at h; omega), P4.put (S4.off hm3 O3), (S3.trans S4).put (Nat.le_refl _), (S4.off hm3 O3).set O3.1⟩
    · rintro _ m3 ⟨w, rfl, hw, hb, P3, S3, O3⟩ hm3
      rw [len_rng] at hw
      have S13 := S2.trans S3
      have hmA := S13.at hm1 O1
      simp only [Dv.wp_0, Dv.wp_1, Dv.wp_2, Dv.wp_3, Dv.wp_4, Dv.wp_5, true_and, and_true, and_self, Option.bind_some, List.set_cons_succ, List.set_cons_zero, List.getElem?_cons_zero, List.getElem?_cons_succ, decide_eq_true_eq, Bool.not_eq_true', decide_eq_false_iff_not, not_true_eq_false, not_false_eq_true, decide_true, decide_false, Bool.false_eq_true, if_true, if_false, List.map_cons, List.map_nil, List.length_cons, List.length_nil, List.cons_append, List.nil_append, Nat.zero_add, beq_self_eq_true, Bool.not_true, Bool.not_false, Nat.reduceAdd, Nat.reduceSub, Int.reduceEq, Nat.reduceLeDiff, Dv.env0, List.replicate, Dv.c_seq, Dv.c_if, join_w hm3 (by omega)]
      refine append_wp hmA (by simp [W.len]; omega) ?_
      simp only [Dv.wp_0, Dv.wp_1, Dv.wp_2, Dv.wp_3, Dv.wp_4, Dv.wp_5, true_and, and_true, and_self, Option.bind_some, List.set_cons_succ, List.set_cons_zero, List.getElem?_cons_zero, List.getElem?_cons_succ, decide_eq_true_eq, Bool.not_eq_true', decide_eq_false_iff_not, not_true_eq_false, not_false_eq_true, decide_true, decide_false, Bool.false_eq_true, if_true, if_false, List.map_cons, List.map_nil, List.length_cons, List.length_nil, List.cons_append, List.nil_append, Nat.zero_add, beq_self_eq_true, Bool.not_true, Bool.not_false, Nat.reduceAdd, Nat.reduceSub, Int.reduceEq, Nat.reduceLeDiff, Dv.env0, List.replicate, Dv.c_seq, Dv.c_if]
      refine ⟨ws ++ [w], _, _, rfl, P3.put (S13.off hm1 O1), (S1.trans S13).put (Nat.le_refl _), (S13.off hm1 O1).set O1.1, ⟨by simp [W.len], ?_, ?_⟩, by rw [get_set hmA]; simp⟩
      · intro v hv
        rcases List.mem_append.mp hv with hv | hv
        · exact W.let_ v hv
        · rw [List.mem_singleton] at hv; subst hv; exact hb
      · intro v hv
        rcases List.mem_append.mp hv with hv | hv
        · exact W.short v hv
        · rw [List.mem_singleton] at hv; subst hv; omega
  · rintro _ m ⟨ws, x1, x2, rfl, P1, S1, O1, W, hm1⟩
    rw [len_rng] at W
    simp only [Dv.wp_0, Dv.wp_1, Dv.wp_2, Dv.wp_3, Dv.wp_4, Dv.wp_5, true_and, and_true, and_self, Option.bind_some, List.set_cons_succ, List.set_cons_zero, List.getElem?_cons_zero, List.getElem?_cons_succ, decide_eq_true_eq, Bool.not_eq_true', decide_eq_false_iff_not, not_true_eq_false, not_false_eq_true, decide_true, decide_false, Bool.false_eq_true, if_true, if_false, List.map_cons, List.map_nil, List.length_cons, List.length_nil, List.cons_append, List.nil_append, Nat.zero_add, beq_self_eq_true, Bool.not_true, Bool.not_false, Nat.reduceAdd, Nat.reduceSub, Int.reduceEq, Nat.reduceLeDiff, Dv.env0, List.replicate, Dv.c_seq, Dv.c_if, tupOf_cell hm1]
    exact h ws m W P1 S1
end
end Law

set_option maxRecDepth 100000
set_option maxHeartbeats 4000000
namespace Law
open PySem PySem.Spec PyProof.Rows L2 Dv
theorem Stp.gr {p : Nat} {μ μ1 μ2 : Mem} (a : Stp p μ μ1) (g : Gr μ1 μ2) : Stp p μ μ2 := a.trans (g.stp (Nat.lt_of_lt_of_le a.lt a.le))
theorem empty_words {rows l : Nat} (r2 : 1 ≤ rows) : Words rows l (List.replicate rows []) ∧ many (List.replicate rows ([] : List Nat)) = 0 := by
  refine ⟨⟨by simp, fun w hw => ?_, fun w hw => ?_⟩, ?_⟩
  · rw [List.eq_of_mem_replicate hw]; exact fun _ h => nomatch h
  · rw [List.eq_of_mem_replicate hw]; simp
  · induction rows with
    | zero => rfl
    | succ n ih =>
      rw [List.replicate_succ]
      show max 0 (many (List.replicate n [])) = 0
      cases n with
      | zero => rfl
      | succ n => rw [ih (by omega)]; rfl
theorem wD_nil : wD [] = .str "" := rfl
section
variable {K : PySem.W.Frag} {a : Adr} {p : Nat}
theorem main_wp (T : PureT K a) (ns : List Int) (h : ns.length ≤ 63) : (g_law K a [.scr ns] []).wp (fun d _ => d = .bl true) noX := by
  unfold g_law b_law
  refine body_wp ?_
  (rw [Dv.c_seq]; simp only [Dv.wp_0, Dv.wp_1, Dv.wp_2, Dv.wp_3, Dv.wp_4, Dv.wp_5, true_and, and_true, and_self, Option.bind_some, List.set_cons_succ, List.set_cons_zero, List.getElem?_cons_zero, List.getElem?_cons_succ, decide_eq_true_eq, Bool.not_eq_true', decide_eq_false_iff_not, not_true_eq_false, not_false_eq_true, decide_true, decide_false, Bool.false_eq_true, if_true, if_false, List.map_cons, List.map_nil, List.length_cons, List.length_nil, List.cons_append, List.nil_append, Nat.zero_add, beq_self_eq_true, Bool.not_true, Bool.not_false, Nat.reduceAdd, Nat.reduceSub, Int.reduceEq, Nat.reduceLeDiff, Dv.env0, List.replicate, Dv.c_if])
  refine pool h fun p m0 P0 => ?_
  simp only [Dv.wp_0, Dv.wp_1, Dv.wp_2, Dv.wp_3, Dv.wp_4, Dv.wp_5, true_and, and_true, and_self, Option.bind_some, List.set_cons_succ, List.set_cons_zero, List.getElem?_cons_zero, List.getElem?_cons_succ, decide_eq_true_eq, Bool.not_eq_true', decide_eq_false_iff_not, not_true_eq_false, not_false_eq_true, decide_true, decide_false, Bool.false_eq_true, if_true, if_false, List.map_cons, List.map_nil, List.length_cons, List.length_nil, List.cons_append, List.nil_append, Nat.zero_add, beq_self_eq_true, Bool.not_true, Bool.not_false, Nat.reduceAdd, Nat.reduceSub, Int.reduceEq, Nat.reduceLeDiff, Dv.env0, List.replicate, Dv.c_if]
  simp only [Dv.wp_0, Dv.wp_1, Dv.wp_2, Dv.wp_3, Dv.wp_4, Dv.wp_5, true_and, and_true, and_self, Option.bind_some, List.set_cons_succ, List.set_cons_zero, List.getElem?_cons_zero, List.getElem?_cons_succ, decide_eq_true_eq, Bool.not_eq_true', decide_eq_false_iff_not, not_true_eq_false, not_false_eq_true, decide_true, decide_false, Bool.false_eq_true, if_true, if_false, List.map_cons, List.map_nil, List.length_cons, List.length_nil, List.cons_append, List.nil_append, Nat.zero_add, beq_self_eq_true, Bool.not_true, Bool.not_false, Nat.reduceAdd, Nat.reduceSub, Int.reduceEq, Nat.reduceLeDiff, Dv.env0, List.replicate, Dv.c_seq, Dv.c_if, c_iRng11 (j := 4) (by omega) (by omega)]
  refine for_wp (fun i e m => Pool m p ∧ ∃ x2 x3 x4 x5 x6 x7 x8, e = [some (.scr ns), some (.cell p), x2, x3, x4, x5, x6, x7, x8]) (fun _ _ _ _ => gok_nil) ⟨P0, _, _, _, _, _, _, _, rfl⟩ ?_ ?_
  · rintro i x _ m hx ⟨P1, x2, x3, x4, x5, x6, x7, x8, rfl⟩
    simp only [Dv.wp_0, Dv.wp_1, Dv.wp_2, Dv.wp_3, Dv.wp_4, Dv.wp_5, true_and, and_true, and_self, Option.bind_some, List.set_cons_succ, List.set_cons_zero, List.getElem?_cons_zero, List.getElem?_cons_succ, decide_eq_true_eq, Bool.not_eq_true', decide_eq_false_iff_not, not_true_eq_false, not_false_eq_true, decide_true, decide_false, Bool.false_eq_true, if_true, if_false, List.map_cons, List.map_nil, List.length_cons, List.length_nil, List.cons_append, List.nil_append, Nat.zero_add, beq_self_eq_true, Bool.not_true, Bool.not_false, Nat.reduceAdd, Nat.reduceSub, Int.reduceEq, Nat.reduceLeDiff, Dv.env0, List.replicate, Dv.c_seq, Dv.c_if]
    refine R.wp.imp0 (spec P1) ?_
    rintro d m2 ⟨rows, l, Tb, S, P2, S2⟩
    have r2 := S.r2
    have r4 := S.r4
    have l1 := S.l1
    have l2 := S.l2
    simp only [Dv.wp_0, Dv.wp_1, Dv.wp_2, Dv.wp_3, Dv.wp_4, Dv.wp_5, true_and, and_true, and_self, Option.bind_some, List.set_cons_succ, List.set_cons_zero, List.getElem?_cons_zero, List.getElem?_cons_succ, decide_eq_true_eq, Bool.not_eq_true', decide_eq_false_iff_not, not_true_eq_false, not_false_eq_true, decide_true, decide_false, Bool.false_eq_true, if_true, if_false, List.map_cons, List.map_nil, List.length_cons, List.length_nil, List.cons_append, List.nil_append, Nat.zero_add, beq_self_eq_true, Bool.not_true, Bool.not_false, Nat.reduceAdd, Nat.reduceSub, Int.reduceEq, Nat.reduceLeDiff, Dv.env0, List.replicate, Dv.c_seq, Dv.c_if]
    refine question S fun n m3 g3 hq hn => ?_
    have P3 := g3.pool P2
    obtain ⟨W0, M0⟩ := empty_words (rows := rows) (l := l) (by omega)
    have e0 : (List.replicate (rows : Int).toNat [D.str ""]).flatten = (List.replicate rows ([] : List Nat)).map wD := by
      rw [Int.toNat_natCast, List.map_replicate, wD_nil]
      clear W0 M0 hq g3 hn r2 r4 S
      induction rows with
      | zero => rfl
      | succ k ih => rw [List.replicate_succ, List.flatten_cons, ih, List.replicate_succ]; rfl
    simp only [Dv.wp_0, Dv.wp_1, Dv.wp_2, Dv.wp_3, Dv.wp_4, Dv.wp_5, true_and, and_true, and_self, Option.bind_some, List.set_cons_succ, List.set_cons_zero, List.getElem?_cons_zero, List.getElem?_cons_succ, decide_eq_true_eq, Bool.not_eq_true', decide_eq_false_iff_not, not_true_eq_false, not_false_eq_true, decide_true, decide_false, Bool.false_eq_true, if_true, if_false, List.map_cons, List.map_nil, List.length_cons, List.length_nil, List.cons_append, List.nil_append, Nat.zero_add, beq_self_eq_true, Bool.not_true, Bool.not_false, Nat.reduceAdd, Nat.reduceSub, Int.reduceEq, Nat.reduceLeDiff, Dv.env0, List.replicate, Dv.c_seq, Dv.c_if, S.e, repW_at (xs := [D.str ""]) (k := (rows : Int)) (μ := m3) ⟨by simp, by omega, by simp; omega⟩, e0]
    refine answer (by omega) r4 l1 l2 S.tab W0 hq fun m4 g4 => ?_
    have t1 := S.tab.l1
    have ea : ans Tb l (List.replicate rows []) = (Tb[0]).1 := by
      unfold ans
      rw [M0]
      show (Tb.getD 0 _).1 = _
      rw [List.getD_eq_getElem?_getD, List.getElem?_eq_getElem (show 0 < Tb.length by omega)]; rfl
    have a0 := at_rowD (T := Tb) (i := 0) (show 0 < Tb.length by omega)
    simp only [Int.ofNat_zero, Int.natCast_zero] at a0
    have O3 : Off m3 p n := by
      obtain ⟨k, rfl⟩ := g3
      exact (P2.off hn).app P2.lt
    have P4 := g4.pool P3
    have hq4 := g4.at hq
    have O4 : Off m4 p n := by
      obtain ⟨k, rfl⟩ := g4
      exact O3.app P3.lt
    simp only [Dv.wp_0, Dv.wp_1, Dv.wp_2, Dv.wp_3, Dv.wp_4, Dv.wp_5, true_and, and_true, and_self, Option.bind_some, List.set_cons_succ, List.set_cons_zero, List.getElem?_cons_zero, List.getElem?_cons_succ, decide_eq_true_eq, Bool.not_eq_true', decide_eq_false_iff_not, not_true_eq_false, not_false_eq_true, decide_true, decide_false, Bool.false_eq_true, if_true, if_false, List.map_cons, List.map_nil, List.length_cons, List.length_nil, List.cons_append, List.nil_append, Nat.zero_add, beq_self_eq_true, Bool.not_true, Bool.not_false, Nat.reduceAdd, Nat.reduceSub, Int.reduceEq, Nat.reduceLeDiff, Dv.env0, List.replicate, Dv.c_seq, Dv.c_if, a0, rowD, ea, ne_bl, bne_self_eq_false, c_iRng11 (j := 10) (by omega) (by omega)]
    refine for_wp (fun j e m' => Pool m' p ∧ Off m' p n ∧ m'[n]? = some (.ins a.Question (qf rows l Tb)) ∧ ∃ y5 y6 y7 y8, e = [some (.scr ns), some (.cell p), some x, some d, some (.cell n), y5, y6, y7, y8]) (fun _ _ _ _ => gok_nil) ⟨P4, O4, hq4, _, _, _, _, by rw [S.e]⟩ ?_ ?_
    · rintro j y _ m' hy ⟨P5, O5, hq5, y5, y6, y7, y8, rfl⟩
      rw [g_nm]
      refine cut (fun e m6 => Pool m6 p ∧ Off m6 p n ∧ m6[n]? = some (.ins a.Question (qf rows l Tb)) ∧ ∃ ws z5 z7 z8, Words rows l ws ∧ e = [some (.scr ns), some (.cell p), some x, some d, some (.cell n), z5, some (.tup (ws.map wD)), z7, z8]) ?_ ?_
      · simp only [Dv.wp_0, Dv.wp_1, Dv.wp_2, Dv.wp_3, Dv.wp_4, Dv.wp_5, true_and, and_true, and_self, Option.bind_some, List.set_cons_succ, List.set_cons_zero, List.getElem?_cons_zero, List.getElem?_cons_succ, decide_eq_true_eq, Bool.not_eq_true', decide_eq_false_iff_not, not_true_eq_false, not_false_eq_true, decide_true, decide_false, Bool.false_eq_true, if_true, if_false, List.map_cons, List.map_nil, List.length_cons, List.length_nil, List.cons_append, List.nil_append, Nat.zero_add, beq_self_eq_true, Bool.not_true, Bool.not_false, Nat.reduceAdd, Nat.reduceSub, Int.reduceEq, Nat.reduceLeDiff, Dv.env0, List.replicate, Dv.c_seq, Dv.c_if, S.e]
        refine pick (P5.app (l := [.lst [D.int 1, D.int 2, D.int 3, D.int 6, D.int 6]])) (new_at (l := [])) ((P5.off (Nat.le_refl _)).app P5.lt) (by simp) (by simp) fun v m7 hv P7 S7 => ?_
        obtain ⟨mo, rfl, hmo⟩ : ∃ k : Nat, v = .int k ∧ k ≤ 60 := by
          simp at hv
          rcases hv with rfl | rfl | rfl | rfl
          · exact ⟨1, rfl, by omega⟩
          · exact ⟨2, rfl, by omega⟩
          · exact ⟨3, rfl, by omega⟩
          · exact ⟨6, rfl, by omega⟩
        have S7' : Stp p m' m7 := (Stp.refl P5.lt).app.trans S7
        simp only [Dv.wp_0, Dv.wp_1, Dv.wp_2, Dv.wp_3, Dv.wp_4, Dv.wp_5, true_and, and_true, and_self, Option.bind_some, List.set_cons_succ, List.set_cons_zero, List.getElem?_cons_zero, List.getElem?_cons_succ, decide_eq_true_eq, Bool.not_eq_true', decide_eq_false_iff_not, not_true_eq_false, not_false_eq_true, decide_true, decide_false, Bool.false_eq_true, if_true, if_false, List.map_cons, List.map_nil, List.length_cons, List.length_nil, List.cons_append, List.nil_append, Nat.zero_add, beq_self_eq_true, Bool.not_true, Bool.not_false, Nat.reduceAdd, Nat.reduceSub, Int.reduceEq, Nat.reduceLeDiff, Dv.env0, List.replicate, Dv.c_seq, Dv.c_if]
        refine drawn_words P7 r4 l1 l2 hmo fun ws m8 W P8 S8 => ?_
        have S8' := S7'.trans S8
        simp only [Dv.wp_0, Dv.wp_1, Dv.wp_2, Dv.wp_3, Dv.wp_4, Dv.wp_5, true_and, and_true, and_self, Option.bind_some, List.set_cons_succ, List.set_cons_zero, List.getElem?_cons_zero, List.getElem?_cons_succ, decide_eq_true_eq, Bool.not_eq_true', decide_eq_false_iff_not, not_true_eq_false, not_false_eq_true, decide_true, decide_false, Bool.false_eq_true, if_true, if_false, List.map_cons, List.map_nil, List.length_cons, List.length_nil, List.cons_append, List.nil_append, Nat.zero_add, beq_self_eq_true, Bool.not_true, Bool.not_false, Nat.reduceAdd, Nat.reduceSub, Int.reduceEq, Nat.reduceLeDiff, Dv.env0, List.replicate, Dv.c_seq, Dv.c_if]
        exact ⟨P8, S8'.off hq5 O5, S8'.at hq5 O5, ws, _, _, _, W, rfl⟩
      rintro _ m6 ⟨P6, O6, hq6, ws, z5, z7, z8, W, rfl⟩
      refine cut (fun e m6 => Pool m6 p ∧ Off m6 p n ∧ m6[n]? = some (.ins a.Question (qf rows l Tb)) ∧ ∃ ws z5 z7 z8, Words rows l ws ∧ e = [some (.scr ns), some (.cell p), some x, some d, some (.cell n), z5, some (.tup (ws.map wD)), z7, z8]) ?_ ?_
      · simp only [Dv.wp_0, Dv.wp_1, Dv.wp_2, Dv.wp_3, Dv.wp_4, Dv.wp_5, true_and, and_true, and_self, Option.bind_some, List.set_cons_succ, List.set_cons_zero, List.getElem?_cons_zero, List.getElem?_cons_succ, decide_eq_true_eq, Bool.not_eq_true', decide_eq_false_iff_not, not_true_eq_false, not_false_eq_true, decide_true, decide_false, Bool.false_eq_true, if_true, if_false, List.map_cons, List.map_nil, List.length_cons, List.length_nil, List.cons_append, List.nil_append, Nat.zero_add, beq_self_eq_true, Bool.not_true, Bool.not_false, Nat.reduceAdd, Nat.reduceSub, Int.reduceEq, Nat.reduceLeDiff, Dv.env0, List.replicate, Dv.c_seq, Dv.c_if]
        refine draw P6 (by omega) (by omega) fun r m7 r0 r1 P7 S7 => ?_
        simp only [Dv.wp_0, Dv.wp_1, Dv.wp_2, Dv.wp_3, Dv.wp_4, Dv.wp_5, true_and, and_true, and_self, Option.bind_some, List.set_cons_succ, List.set_cons_zero, List.getElem?_cons_zero, List.getElem?_cons_succ, decide_eq_true_eq, Bool.not_eq_true', decide_eq_false_iff_not, not_true_eq_false, not_false_eq_true, decide_true, decide_false, Bool.false_eq_true, if_true, if_false, List.map_cons, List.map_nil, List.length_cons, List.length_nil, List.cons_append, List.nil_append, Nat.zero_add, beq_self_eq_true, Bool.not_true, Bool.not_false, Nat.reduceAdd, Nat.reduceSub, Int.reduceEq, Nat.reduceLeDiff, Dv.env0, List.replicate, Dv.c_seq, Dv.c_if]
        refine ifS_of (fun c => ?_) (fun c => ?_)
        · simp only [Dv.wp_0, Dv.wp_1, Dv.wp_2, Dv.wp_3, Dv.wp_4, Dv.wp_5, true_and, and_true, and_self, Option.bind_some, List.set_cons_succ, List.set_cons_zero, List.getElem?_cons_zero, List.getElem?_cons_succ, decide_eq_true_eq, Bool.not_eq_true', decide_eq_false_iff_not, not_true_eq_false, not_false_eq_true, decide_true, decide_false, Bool.false_eq_true, if_true, if_false, List.map_cons, List.map_nil, List.length_cons, List.length_nil, List.cons_append, List.nil_append, Nat.zero_add, beq_self_eq_true, Bool.not_true, Bool.not_false, Nat.reduceAdd, Nat.reduceSub, Int.reduceEq, Nat.reduceLeDiff, Dv.env0, List.replicate, Dv.c_seq, Dv.c_if, S.e]
          refine drawn_words P7 r4 l1 l2 (show 60 ≤ 60 by omega) fun ws m8 W P8 S8 => ?_
          have S8' := S7.trans S8
          simp only [Dv.wp_0, Dv.wp_1, Dv.wp_2, Dv.wp_3, Dv.wp_4, Dv.wp_5, true_and, and_true, and_self, Option.bind_some, List.set_cons_succ, List.set_cons_zero, List.getElem?_cons_zero, List.getElem?_cons_succ, decide_eq_true_eq, Bool.not_eq_true', decide_eq_false_iff_not, not_true_eq_false, not_false_eq_true, decide_true, decide_false, Bool.false_eq_true, if_true, if_false, List.map_cons, List.map_nil, List.length_cons, List.length_nil, List.cons_append, List.nil_append, Nat.zero_add, beq_self_eq_true, Bool.not_true, Bool.not_false, Nat.reduceAdd, Nat.reduceSub, Int.reduceEq, Nat.reduceLeDiff, Dv.env0, List.replicate, Dv.c_seq, Dv.c_if]
          exact ⟨P8, S8'.off hq6 O6, S8'.at hq6 O6, ws, _, _, _, W, rfl⟩
        · simp only [Dv.wp_0, Dv.wp_1, Dv.wp_2, Dv.wp_3, Dv.wp_4, Dv.wp_5, true_and, and_true, and_self, Option.bind_some, List.set_cons_succ, List.set_cons_zero, List.getElem?_cons_zero, List.getElem?_cons_succ, decide_eq_true_eq, Bool.not_eq_true', decide_eq_false_iff_not, not_true_eq_false, not_false_eq_true, decide_true, decide_false, Bool.false_eq_true, if_true, if_false, List.map_cons, List.map_nil, List.length_cons, List.length_nil, List.cons_append, List.nil_append, Nat.zero_add, beq_self_eq_true, Bool.not_true, Bool.not_false, Nat.reduceAdd, Nat.reduceSub, Int.reduceEq, Nat.reduceLeDiff, Dv.env0, List.replicate, Dv.c_seq, Dv.c_if]
          exact ⟨P7, S7.off hq6 O6, S7.at hq6 O6, ws, _, _, _, W, rfl⟩
      clear W hq6 O6 P6 ws z5 z7 z8 m6
      rintro _ m6 ⟨P6, O6, hq6, ws, z5, z7, z8, W, rfl⟩
      refine cut (fun e m6 => Pool m6 p ∧ Off m6 p n ∧ m6[n]? = some (.ins a.Question (qf rows l Tb)) ∧ ∃ ws z5 z7 z8, Words rows l ws ∧ e = [some (.scr ns), some (.cell p), some x, some d, some (.cell n), z5, some (.tup (ws.map wD)), z7, z8]) ?_ ?_
      · simp only [Dv.wp_0, Dv.wp_1, Dv.wp_2, Dv.wp_3, Dv.wp_4, Dv.wp_5, true_and, and_true, and_self, Option.bind_some, List.set_cons_succ, List.set_cons_zero, List.getElem?_cons_zero, List.getElem?_cons_succ, decide_eq_true_eq, Bool.not_eq_true', decide_eq_false_iff_not, not_true_eq_false, not_false_eq_true, decide_true, decide_false, Bool.false_eq_true, if_true, if_false, List.map_cons, List.map_nil, List.length_cons, List.length_nil, List.cons_append, List.nil_append, Nat.zero_add, beq_self_eq_true, Bool.not_true, Bool.not_false, Nat.reduceAdd, Nat.reduceSub, Int.reduceEq, Nat.reduceLeDiff, Dv.env0, List.replicate, Dv.c_seq, Dv.c_if]
        refine draw P6 (by omega) (by omega) fun r m7 r0 r1 P7 S7 => ?_
        simp only [Dv.wp_0, Dv.wp_1, Dv.wp_2, Dv.wp_3, Dv.wp_4, Dv.wp_5, true_and, and_true, and_self, Option.bind_some, List.set_cons_succ, List.set_cons_zero, List.getElem?_cons_zero, List.getElem?_cons_succ, decide_eq_true_eq, Bool.not_eq_true', decide_eq_false_iff_not, not_true_eq_false, not_false_eq_true, decide_true, decide_false, Bool.false_eq_true, if_true, if_false, List.map_cons, List.map_nil, List.length_cons, List.length_nil, List.cons_append, List.nil_append, Nat.zero_add, beq_self_eq_true, Bool.not_true, Bool.not_false, Nat.reduceAdd, Nat.reduceSub, Int.reduceEq, Nat.reduceLeDiff, Dv.env0, List.replicate, Dv.c_seq, Dv.c_if]
        refine ifS_of (fun c => ?_) (fun c => ?_)
        · simp only [Dv.wp_0, Dv.wp_1, Dv.wp_2, Dv.wp_3, Dv.wp_4, Dv.wp_5, true_and, and_true, and_self, Option.bind_some, List.set_cons_succ, List.set_cons_zero, List.getElem?_cons_zero, List.getElem?_cons_succ, decide_eq_true_eq, Bool.not_eq_true', decide_eq_false_iff_not, not_true_eq_false, not_false_eq_true, decide_true, decide_false, Bool.false_eq_true, if_true, if_false, List.map_cons, List.map_nil, List.length_cons, List.length_nil, List.cons_append, List.nil_append, Nat.zero_add, beq_self_eq_true, Bool.not_true, Bool.not_false, Nat.reduceAdd, Nat.reduceSub, Int.reduceEq, Nat.reduceLeDiff, Dv.env0, List.replicate, Dv.c_seq, Dv.c_if]
          have hw0 : 0 < ws.length := by rw [W.len]; omega
          refine lc_ga (α := Nat) natD (fun _ => wD ws[0]) ?_
          simp only [Dv.wp_0, Dv.wp_1, Dv.wp_2, Dv.wp_3, Dv.wp_4, Dv.wp_5, true_and, and_true, and_self, Option.bind_some, List.set_cons_succ, List.set_cons_zero, List.getElem?_cons_zero, List.getElem?_cons_succ, decide_eq_true_eq, Bool.not_eq_true', decide_eq_false_iff_not, not_true_eq_false, not_false_eq_true, decide_true, decide_false, Bool.false_eq_true, if_true, if_false, List.map_cons, List.map_nil, List.length_cons, List.length_nil, List.cons_append, List.nil_append, Nat.zero_add, beq_self_eq_true, Bool.not_true, Bool.not_false, Nat.reduceAdd, Nat.reduceSub, Int.reduceEq, Nat.reduceLeDiff, Dv.env0, List.replicate, Dv.c_seq, Dv.c_if, S.e, c_iRng11 (j := (rows : Int)) (by omega) (by omega)]
          refine ⟨List.range rows, by rw [rngD_nat, Int.toNat_natCast]; rfl, gok_nil, by simp; omega, ?_, ?_⟩
          · intro b _ k
            have : atI (ws.map wD) 0 = some (wD ws[0]) := by
              rw [atI_in (by omega) (by simp; omega)]; simp [List.getElem?_eq_getElem hw0]
            simp only [Dv.wp_0, Dv.wp_1, Dv.wp_2, Dv.wp_3, Dv.wp_4, Dv.wp_5, true_and, and_true, and_self, Option.bind_some, List.set_cons_succ, List.set_cons_zero, List.getElem?_cons_zero, List.getElem?_cons_succ, decide_eq_true_eq, Bool.not_eq_true', decide_eq_false_iff_not, not_true_eq_false, not_false_eq_true, decide_true, decide_false, Bool.false_eq_true, if_true, if_false, List.map_cons, List.map_nil, List.length_cons, List.length_nil, List.cons_append, List.nil_append, Nat.zero_add, beq_self_eq_true, Bool.not_true, Bool.not_false, Nat.reduceAdd, Nat.reduceSub, Int.reduceEq, Nat.reduceLeDiff, Dv.env0, List.replicate, Dv.c_seq, Dv.c_if, this]
            exact ⟨[], by simp⟩
          · intro k
            have e : ((List.range rows).map fun _ => wD ws[0]) = (List.replicate rows ws[0]).map wD := by
              rw [List.map_const', List.map_replicate, List.length_range]
            simp only [Dv.wp_0, Dv.wp_1, Dv.wp_2, Dv.wp_3, Dv.wp_4, Dv.wp_5, true_and, and_true, and_self, Option.bind_some, List.set_cons_succ, List.set_cons_zero, List.getElem?_cons_zero, List.getElem?_cons_succ, decide_eq_true_eq, Bool.not_eq_true', decide_eq_false_iff_not, not_true_eq_false, not_false_eq_true, decide_true, decide_false, Bool.false_eq_true, if_true, if_false, List.map_cons, List.map_nil, List.length_cons, List.length_nil, List.cons_append, List.nil_append, Nat.zero_add, beq_self_eq_true, Bool.not_true, Bool.not_false, Nat.reduceAdd, Nat.reduceSub, Int.reduceEq, Nat.reduceLeDiff, Dv.env0, List.replicate, Dv.c_seq, Dv.c_if, tupOf_cell (new_at (μ := m7) (l := k)), e]
            refine ⟨P7.app, (S7.off hq6 O6).app P7.lt, app_get (S7.at hq6 O6), List.replicate rows ws[0], _, _, _, ⟨by simp, ?_, ?_⟩, rfl⟩
            · intro w hw
              rw [List.eq_of_mem_replicate hw]; exact W.let_ _ (List.getElem_mem hw0)
            · intro w hw
              rw [List.eq_of_mem_replicate hw]; exact W.short _ (List.getElem_mem hw0)
        · simp only [Dv.wp_0, Dv.wp_1, Dv.wp_2, Dv.wp_3, Dv.wp_4, Dv.wp_5, true_and, and_true, and_self, Option.bind_some, List.set_cons_succ, List.set_cons_zero, List.getElem?_cons_zero, List.getElem?_cons_succ, decide_eq_true_eq, Bool.not_eq_true', decide_eq_false_iff_not, not_true_eq_false, not_false_eq_true, decide_true, decide_false, Bool.false_eq_true, if_true, if_false, List.map_cons, List.map_nil, List.length_cons, List.length_nil, List.cons_append, List.nil_append, Nat.zero_add, beq_self_eq_true, Bool.not_true, Bool.not_false, Nat.reduceAdd, Nat.reduceSub, Int.reduceEq, Nat.reduceLeDiff, Dv.env0, List.replicate, Dv.c_seq, Dv.c_if]
          exact ⟨P7, S7.off hq6 O6, S7.at hq6 O6, ws, _, _, _, W, rfl⟩
      clear W hq6 O6 P6 ws z5 z7 z8 m6
      rintro _ m6 ⟨P6, O6, hq6, ws, z5, z7, z8, W, rfl⟩
      simp only [Dv.wp_0, Dv.wp_1, Dv.wp_2, Dv.wp_3, Dv.wp_4, Dv.wp_5, true_and, and_true, and_self, Option.bind_some, List.set_cons_succ, List.set_cons_zero, List.getElem?_cons_zero, List.getElem?_cons_succ, decide_eq_true_eq, Bool.not_eq_true', decide_eq_false_iff_not, not_true_eq_false, not_false_eq_true, decide_true, decide_false, Bool.false_eq_true, if_true, if_false, List.map_cons, List.map_nil, List.length_cons, List.length_nil, List.cons_append, List.nil_append, Nat.zero_add, beq_self_eq_true, Bool.not_true, Bool.not_false, Nat.reduceAdd, Nat.reduceSub, Int.reduceEq, Nat.reduceLeDiff, Dv.env0, List.replicate, Dv.c_seq, Dv.c_if]
      refine answer (by omega) r4 l1 l2 S.tab W hq6 fun m7 g7 => ?_
      simp only [Dv.wp_0, Dv.wp_1, Dv.wp_2, Dv.wp_3, Dv.wp_4, Dv.wp_5, true_and, and_true, and_self, Option.bind_some, List.set_cons_succ, List.set_cons_zero, List.getElem?_cons_zero, List.getElem?_cons_succ, decide_eq_true_eq, Bool.not_eq_true', decide_eq_false_iff_not, not_true_eq_false, not_false_eq_true, decide_true, decide_false, Bool.false_eq_true, if_true, if_false, List.map_cons, List.map_nil, List.length_cons, List.length_nil, List.cons_append, List.nil_append, Nat.zero_add, beq_self_eq_true, Bool.not_true, Bool.not_false, Nat.reduceAdd, Nat.reduceSub, Int.reduceEq, Nat.reduceLeDiff, Dv.env0, List.replicate, Dv.c_seq, Dv.c_if, isi_bb]
      refine law_answer S W fun m8 g8 => ?_
      have g68 := g7.trans g8
      simp only [Dv.wp_0, Dv.wp_1, Dv.wp_2, Dv.wp_3, Dv.wp_4, Dv.wp_5, true_and, and_true, and_self, Option.bind_some, List.set_cons_succ, List.set_cons_zero, List.getElem?_cons_zero, List.getElem?_cons_succ, decide_eq_true_eq, Bool.not_eq_true', decide_eq_false_iff_not, not_true_eq_false, not_false_eq_true, decide_true, decide_false, Bool.false_eq_true, if_true, if_false, List.map_cons, List.map_nil, List.length_cons, List.length_nil, List.cons_append, List.nil_append, Nat.zero_add, beq_self_eq_true, Bool.not_true, Bool.not_false, Nat.reduceAdd, Nat.reduceSub, Int.reduceEq, Nat.reduceLeDiff, Dv.env0, List.replicate, Dv.c_seq, Dv.c_if, ne_bl, bne_self_eq_false]
      refine answer (by omega) r4 l1 l2 S.tab W (g68.at hq6) fun m9 g9 => ?_
      have g69 := g68.trans g9
      simp only [Dv.wp_0, Dv.wp_1, Dv.wp_2, Dv.wp_3, Dv.wp_4, Dv.wp_5, true_and, and_true, and_self, Option.bind_some, List.set_cons_succ, List.set_cons_zero, List.getElem?_cons_zero, List.getElem?_cons_succ, decide_eq_true_eq, Bool.not_eq_true', decide_eq_false_iff_not, not_true_eq_false, not_false_eq_true, decide_true, decide_false, Bool.false_eq_true, if_true, if_false, List.map_cons, List.map_nil, List.length_cons, List.length_nil, List.cons_append, List.nil_append, Nat.zero_add, beq_self_eq_true, Bool.not_true, Bool.not_false, Nat.reduceAdd, Nat.reduceSub, Int.reduceEq, Nat.reduceLeDiff, Dv.env0, List.replicate, Dv.c_seq, Dv.c_if, ne_bl, bne_self_eq_false]
      refine ⟨g69.pool P6, ?_, g69.at hq6, _, _, _, _, rfl⟩
      obtain ⟨k, rfl⟩ := g69
      exact O6.app P6.lt
    · rintro _ m' ⟨P5, O5, hq5, y5, y6, y7, y8, rfl⟩
      simp only [Dv.wp_0, Dv.wp_1, Dv.wp_2, Dv.wp_3, Dv.wp_4, Dv.wp_5, true_and, and_true, and_self, Option.bind_some, List.set_cons_succ, List.set_cons_zero, List.getElem?_cons_zero, List.getElem?_cons_succ, decide_eq_true_eq, Bool.not_eq_true', decide_eq_false_iff_not, not_true_eq_false, not_false_eq_true, decide_true, decide_false, Bool.false_eq_true, if_true, if_false, List.map_cons, List.map_nil, List.length_cons, List.length_nil, List.cons_append, List.nil_append, Nat.zero_add, beq_self_eq_true, Bool.not_true, Bool.not_false, Nat.reduceAdd, Nat.reduceSub, Int.reduceEq, Nat.reduceLeDiff, Dv.env0, List.replicate, Dv.c_seq, Dv.c_if]
      exact ⟨P5, _, _, _, _, _, _, _, rfl⟩
  · rintro _ m ⟨P1, x2, x3, x4, x5, x6, x7, x8, rfl⟩
    simp only [Dv.wp_0, Dv.wp_1, Dv.wp_2, Dv.wp_3, Dv.wp_4, Dv.wp_5, true_and, and_true, and_self, Option.bind_some, List.set_cons_succ, List.set_cons_zero, List.getElem?_cons_zero, List.getElem?_cons_succ, decide_eq_true_eq, Bool.not_eq_true', decide_eq_false_iff_not, not_true_eq_false, not_false_eq_true, decide_true, decide_false, Bool.false_eq_true, if_true, if_false, List.map_cons, List.map_nil, List.length_cons, List.length_nil, List.cons_append, List.nil_append, Nat.zero_add, beq_self_eq_true, Bool.not_true, Bool.not_false, Nat.reduceAdd, Nat.reduceSub, Int.reduceEq, Nat.reduceLeDiff, Dv.env0, List.replicate, Dv.c_seq, Dv.c_if]
end
theorem main {K : PySem.W.Frag} {a : Adr} (T : PureT K a) (ns : List Int) (h : ns.length ≤ 63) : ∃ μ, g_law K a [.scr ns] [] = .ok (.bl true) μ := by
  obtain ⟨d, μ, e, rfl⟩ := (main_wp T ns h).gives
  exact ⟨μ, e⟩
end Law

set_option maxRecDepth 100000
set_option maxHeartbeats 4000000
namespace Law
open PySem PySem.Spec PyProof.Rows L2 Dv
def top (i : Nat) : Stmt := PySem.Challenge.pw_wholewalks_k75_whole_answers.main.body.getD i (.Pass ⟨0, 0, 0, 0⟩)
structure Txt (P : Program) (K : PySem.W.Frag) (mg : Str → Option Value) (a : Adr) : Prop where
  «abs» : mg "abs" = none
  «bool» : mg "bool" = none
  «enumerate» : mg "enumerate" = none
  «int» : mg "int" = none
  «isinstance» : mg "isinstance" = none
  «len» : mg "len" = none
  «max» : mg "max" = none
  «range» : mg "range" = none
  «str» : mg "str" = none
  «sum» : mg "sum" = none
  «tuple» : mg "tuple" = none
  g_WalkError : mg "WalkError" = some (.ref a.WalkError)
  g_Readings : mg "Readings" = some (.ref a.Readings)
  g_Question : mg "Question" = some (.ref a.Question)
  x_NoWords : PySem.NoX.NoTxt P K mg "NoWords" a.NoWords
  c_Readings : Cls K a.Readings
  c_Question : Cls K a.Question
  n_Readings_rows : NoAttr K a.Readings "rows"
  n_Readings_letters : NoAttr K a.Readings "letters"
  n_Readings_figures : NoAttr K a.Readings "figures"
  n_Readings_ended : NoAttr K a.Readings "ended"
  n_Question_rows : NoAttr K a.Question "rows"
  n_Question_letters : NoAttr K a.Question "letters"
  n_Question_table : NoAttr K a.Question "table"
  g_LETTERS : ∃ t, mg "LETTERS" = some (.str "abc" t)
  g_FEWEST_ROWS : ∃ t, mg "FEWEST_ROWS" = some (.int 2 t)
  g_MOST_ROWS : ∃ t, mg "MOST_ROWS" = some (.int 4 t)
  g_MOST_LETTERS : ∃ t, mg "MOST_LETTERS" = some (.int 2 t)
  g_MOST_STANDINGS : ∃ t, mg "MOST_STANDINGS" = some (.int 8 t)
abbrev s__law_pool : Stmt := top 30
abbrev s__law_draw : Stmt := top 31
abbrev s__law_pick : Stmt := top 32
abbrev s__law_columns : Stmt := top 33
abbrev s__law_drawn_table : Stmt := top 38
abbrev s__law_by_rows : Stmt := top 37
abbrev s__law_first_signs : Stmt := top 39
abbrev s__law_compared : Stmt := top 40
abbrev s__law_spec : Stmt := top 41
abbrev s_is_integer : Stmt := top 7
abbrev s_is_between : Stmt := top 8
abbrev s_Readings_M___init__ : Stmt := inClass (top 17) 0
abbrev s_many_readings : Stmt := top 16
abbrev s_is_table : Stmt := top 12
abbrev s_is_tuple_of : Stmt := top 9
abbrev s_is_way : Stmt := top 25
abbrev s_is_question_table : Stmt := top 24
abbrev s_Question_M___init__ : Stmt := inClass (top 23) 0
abbrev s__law_question : Stmt := top 42
abbrev s_is_lettered : Stmt := top 10
abbrev s_is_words : Stmt := top 26
abbrev s_need_words : Stmt := top 27
abbrev s_reading_at : Stmt := top 15
abbrev s_readings_of : Stmt := top 14
abbrev s_answer : Stmt := top 28
abbrev s__law_drawn_words : Stmt := top 43
abbrev s__law_lead : Stmt := top 34
abbrev s__law_column_at : Stmt := top 35
abbrev s__law_answer : Stmt := top 36
abbrev s_law : Stmt := top 44
abbrev N__law_pool : List Str := ["script", "great", "small", "cell"]
abbrev N__law_draw : List Str := ["pool", "many", "digit", "cell", "number"]
abbrev N__law_pick : List Str := ["pool", "things"]
abbrev N__law_columns : List Str := ["rows", "letters", "found", "row", "later", "column", "sign"]
abbrev N__law_drawn_table : List Str := ["pool", "rows", "letters", "many", "plain", "wide", "table", "standing", "usual", "nexts", "column", "later"]
abbrev N__law_by_rows : List Str := ["pool", "rows", "letters", "row", "counted", "sign", "many", "table", "standing", "nexts", "column", "later", "at"]
abbrev N__law_first_signs : List Str := ["pool", "rows", "letters", "row", "other", "table", "nexts", "at", "stays", "column"]
abbrev N__law_compared : List Str := ["pool", "rows", "letters", "one", "other", "by_letter", "nexts", "column", "pair", "unlike"]
abbrev N__law_spec : List Str := ["pool", "most_rows", "rows", "letters", "kind", "table"]
abbrev N_is_integer : List Str := ["thing"]
abbrev N_is_between : List Str := ["low", "high", "thing"]
abbrev N_Readings_M___init__ : List Str := ["self", "rows", "letters", "_", "some", "figure", "row"]
abbrev N_many_readings : List Str := ["rows", "letters"]
abbrev N_is_table : List Str := ["most", "thing"]
abbrev N_is_tuple_of : List Str := ["many", "thing"]
abbrev N_is_way : List Str := ["size", "many", "thing", "standing"]
abbrev N_is_question_table : List Str := ["rows", "letters", "thing", "size", "item"]
abbrev N_Question_M___init__ : List Str := ["self", "rows", "letters", "table"]
abbrev N__law_question : List Str := ["spec"]
abbrev N_is_lettered : List Str := ["letters", "thing"]
abbrev N_is_words : List Str := ["letters", "rows", "thing", "word"]
abbrev N_need_words : List Str := ["question", "rows", "thing"]
abbrev N_reading_at : List Str := ["letters", "words", "place", "number", "word"]
abbrev N_readings_of : List Str := ["letters", "words", "place", "word"]
abbrev N_answer : List Str := ["question", "words", "standing", "number"]
abbrev N__law_drawn_words : List Str := ["pool", "rows", "letters", "most", "found", "row", "place"]
abbrev N__law_lead : List Str := ["spec", "standing", "column", "number", "sign"]
abbrev N__law_column_at : List Str := ["words", "place", "word"]
abbrev N__law_answer : List Str := ["spec", "words", "standing", "place", "word"]
abbrev N_law : List Str := ["script", "pool", "turn", "spec", "question", "again", "words", "told", "row"]
section
variable {P : Program} {w : World} {K : PySem.W.Frag} {mg : Str → Option Value} {base : Heap} {a : Adr}
abbrev s_BadQuestion_init : Stmt := inClass (top 3) 0
theorem sc_BadQuestion_init : FnScope ["self", "part"] ["self", "part"] (defScope s_BadQuestion_init) := ⟨rfl, rfl, rfl, by decide +kernel, rfl, by decide +kernel, by decide +kernel⟩
theorem ok_BadQuestion_init {f : Addr} {fd : FuncData} (F : Fun K "__init__" "BadQuestion.__init__" s_BadQuestion_init f fd) : FnOk P w K mg base (L2.CX P w) 1 f fd ["self", "part"] (spX K "part") := by
  have S := sc_BadQuestion_init
  refine F.okX S (fun vs H Q E h => by obtain ⟨_, _, _, rfl, _⟩ := h; rfl) (fun cdv A outer s H vs Q E hr h => ?_)
  obtain ⟨x, C, v, rfl, hx, hf, h1, q⟩ := h
  exact ⟨_, pss_one (ps_ost (pv 0) (pv 1)), v, rfl, .ref x, rfl, x, C, rfl, hx, hf, .inl ⟨h1, fun dx h2 h3 => q dx h2 h3⟩⟩
theorem sc__law_pool : FnScope N__law_pool ["script"] (defScope s__law_pool) := ⟨rfl, rfl, rfl, by decide +kernel, rfl, by decide +kernel, by decide +kernel⟩
theorem ok__law_pool {f : Addr} {fd : FuncData} (F : Fun K "_law_pool" "_law_pool" s__law_pool f fd) (T : Txt P K mg a) : FnOk P w K mg base (L2.CX P w) 1 f fd ["script"] (spD ⟨K, w, none⟩ 1 g__law_pool) := by
  have S := sc__law_pool
  refine F.okX S (fun vs H Q E h => spD_len h) (fun cdv A outer s H vs Q E hr h => ?_)
  exact ⟨_, (pss_cons (ps_setLc (i := 1) (own := [("cell", 3)]) (g := gName 3) rfl S.nd rfl rfl (sw_true rfl rfl rfl (by decide +kernel)) (oLstI (K := ⟨K, w, none⟩) rfl (pe_slice (oSl (K := ⟨K, w, none⟩) rfl) (pv 0) po_none (po_some pe_int))) (blkOk_by (own := [("cell", 3)]) (N := N__law_pool) (sc := defScope s__law_pool) (by decide +kernel)) (fun _ _ _ _ _ => (pg_name (i := 3) S.nd rfl (by first | exact Or.inl rfl | exact Or.inr rfl))) (fun _ _ _ _ _ => (pts_one (pt_cmpR op_ge (pe_callB call_abs (by rfl) T.abs (by decide +kernel) (pa_cons (pv 3) pa_nil)) (pe_op op_pow pe_int pe_int) (nomark _)))) (fun _ _ _ _ _ => (by exact (pe_callB call_abs (by rfl) T.abs (by decide +kernel) (pa_cons (pv 3) pa_nil)))))
    (pss_cons (ps_setLc (i := 2) (own := [("cell", 3)]) (g := gName 3) rfl S.nd rfl rfl (sw_true rfl rfl rfl (by decide +kernel)) (oLstI (K := ⟨K, w, none⟩) rfl (pe_slice (oSl (K := ⟨K, w, none⟩) rfl) (pv 0) po_none (po_some pe_int))) (blkOk_by (own := [("cell", 3)]) (N := N__law_pool) (sc := defScope s__law_pool) (by decide +kernel)) (fun _ _ _ _ _ => (pg_name (i := 3) S.nd rfl (by first | exact Or.inl rfl | exact Or.inr rfl))) (fun _ _ _ _ _ => (pts_one (pt_cmpR op_lt (pe_callB call_abs (by rfl) T.abs (by decide +kernel) (pa_cons (pv 3) pa_nil)) (pe_op op_pow pe_int pe_int) (nomark _)))) (fun _ _ _ _ _ => (by exact (pe_op op_modN (pe_callTy call_int1 (by rfl) T.int (by decide +kernel) (pa_cons (pv 3) pa_nil)) pe_int))))
    (pss_one (ps_ret (pe_lst (pa_cons (pv 1) (pa_cons (pv 2) (pa_cons pe_int (pa_cons pe_int pa_nil))))))))),
    run_start (k := K) (w := w) (N := N__law_pool) (s := b__law_pool) (tsf_seq (tsf_asg (tef_lc (vs := [3]) (tif_lst (tef_sl rs_G tef_var tof_no (tof_at tef_int))) tgf_name (own_name (by decide)) (tbf_test (tef_op r_ge (tef_B rl_abs (taf_cons tef_var taf_nil)) (tef_op r_pow tef_int tef_int))) (tef_B rl_abs (taf_cons tef_var taf_nil))) tgf_name)
    (tsf_seq (tsf_asg (tef_lc (vs := [3]) (tif_lst (tef_sl rs_G tef_var tof_no (tof_at tef_int))) tgf_name (own_name (by decide)) (tbf_test (tef_op r_lt (tef_B rl_abs (taf_cons tef_var taf_nil)) (tef_op r_pow tef_int tef_int))) (tef_op r_mod (tef_B rl_int1 (taf_cons tef_var taf_nil)) tef_int)) tgf_name)
    (tsf_ret (tef_lst (taf_cons tef_var (taf_cons tef_var (taf_cons tef_int (taf_cons tef_int taf_nil)))))))) h (fun ds μ ρ vs H Q E _ _ _ q => q)⟩
theorem sc__law_draw : FnScope N__law_draw ["pool", "many"] (defScope s__law_draw) := ⟨rfl, rfl, rfl, by decide +kernel, rfl, by decide +kernel, by decide +kernel⟩
theorem ok__law_draw {f : Addr} {fd : FuncData} (F : Fun K "_law_draw" "_law_draw" s__law_draw f fd) (T : Txt P K mg a) : FnOk P w K mg base (L2.CX P w) 1 f fd ["pool", "many"] (spD ⟨K, w, none⟩ 2 g__law_draw) := by
  have S := sc__law_draw
  refine F.okX S (fun vs H Q E h => spD_len h) (fun cdv A outer s H vs Q E hr h => ?_)
  exact ⟨_, (pss_cons (ps_if (PW.pt (pw_and (pt_cmpR op_le (pe_ix (oIx (K := ⟨K, w, none⟩) rfl) (pv 0) pe_int (fun _ _ => rfl)) pe_int (nomark _)) (pw_and1 (pt_cmpR op_gt (pe_callB (oLen (K := ⟨K, w, none⟩) rfl rfl) (by rfl) T.len (by decide +kernel) (pa_cons (pe_ix (oIx (K := ⟨K, w, none⟩) rfl) (pv 0) pe_int (fun _ _ => rfl)) pa_nil)) pe_int (nomark _))))) (pss_cons (ps_asg (pe_ix (oIx (K := ⟨K, w, none⟩) rfl) (pe_ix (oIx (K := ⟨K, w, none⟩) rfl) (pv 0) pe_int (fun _ _ => rfl)) pe_int (fun _ _ => rfl)) (pg_sub (pv 0) pe_int set_list))
        (pss_one (ps_asg (pe_slice (oSl (K := ⟨K, w, none⟩) rfl) (pe_ix (oIx (K := ⟨K, w, none⟩) rfl) (pv 0) pe_int (fun _ _ => rfl)) (po_some pe_int) po_none) (pg_sub (pv 0) pe_int set_list)))) pss_nil)
    (pss_cons (ps_if (pt_cmpR op_gt (pe_ix (oIx (K := ⟨K, w, none⟩) rfl) (pv 0) pe_int (fun _ _ => rfl)) pe_int (nomark _)) (pss_cons (ps_set (i := 2) S.nd rfl (by first | exact Or.inl rfl | exact Or.inr rfl) (pe_op op_modN (pe_callTy call_int1 (by rfl) T.int (by decide +kernel) (pa_cons (pe_ix (oIx (K := ⟨K, w, none⟩) rfl) (pv 0) pe_int (fun _ _ => rfl)) pa_nil)) (pv 1)))
        (pss_cons (ps_asg (pe_op op_fdivN (pe_ix (oIx (K := ⟨K, w, none⟩) rfl) (pv 0) pe_int (fun _ _ => rfl)) (pv 1)) (pg_sub (pv 0) pe_int set_list))
        (pss_one (ps_ret (pv 2))))) pss_nil)
    (pss_cons (ps_asg (pe_op (oAdd (K := ⟨K, w, none⟩) rfl) (pe_ix (oIx (K := ⟨K, w, none⟩) rfl) (pv 0) pe_int (fun _ _ => rfl)) pe_int) (pg_sub (pv 0) pe_int set_list))
    (pss_cons (ps_set (i := 3) S.nd rfl (by first | exact Or.inl rfl | exact Or.inr rfl) pe_int)
    (pss_cons (ps_if (pt_cmpR op_gt (pe_callB (oLen (K := ⟨K, w, none⟩) rfl rfl) (by rfl) T.len (by decide +kernel) (pa_cons (pe_ix (oIx (K := ⟨K, w, none⟩) rfl) (pv 0) pe_int (fun _ _ => rfl)) pa_nil)) pe_int (nomark _)) (pss_one (ps_set (i := 3) S.nd rfl (by first | exact Or.inl rfl | exact Or.inr rfl) (pe_ix (oIx (K := ⟨K, w, none⟩) rfl) (pe_ix (oIx (K := ⟨K, w, none⟩) rfl) (pv 0) pe_int (fun _ _ => rfl)) (pe_op op_modN (pe_callTy call_int1 (by rfl) T.int (by decide +kernel) (pa_cons (pe_ix (oIx (K := ⟨K, w, none⟩) rfl) (pv 0) pe_int (fun _ _ => rfl)) pa_nil)) (pe_callB (oLen (K := ⟨K, w, none⟩) rfl rfl) (by rfl) T.len (by decide +kernel) (pa_cons (pe_ix (oIx (K := ⟨K, w, none⟩) rfl) (pv 0) pe_int (fun _ _ => rfl)) pa_nil))) (fun _ _ => rfl)))) pss_nil)
    (pss_cons (ps_set (i := 4) S.nd rfl (by first | exact Or.inl rfl | exact Or.inr rfl) (pe_op op_modN (pe_callTy call_int1 (by rfl) T.int (by decide +kernel) (pa_cons (pe_op oMul (pe_op (oAdd (K := ⟨K, w, none⟩) rfl) (pe_op (oAdd (K := ⟨K, w, none⟩) rfl) (pv 3) (pe_op oMul pe_int (pe_ix (oIx (K := ⟨K, w, none⟩) rfl) (pv 0) pe_int (fun _ _ => rfl)))) pe_int) pe_int) pa_nil)) pe_int))
    (pss_cons (ps_set (i := 4) S.nd rfl (by first | exact Or.inl rfl | exact Or.inr rfl) (pe_op op_modN (pe_callTy call_int1 (by rfl) T.int (by decide +kernel) (pa_cons (pe_op oMul (pv 4) (pe_op (oAdd (K := ⟨K, w, none⟩) rfl) (pe_op op_fdivN (pv 4) pe_int) pe_int)) pa_nil)) pe_int))
    (pss_cons (ps_set (i := 4) S.nd rfl (by first | exact Or.inl rfl | exact Or.inr rfl) (pe_op op_modN (pe_callTy call_int1 (by rfl) T.int (by decide +kernel) (pa_cons (pe_op oMul (pv 4) (pe_op (oAdd (K := ⟨K, w, none⟩) rfl) (pe_op op_fdivN (pv 4) pe_int) pe_int)) pa_nil)) pe_int))
    (pss_one (ps_ret (pe_op op_modN (pe_callTy call_int1 (by rfl) T.int (by decide +kernel) (pa_cons (pe_op op_fdivN (pv 4) pe_int) pa_nil)) (pv 1)))))))))))),
    run_start (k := K) (w := w) (N := N__law_draw) (s := b__law_draw) (tsf_seq (tsf_if (tbf_and (tbf_test (tef_op r_le (tef_op r_ix tef_var tef_int) tef_int)) (tbf_test (tef_op r_gt (tef_B rl_lenG (taf_cons (tef_op r_ix tef_var tef_int) taf_nil)) tef_int))) (tsf_seq (tsf_asg (tef_op r_ix (tef_op r_ix tef_var tef_int) tef_int) (tgf_sub tef_var tef_int tst_list))
        (tsf_asg (tef_sl rs_G (tef_op r_ix tef_var tef_int) (tof_at tef_int) tof_no) (tgf_sub tef_var tef_int tst_list))) tsf_next)
    (tsf_seq (tsf_if (tbf_test (tef_op r_gt (tef_op r_ix tef_var tef_int) tef_int)) (tsf_seq (tsf_asg (tef_op r_mod (tef_B rl_int1 (taf_cons (tef_op r_ix tef_var tef_int) taf_nil)) tef_var) tgf_name)
        (tsf_seq (tsf_asg (tef_op r_fdiv (tef_op r_ix tef_var tef_int) tef_var) (tgf_sub tef_var tef_int tst_list))
        (tsf_ret tef_var))) tsf_next)
    (tsf_seq (tsf_asg (tef_op r_addG (tef_op r_ix tef_var tef_int) tef_int) (tgf_sub tef_var tef_int tst_list))
    (tsf_seq (tsf_asg tef_int tgf_name)
    (tsf_seq (tsf_if (tbf_test (tef_op r_gt (tef_B rl_lenG (taf_cons (tef_op r_ix tef_var tef_int) taf_nil)) tef_int)) (tsf_asg (tef_op r_ix (tef_op r_ix tef_var tef_int) (tef_op r_mod (tef_B rl_int1 (taf_cons (tef_op r_ix tef_var tef_int) taf_nil)) (tef_B rl_lenG (taf_cons (tef_op r_ix tef_var tef_int) taf_nil)))) tgf_name) tsf_next)
    (tsf_seq (tsf_asg (tef_op r_mod (tef_B rl_int1 (taf_cons (tef_op r_mulG (tef_op r_addG (tef_op r_addG tef_var (tef_op r_mulG tef_int (tef_op r_ix tef_var tef_int))) tef_int) tef_int) taf_nil)) tef_int) tgf_name)
    (tsf_seq (tsf_asg (tef_op r_mod (tef_B rl_int1 (taf_cons (tef_op r_mulG tef_var (tef_op r_addG (tef_op r_fdiv tef_var tef_int) tef_int)) taf_nil)) tef_int) tgf_name)
    (tsf_seq (tsf_asg (tef_op r_mod (tef_B rl_int1 (taf_cons (tef_op r_mulG tef_var (tef_op r_addG (tef_op r_fdiv tef_var tef_int) tef_int)) taf_nil)) tef_int) tgf_name)
    (tsf_ret (tef_op r_mod (tef_B rl_int1 (taf_cons (tef_op r_fdiv tef_var tef_int) taf_nil)) tef_var)))))))))) h (fun ds μ ρ vs H Q E _ _ _ q => q)⟩
theorem sc__law_pick : FnScope N__law_pick ["pool", "things"] (defScope s__law_pick) := ⟨rfl, rfl, rfl, by decide +kernel, rfl, by decide +kernel, by decide +kernel⟩
theorem ok__law_pick {f : Addr} {fd : FuncData} (F : Fun K "_law_pick" "_law_pick" s__law_pick f fd) (T : Txt P K mg a) (G__law_draw : DefOk P w K mg base "_law_draw" 1 ["pool", "many"] (spD ⟨K, w, none⟩ 2 g__law_draw)) : FnOk P w K mg base (L2.CX P w) 2 f fd ["pool", "things"] (spD ⟨K, w, none⟩ 2 g__law_pick) := by
  have S := sc__law_pick
  refine F.okX S (fun vs H Q E h => spD_len h) (fun cdv A outer s H vs Q E hr h => ?_)
  exact ⟨_, (pss_one (ps_ret (pe_ix (oIx (K := ⟨K, w, none⟩) rfl) (pv 1) (pe_dX (takes_of rfl rfl rfl rfl) G__law_draw hr (by rfl) (pa_cons (pv 0) (pa_cons (pe_callB (oLen (K := ⟨K, w, none⟩) rfl rfl) (by rfl) T.len (by decide +kernel) (pa_cons (pv 1) pa_nil)) pa_nil))) (fun _ _ => rfl)))),
    run_start (k := K) (w := w) (N := N__law_pick) (s := b__law_pick) (tsf_ret (tef_op r_ix tef_var (tef_call (taf_cons tef_var (taf_cons (tef_B rl_lenG (taf_cons tef_var taf_nil)) taf_nil))))) h (fun ds μ ρ vs H Q E _ _ _ q => q)⟩
theorem sc__law_columns : FnScope N__law_columns ["rows", "letters"] (defScope s__law_columns) := ⟨rfl, rfl, rfl, by decide +kernel, rfl, by decide +kernel, by decide +kernel⟩
theorem ok__law_columns {f : Addr} {fd : FuncData} (F : Fun K "_law_columns" "_law_columns" s__law_columns f fd) (T : Txt P K mg a) : FnOk P w K mg base (L2.CX P w) 1 f fd ["rows", "letters"] (spD ⟨K, w, none⟩ 2 g__law_columns) := by
  have S := sc__law_columns
  refine F.okX S (fun vs H Q E h => spD_len h) (fun cdv A outer s H vs Q E hr h => ?_)
  exact ⟨_, (pss_cons (ps_set (i := 2) S.nd rfl (by first | exact Or.inl rfl | exact Or.inr rfl) (pe_lst (pa_cons (pe_tup pa_nil) pa_nil)))
    (pss_cons (ps_for (passes_of rfl) rfl (pi_range1 rfl T.range (pa_cons (pv 0) pa_nil)) (pg_name (i := 3) S.nd rfl (by first | exact Or.inl rfl | exact Or.inr rfl)) (pss_cons (ps_set (i := 4) S.nd rfl (by first | exact Or.inl rfl | exact Or.inr rfl) (pe_lst pa_nil))
        (pss_cons (ps_for (passes_of rfl) rfl (oLstI (K := ⟨K, w, none⟩) rfl (pv 2)) (pg_name (i := 5) S.nd rfl (by first | exact Or.inl rfl | exact Or.inr rfl)) (pss_one (ps_expr (oBm (K := ⟨K, w, none⟩) rfl (pe_bm PySem.F.plainAttrs_list PySem.F.slot_list_extend PySem.F.type_list_extend mt_extend (pv 4) (pa_cons (pe_lc (own := [("sign", 6)]) (g := gName 6) rfl S.nd (pi_str (pe_slice (oSl (K := ⟨K, w, none⟩) rfl) pe_str po_none (po_some (pe_op (oAdd (K := ⟨K, w, none⟩) rfl) (pv 1) pe_int)))) (blkOk_by (own := [("sign", 6)]) (N := N__law_columns) (sc := defScope s__law_columns) (by decide +kernel)) (fun _ _ _ _ _ => (pg_name (i := 6) S.nd rfl (by first | exact Or.inl rfl | exact Or.inr rfl))) (fun _ _ _ _ _ => pts_nil) (fun _ _ _ _ _ => (by exact (pe_op (oAdd (K := ⟨K, w, none⟩) rfl) (pv 5) (pe_tup (pa_cons (pv 6) pa_nil)))))) pa_nil))))))
        (pss_one (ps_set (i := 2) S.nd rfl (by first | exact Or.inl rfl | exact Or.inr rfl) (pv 4))))))
    (pss_one (ps_ret (pv 2))))),
    run_start (k := K) (w := w) (N := N__law_columns) (s := b__law_columns) (tsf_seq (tsf_asg (tef_lst (taf_cons (tef_tup taf_nil) taf_nil)) tgf_name)
    (tsf_seq (tsf_for (tif_rng1 (taf_cons tef_var taf_nil)) tgf_name (tsf_seq (tsf_asg (tef_lst taf_nil) tgf_name)
        (tsf_seq (tsf_for (tif_lst tef_var) tgf_name (tsf_drop (tef_bm rm_extend tef_var (taf_cons (tef_lc (vs := [6]) (tif_str (tef_sl rs_G tef_str tof_no (tof_at (tef_op r_addG tef_var tef_int)))) tgf_name (own_name (by decide)) tbf_yes (tef_op r_addG tef_var (tef_tup (taf_cons tef_var taf_nil)))) taf_nil))))
        (tsf_asg tef_var tgf_name))))
    (tsf_ret tef_var))) h (fun ds μ ρ vs H Q E _ _ _ q => q)⟩
theorem sc__law_drawn_table : FnScope N__law_drawn_table ["pool", "rows", "letters", "many", "plain"] (defScope s__law_drawn_table) := ⟨rfl, rfl, rfl, by decide +kernel, rfl, by decide +kernel, by decide +kernel⟩
theorem ok__law_drawn_table {f : Addr} {fd : FuncData} (F : Fun K "_law_drawn_table" "_law_drawn_table" s__law_drawn_table f fd) (T : Txt P K mg a) (G__law_draw : DefOk P w K mg base "_law_draw" 1 ["pool", "many"] (spD ⟨K, w, none⟩ 2 g__law_draw)) (G__law_columns : DefOk P w K mg base "_law_columns" 1 ["rows", "letters"] (spD ⟨K, w, none⟩ 2 g__law_columns)) : FnOk P w K mg base (L2.CX P w) 2 f fd ["pool", "rows", "letters", "many", "plain"] (spD ⟨K, w, none⟩ 5 g__law_drawn_table) := by
  have S := sc__law_drawn_table
  refine F.okX S (fun vs H Q E h => spD_len h) (fun cdv A outer s H vs Q E hr h => ?_)
  exact ⟨_, (pss_cons (ps_set (i := 5) S.nd rfl (by first | exact Or.inl rfl | exact Or.inr rfl) (pe_op op_sub (pe_callB (oLen (K := ⟨K, w, none⟩) rfl rfl) (by rfl) T.len (by decide +kernel) (pa_cons (pe_dX (takes_of rfl rfl rfl rfl) G__law_columns hr (by rfl) (pa_cons (pv 1) (pa_cons (pv 2) pa_nil))) pa_nil)) pe_int))
    (pss_cons (ps_set (i := 6) S.nd rfl (by first | exact Or.inl rfl | exact Or.inr rfl) (pe_lst pa_nil))
    (pss_cons (ps_for (passes_of rfl) rfl (pi_range1 rfl T.range (pa_cons (pv 3) pa_nil)) (pg_name (i := 7) S.nd rfl (by first | exact Or.inl rfl | exact Or.inr rfl)) (pss_cons (ps_set (i := 8) S.nd rfl (by first | exact Or.inl rfl | exact Or.inr rfl) (pe_dX (takes_of rfl rfl rfl rfl) G__law_draw hr (by rfl) (pa_cons (pv 0) (pa_cons (pv 3) pa_nil))))
        (pss_cons (ps_set (i := 9) S.nd rfl (by first | exact Or.inl rfl | exact Or.inr rfl) (pe_lst pa_nil))
        (pss_cons (ps_for (passes_of rfl) rfl (pi_range1 rfl T.range (pa_cons (pv 5) pa_nil)) (pg_name (i := 10) S.nd rfl (by first | exact Or.inl rfl | exact Or.inr rfl)) (pss_cons (ps_set (i := 11) S.nd rfl (by first | exact Or.inl rfl | exact Or.inr rfl) (pe_dX (takes_of rfl rfl rfl rfl) G__law_draw hr (by rfl) (pa_cons (pv 0) (pa_cons (pv 3) pa_nil))))
            (pss_one (ps_expr (oBm (K := ⟨K, w, none⟩) rfl (pe_bm PySem.F.plainAttrs_list PySem.F.slot_list_append PySem.F.type_list_append mt_append (pv 9) (pa_cons (pe_ifExp (PW.pt (pw_and (oTru (K := ⟨K, w, none⟩) rfl (pv 4) (by intro _; rfl)) (pw_and1 (pt_cmpR op_gt (pe_dX (takes_of rfl rfl rfl rfl) G__law_draw hr (by rfl) (pa_cons (pv 0) (pa_cons pe_int pa_nil))) pe_int (nomark _))))) (pv 8) (pv 11)) pa_nil)))))))
        (pss_one (ps_expr (oBm (K := ⟨K, w, none⟩) rfl (pe_bm PySem.F.plainAttrs_list PySem.F.slot_list_append PySem.F.type_list_append mt_append (pv 6) (pa_cons (pe_tup (pa_cons (pe_cmpR (oEq (K := ⟨K, w, none⟩) hr.units rfl) (pe_dX (takes_of rfl rfl rfl rfl) G__law_draw hr (by rfl) (pa_cons (pv 0) (pa_cons pe_int pa_nil))) pe_int (nomark _)) (pa_cons (pe_callTy (oTuple (K := ⟨K, w, none⟩) rfl) (by rfl) T.tuple (by decide +kernel) (pa_cons (pv 9) pa_nil)) pa_nil))) pa_nil)))))))))
    (pss_one (ps_ret (pv 6)))))),
    run_start (k := K) (w := w) (N := N__law_drawn_table) (s := b__law_drawn_table) (tsf_seq (tsf_asg (tef_op r_sub (tef_B rl_lenG (taf_cons (tef_call (taf_cons tef_var (taf_cons tef_var taf_nil))) taf_nil)) tef_int) tgf_name)
    (tsf_seq (tsf_asg (tef_lst taf_nil) tgf_name)
    (tsf_seq (tsf_for (tif_rng1 (taf_cons tef_var taf_nil)) tgf_name (tsf_seq (tsf_asg (tef_call (taf_cons tef_var (taf_cons tef_var taf_nil))) tgf_name)
        (tsf_seq (tsf_asg (tef_lst taf_nil) tgf_name)
        (tsf_seq (tsf_for (tif_rng1 (taf_cons tef_var taf_nil)) tgf_name (tsf_seq (tsf_asg (tef_call (taf_cons tef_var (taf_cons tef_var taf_nil))) tgf_name)
            (tsf_drop (tef_bm rm_append tef_var (taf_cons (tef_if (tbf_and (tbf_tru tef_var) (tbf_test (tef_op r_gt (tef_call (taf_cons tef_var (taf_cons tef_int taf_nil))) tef_int))) tef_var tef_var) taf_nil)))))
        (tsf_drop (tef_bm rm_append tef_var (taf_cons (tef_tup (taf_cons (tef_op r_eq (tef_call (taf_cons tef_var (taf_cons tef_int taf_nil))) tef_int) (taf_cons (tef_B rl_tupOf (taf_cons tef_var taf_nil)) taf_nil))) taf_nil)))))))
    (tsf_ret tef_var)))) h (fun ds μ ρ vs H Q E _ _ _ q => q)⟩
theorem sc__law_by_rows : FnScope N__law_by_rows ["pool", "rows", "letters"] (defScope s__law_by_rows) := ⟨rfl, rfl, rfl, by decide +kernel, rfl, by decide +kernel, by decide +kernel⟩
theorem ok__law_by_rows {f : Addr} {fd : FuncData} (F : Fun K "_law_by_rows" "_law_by_rows" s__law_by_rows f fd) (T : Txt P K mg a) (G__law_pick : DefOk P w K mg base "_law_pick" 2 ["pool", "things"] (spD ⟨K, w, none⟩ 2 g__law_pick)) (G__law_columns : DefOk P w K mg base "_law_columns" 1 ["rows", "letters"] (spD ⟨K, w, none⟩ 2 g__law_columns)) (G__law_draw : DefOk P w K mg base "_law_draw" 1 ["pool", "many"] (spD ⟨K, w, none⟩ 2 g__law_draw)) : FnOk P w K mg base (L2.CX P w) 3 f fd ["pool", "rows", "letters"] (spD ⟨K, w, none⟩ 3 g__law_by_rows) := by
  have S := sc__law_by_rows
  refine F.okX S (fun vs H Q E h => spD_len h) (fun cdv A outer s H vs Q E hr h => ?_)
  exact ⟨_, (pss_cons (ps_set (i := 4) S.nd rfl (by first | exact Or.inl rfl | exact Or.inr rfl) (pe_slice (oSl (K := ⟨K, w, none⟩) rfl) (pe_lc (own := [("row", 3)]) (g := gName 3) rfl S.nd (pi_range1 rfl T.range (pa_cons (pv 1) pa_nil)) (blkOk_by (own := [("row", 3)]) (N := N__law_by_rows) (sc := defScope s__law_by_rows) (by decide +kernel)) (fun _ _ _ _ _ => (pg_name (i := 3) S.nd rfl (by first | exact Or.inl rfl | exact Or.inr rfl))) (fun _ _ _ _ _ => (pts_one (pt_cmpR (oEq (K := ⟨K, w, none⟩) hr.units rfl) (pe_d G__law_draw hr (by rfl) (pa_cons (pv 0) (pa_cons pe_int pa_nil))) pe_int (nomark _)))) (fun _ _ _ _ _ => (by exact (pv 3)))) po_none (po_some pe_int)))
    (pss_cons (ps_set (i := 5) S.nd rfl (by first | exact Or.inl rfl | exact Or.inr rfl) (pe_dX (takes_of rfl rfl rfl rfl) G__law_pick hr (by rfl) (pa_cons (pv 0) (pa_cons (pe_slice (oSl (K := ⟨K, w, none⟩) rfl) (pe_lst (pa_cons pe_str (pa_cons pe_str (pa_cons pe_str pa_nil)))) po_none (po_some (pe_op op_sub (pe_op oMul pe_int (pv 2)) pe_int))) pa_nil))))
    (pss_cons (ps_set (i := 6) S.nd rfl (by first | exact Or.inl rfl | exact Or.inr rfl) (pe_ix (oIx (K := ⟨K, w, none⟩) rfl) (pe_lst (pa_cons pe_int (pa_cons pe_int (pa_cons pe_int pa_nil)))) (pe_callB (oLen (K := ⟨K, w, none⟩) rfl rfl) (by rfl) T.len (by decide +kernel) (pa_cons (pv 4) pa_nil)) (fun _ _ => rfl)))
    (pss_cons (ps_set (i := 7) S.nd rfl (by first | exact Or.inl rfl | exact Or.inr rfl) (pe_lst pa_nil))
    (pss_cons (ps_for (passes_of rfl) rfl (pi_range1 rfl T.range (pa_cons (pv 6) pa_nil)) (pg_name (i := 8) S.nd rfl (by first | exact Or.inl rfl | exact Or.inr rfl)) (pss_cons (ps_set (i := 9) S.nd rfl (by first | exact Or.inl rfl | exact Or.inr rfl) (pe_lst pa_nil))
        (pss_cons (ps_for (passes_of rfl) rfl (oLstI (K := ⟨K, w, none⟩) rfl (pe_slice (oSl (K := ⟨K, w, none⟩) rfl) (pe_dX (takes_of rfl rfl rfl rfl) G__law_columns hr (by rfl) (pa_cons (pv 1) (pa_cons (pv 2) pa_nil))) (po_some pe_int) po_none)) (pg_name (i := 10) S.nd rfl (by first | exact Or.inl rfl | exact Or.inr rfl)) (pss_cons (ps_set (i := 11) S.nd rfl (by first | exact Or.inl rfl | exact Or.inr rfl) (pv 8))
            (pss_cons (ps_for (passes_of rfl) rfl (pi_enum rfl T.enumerate (pa_cons (pv 4) pa_nil)) (oTupG (K := ⟨K, w, none⟩) (n := 2) rfl rfl (pgs_cons (pg_name (i := 12) S.nd rfl (by first | exact Or.inl rfl | exact Or.inr rfl)) (pgs_cons (pg_name (i := 3) S.nd rfl (by first | exact Or.inl rfl | exact Or.inr rfl)) pgs_nil)) rfl rfl) (pss_one (ps_if (pt_cmpR (oIn (K := ⟨K, w, none⟩) rfl) (pe_ix (oIx (K := ⟨K, w, none⟩) rfl) (pv 10) (pv 3) (fun _ _ => rfl)) (pv 5) (by rfl)) (pss_one (ps_set (i := 11) S.nd rfl (by first | exact Or.inl rfl | exact Or.inr rfl) (pe_op (oAdd (K := ⟨K, w, none⟩) rfl) (pv 11) (pe_op oMul (pe_ix (oIx (K := ⟨K, w, none⟩) rfl) (pe_lst (pa_cons pe_int (pa_cons (pe_un un_neg pe_int) pa_nil))) (pe_op op_modN (pe_callTy call_int1 (by rfl) T.int (by decide +kernel) (pa_cons (pe_op op_fdivN (pv 11) (pe_op (oAdd (K := ⟨K, w, none⟩) rfl) pe_int (pv 12))) pa_nil)) pe_int) (fun _ _ => rfl)) (pe_op (oAdd (K := ⟨K, w, none⟩) rfl) pe_int (pv 12)))))) pss_nil)))
            (pss_one (ps_expr (oBm (K := ⟨K, w, none⟩) rfl (pe_bm PySem.F.plainAttrs_list PySem.F.slot_list_append PySem.F.type_list_append mt_append (pv 9) (pa_cons (pv 11) pa_nil))))))))
        (pss_one (ps_expr (oBm (K := ⟨K, w, none⟩) rfl (pe_bm PySem.F.plainAttrs_list PySem.F.slot_list_append PySem.F.type_list_append mt_append (pv 7) (pa_cons (pe_tup (pa_cons (pe_cmpR (oEq (K := ⟨K, w, none⟩) hr.units rfl) (pe_dX (takes_of rfl rfl rfl rfl) G__law_draw hr (by rfl) (pa_cons (pv 0) (pa_cons pe_int pa_nil))) pe_int (nomark _)) (pa_cons (pe_callTy (oTuple (K := ⟨K, w, none⟩) rfl) (by rfl) T.tuple (by decide +kernel) (pa_cons (pv 9) pa_nil)) pa_nil))) pa_nil))))))))
    (pss_one (ps_ret (pv 7)))))))),
    run_start (k := K) (w := w) (N := N__law_by_rows) (s := b__law_by_rows) (tsf_seq (tsf_asg (tef_sl rs_G (tef_lc (vs := [3]) (tif_rng1 (taf_cons tef_var taf_nil)) tgf_name (own_name (by decide)) (tbf_test (tef_op r_eq (tef_call0 (taf_cons tef_var (taf_cons tef_int taf_nil))) tef_int)) tef_var) tof_no (tof_at tef_int)) tgf_name)
    (tsf_seq (tsf_asg (tef_call (taf_cons tef_var (taf_cons (tef_sl rs_G (tef_lst (taf_cons tef_str (taf_cons tef_str (taf_cons tef_str taf_nil)))) tof_no (tof_at (tef_op r_sub (tef_op r_mulG tef_int tef_var) tef_int))) taf_nil))) tgf_name)
    (tsf_seq (tsf_asg (tef_op r_ix (tef_lst (taf_cons tef_int (taf_cons tef_int (taf_cons tef_int taf_nil)))) (tef_B rl_lenG (taf_cons tef_var taf_nil))) tgf_name)
    (tsf_seq (tsf_asg (tef_lst taf_nil) tgf_name)
    (tsf_seq (tsf_for (tif_rng1 (taf_cons tef_var taf_nil)) tgf_name (tsf_seq (tsf_asg (tef_lst taf_nil) tgf_name)
        (tsf_seq (tsf_for (tif_lst (tef_sl rs_G (tef_call (taf_cons tef_var (taf_cons tef_var taf_nil))) (tof_at tef_int) tof_no)) tgf_name (tsf_seq (tsf_asg tef_var tgf_name)
            (tsf_seq (tsf_for (tif_enum (taf_cons tef_var taf_nil)) (tgf_tup (tgsf_cons tgf_name (tgsf_cons tgf_name tgsf_nil))) (tsf_if (tbf_test (tef_op r_inG (tef_op r_ix tef_var tef_var) tef_var)) (tsf_asg (tef_op r_addG tef_var (tef_op r_mulG (tef_op r_ix (tef_lst (taf_cons tef_int (taf_cons (tef_un r_neg tef_int) taf_nil))) (tef_op r_mod (tef_B rl_int1 (taf_cons (tef_op r_fdiv tef_var (tef_op r_addG tef_int tef_var)) taf_nil)) tef_int)) (tef_op r_addG tef_int tef_var))) tgf_name) tsf_next))
            (tsf_drop (tef_bm rm_append tef_var (taf_cons tef_var taf_nil))))))
        (tsf_drop (tef_bm rm_append tef_var (taf_cons (tef_tup (taf_cons (tef_op r_eq (tef_call (taf_cons tef_var (taf_cons tef_int taf_nil))) tef_int) (taf_cons (tef_B rl_tupOf (taf_cons tef_var taf_nil)) taf_nil))) taf_nil))))))
    (tsf_ret tef_var)))))) h (fun ds μ ρ vs H Q E _ _ _ q => q)⟩
theorem sc__law_first_signs : FnScope N__law_first_signs ["pool", "rows", "letters"] (defScope s__law_first_signs) := ⟨rfl, rfl, rfl, by decide +kernel, rfl, by decide +kernel, by decide +kernel⟩
theorem ok__law_first_signs {f : Addr} {fd : FuncData} (F : Fun K "_law_first_signs" "_law_first_signs" s__law_first_signs f fd) (T : Txt P K mg a) (G__law_draw : DefOk P w K mg base "_law_draw" 1 ["pool", "many"] (spD ⟨K, w, none⟩ 2 g__law_draw)) (G__law_columns : DefOk P w K mg base "_law_columns" 1 ["rows", "letters"] (spD ⟨K, w, none⟩ 2 g__law_columns)) : FnOk P w K mg base (L2.CX P w) 2 f fd ["pool", "rows", "letters"] (spD ⟨K, w, none⟩ 3 g__law_first_signs) := by
  have S := sc__law_first_signs
  refine F.okX S (fun vs H Q E h => spD_len h) (fun cdv A outer s H vs Q E hr h => ?_)
  exact ⟨_, (pss_cons (ps_asg (pe_tup (pa_cons (pe_dX (takes_of rfl rfl rfl rfl) G__law_draw hr (by rfl) (pa_cons (pv 0) (pa_cons (pv 1) pa_nil))) (pa_cons (pe_dX (takes_of rfl rfl rfl rfl) G__law_draw hr (by rfl) (pa_cons (pv 0) (pa_cons (pv 1) pa_nil))) pa_nil))) (oTupG (K := ⟨K, w, none⟩) (n := 2) rfl rfl (pgs_cons (pg_name (i := 3) S.nd rfl (by first | exact Or.inl rfl | exact Or.inr rfl)) (pgs_cons (pg_name (i := 4) S.nd rfl (by first | exact Or.inl rfl | exact Or.inr rfl)) pgs_nil)) rfl rfl))
    (pss_cons (ps_set (i := 5) S.nd rfl (by first | exact Or.inl rfl | exact Or.inr rfl) (pe_lst pa_nil))
    (pss_cons (ps_setLc (i := 6) (own := [("column", 9)]) (g := gName 9) rfl S.nd rfl rfl (sw_true rfl rfl rfl (by decide +kernel)) (oLstI (K := ⟨K, w, none⟩) rfl (pe_slice (oSl (K := ⟨K, w, none⟩) rfl) (pe_dX (takes_of rfl rfl rfl rfl) G__law_columns hr (by rfl) (pa_cons (pv 1) (pa_cons (pv 2) pa_nil))) (po_some pe_int) po_none)) (blkOk_by (own := [("column", 9)]) (N := N__law_first_signs) (sc := defScope s__law_first_signs) (by decide +kernel)) (fun _ _ _ _ _ => (pg_name (i := 9) S.nd rfl (by first | exact Or.inl rfl | exact Or.inr rfl))) (fun _ _ _ _ _ => pts_nil) (fun _ _ _ _ _ => (by exact (pe_op (oAdd (K := ⟨K, w, none⟩) rfl) pe_int (oBm (K := ⟨K, w, none⟩) rfl (pe_bm PySem.F.plainAttrs_str PySem.F.slot_str_find PySem.F.type_str_find mt_find pe_str (pa_cons (pe_ix (oIx (K := ⟨K, w, none⟩) rfl) (pv 9) (pv 3) (fun _ _ => rfl)) pa_nil)))))))
    (pss_cons (ps_expr (oBm (K := ⟨K, w, none⟩) rfl (pe_bm PySem.F.plainAttrs_list PySem.F.slot_list_append PySem.F.type_list_append mt_append (pv 5) (pa_cons (pe_tup (pa_cons (pe_cmpR (oEq (K := ⟨K, w, none⟩) hr.units rfl) (pe_dX (takes_of rfl rfl rfl rfl) G__law_draw hr (by rfl) (pa_cons (pv 0) (pa_cons pe_int pa_nil))) pe_int (nomark _)) (pa_cons (pe_callTy (oTuple (K := ⟨K, w, none⟩) rfl) (by rfl) T.tuple (by decide +kernel) (pa_cons (pv 6) pa_nil)) pa_nil))) pa_nil))))
    (pss_cons (ps_for (passes_of rfl) rfl (pi_range1 rfl T.range (pa_cons (pe_op (oAdd (K := ⟨K, w, none⟩) rfl) (pv 2) pe_int) pa_nil)) (pg_name (i := 7) S.nd rfl (by first | exact Or.inl rfl | exact Or.inr rfl)) (pss_cons (ps_setLc (i := 8) (own := [("column", 9)]) (g := gName 9) rfl S.nd rfl rfl (sw_true rfl rfl rfl (by decide +kernel)) (oLstI (K := ⟨K, w, none⟩) rfl (pe_slice (oSl (K := ⟨K, w, none⟩) rfl) (pe_dX (takes_of rfl rfl rfl rfl) G__law_columns hr (by rfl) (pa_cons (pv 1) (pa_cons (pv 2) pa_nil))) (po_some pe_int) po_none)) (blkOk_by (own := [("column", 9)]) (N := N__law_first_signs) (sc := defScope s__law_first_signs) (by decide +kernel)) (fun _ _ _ _ _ => (pg_name (i := 9) S.nd rfl (by first | exact Or.inl rfl | exact Or.inr rfl))) (fun _ _ _ _ _ => pts_nil) (fun _ _ _ _ _ => (by exact (pe_ifExp (PW.pt (pw_or (pt_cmpR (oEq (K := ⟨K, w, none⟩) hr.units rfl) (pe_ix (oIx (K := ⟨K, w, none⟩) rfl) (pv 9) (pv 4) (fun _ _ => rfl)) pe_str (nomark _)) (pw_or1 (pt_cmpR op_gt (pv 7) pe_int (nomark _))))) (pe_op (oAdd (K := ⟨K, w, none⟩) rfl) pe_int (pv 7)) pe_int))))
        (pss_one (ps_expr (oBm (K := ⟨K, w, none⟩) rfl (pe_bm PySem.F.plainAttrs_list PySem.F.slot_list_append PySem.F.type_list_append mt_append (pv 5) (pa_cons (pe_tup (pa_cons (pe_cmpR (oEq (K := ⟨K, w, none⟩) hr.units rfl) (pe_dX (takes_of rfl rfl rfl rfl) G__law_draw hr (by rfl) (pa_cons (pv 0) (pa_cons pe_int pa_nil))) pe_int (nomark _)) (pa_cons (pe_callTy (oTuple (K := ⟨K, w, none⟩) rfl) (by rfl) T.tuple (by decide +kernel) (pa_cons (pv 8) pa_nil)) pa_nil))) pa_nil)))))))
    (pss_one (ps_ret (pv 5)))))))),
    run_start (k := K) (w := w) (N := N__law_first_signs) (s := b__law_first_signs) (tsf_seq (tsf_asg (tef_tup (taf_cons (tef_call (taf_cons tef_var (taf_cons tef_var taf_nil))) (taf_cons (tef_call (taf_cons tef_var (taf_cons tef_var taf_nil))) taf_nil))) (tgf_tup (tgsf_cons tgf_name (tgsf_cons tgf_name tgsf_nil))))
    (tsf_seq (tsf_asg (tef_lst taf_nil) tgf_name)
    (tsf_seq (tsf_asg (tef_lc (vs := [9]) (tif_lst (tef_sl rs_G (tef_call (taf_cons tef_var (taf_cons tef_var taf_nil))) (tof_at tef_int) tof_no)) tgf_name (own_name (by decide)) tbf_yes (tef_op r_addG tef_int (tef_bm rm_find tef_str (taf_cons (tef_op r_ix tef_var tef_var) taf_nil)))) tgf_name)
    (tsf_seq (tsf_drop (tef_bm rm_append tef_var (taf_cons (tef_tup (taf_cons (tef_op r_eq (tef_call (taf_cons tef_var (taf_cons tef_int taf_nil))) tef_int) (taf_cons (tef_B rl_tupOf (taf_cons tef_var taf_nil)) taf_nil))) taf_nil)))
    (tsf_seq (tsf_for (tif_rng1 (taf_cons (tef_op r_addG tef_var tef_int) taf_nil)) tgf_name (tsf_seq (tsf_asg (tef_lc (vs := [9]) (tif_lst (tef_sl rs_G (tef_call (taf_cons tef_var (taf_cons tef_var taf_nil))) (tof_at tef_int) tof_no)) tgf_name (own_name (by decide)) tbf_yes (tef_if (tbf_or (tbf_test (tef_op r_eq (tef_op r_ix tef_var tef_var) tef_str)) (tbf_test (tef_op r_gt tef_var tef_int))) (tef_op r_addG tef_int tef_var) tef_int)) tgf_name)
        (tsf_drop (tef_bm rm_append tef_var (taf_cons (tef_tup (taf_cons (tef_op r_eq (tef_call (taf_cons tef_var (taf_cons tef_int taf_nil))) tef_int) (taf_cons (tef_B rl_tupOf (taf_cons tef_var taf_nil)) taf_nil))) taf_nil)))))
    (tsf_ret tef_var)))))) h (fun ds μ ρ vs H Q E _ _ _ q => q)⟩
theorem sc__law_compared : FnScope N__law_compared ["pool", "rows", "letters"] (defScope s__law_compared) := ⟨rfl, rfl, rfl, by decide +kernel, rfl, by decide +kernel, by decide +kernel⟩
theorem ok__law_compared {f : Addr} {fd : FuncData} (F : Fun K "_law_compared" "_law_compared" s__law_compared f fd) (T : Txt P K mg a) (G__law_draw : DefOk P w K mg base "_law_draw" 1 ["pool", "many"] (spD ⟨K, w, none⟩ 2 g__law_draw)) (G__law_columns : DefOk P w K mg base "_law_columns" 1 ["rows", "letters"] (spD ⟨K, w, none⟩ 2 g__law_columns)) : FnOk P w K mg base (L2.CX P w) 2 f fd ["pool", "rows", "letters"] (spD ⟨K, w, none⟩ 3 g__law_compared) := by
  have S := sc__law_compared
  refine F.okX S (fun vs H Q E h => spD_len h) (fun cdv A outer s H vs Q E hr h => ?_)
  exact ⟨_, (pss_cons (ps_set (i := 3) S.nd rfl (by first | exact Or.inl rfl | exact Or.inr rfl) (pe_dX (takes_of rfl rfl rfl rfl) G__law_draw hr (by rfl) (pa_cons (pv 0) (pa_cons (pe_op op_sub (pv 1) pe_int) pa_nil))))
    (pss_cons (ps_set (i := 4) S.nd rfl (by first | exact Or.inl rfl | exact Or.inr rfl) (pe_op (oAdd (K := ⟨K, w, none⟩) rfl) (pe_op (oAdd (K := ⟨K, w, none⟩) rfl) (pv 3) pe_int) (pe_dX (takes_of rfl rfl rfl rfl) G__law_draw hr (by rfl) (pa_cons (pv 0) (pa_cons (pe_op op_sub (pe_op op_sub (pv 1) (pv 3)) pe_int) pa_nil)))))
    (pss_cons (ps_set (i := 5) S.nd rfl (by first | exact Or.inl rfl | exact Or.inr rfl) (pe_cmpR (oEq (K := ⟨K, w, none⟩) hr.units rfl) (pe_dX (takes_of rfl rfl rfl rfl) G__law_draw hr (by rfl) (pa_cons (pv 0) (pa_cons pe_int pa_nil))) pe_int (nomark _)))
    (pss_cons (ps_set (i := 6) S.nd rfl (by first | exact Or.inl rfl | exact Or.inr rfl) (pe_lst pa_nil))
    (pss_cons (ps_for (passes_of rfl) rfl (oLstI (K := ⟨K, w, none⟩) rfl (pe_slice (oSl (K := ⟨K, w, none⟩) rfl) (pe_dX (takes_of rfl rfl rfl rfl) G__law_columns hr (by rfl) (pa_cons (pv 1) (pa_cons (pv 2) pa_nil))) (po_some pe_int) po_none)) (pg_name (i := 7) S.nd rfl (by first | exact Or.inl rfl | exact Or.inr rfl)) (pss_cons (ps_set (i := 8) S.nd rfl (by first | exact Or.inl rfl | exact Or.inr rfl) (pe_tup (pa_cons (pe_ix (oIx (K := ⟨K, w, none⟩) rfl) (pv 7) (pv 3) (fun _ _ => rfl)) (pa_cons (pe_ix (oIx (K := ⟨K, w, none⟩) rfl) (pv 7) (pv 4) (fun _ _ => rfl)) pa_nil))))
        (pss_cons (ps_set (i := 9) S.nd rfl (by first | exact Or.inl rfl | exact Or.inr rfl) (pe_ifExp (oTru (K := ⟨K, w, none⟩) rfl (pv 5) (by intro _; rfl)) (pe_cmpR (oNe (K := ⟨K, w, none⟩) hr.units rfl) (pe_ix (oIx (K := ⟨K, w, none⟩) rfl) (pv 8) pe_int (fun _ _ => rfl)) (pe_ix (oIx (K := ⟨K, w, none⟩) rfl) (pv 8) pe_int (fun _ _ => rfl)) (nomark _)) (pe_cmpR (oNe (K := ⟨K, w, none⟩) hr.units rfl) (pe_cmpR (oEq (K := ⟨K, w, none⟩) hr.units rfl) (pe_ix (oIx (K := ⟨K, w, none⟩) rfl) (pv 8) pe_int (fun _ _ => rfl)) pe_str (nomark _)) (pe_cmpR (oEq (K := ⟨K, w, none⟩) hr.units rfl) (pe_ix (oIx (K := ⟨K, w, none⟩) rfl) (pv 8) pe_int (fun _ _ => rfl)) pe_str (nomark _)) (nomark _))))
        (pss_one (ps_expr (oBm (K := ⟨K, w, none⟩) rfl (pe_bm PySem.F.plainAttrs_list PySem.F.slot_list_append PySem.F.type_list_append mt_append (pv 6) (pa_cons (pe_callTy call_int1 (by rfl) T.int (by decide +kernel) (pa_cons (pv 9) pa_nil)) pa_nil))))))))
    (pss_one (ps_ret (pe_lst (pa_cons (pe_tup (pa_cons (pe_cmpR (oEq (K := ⟨K, w, none⟩) hr.units rfl) (pe_dX (takes_of rfl rfl rfl rfl) G__law_draw hr (by rfl) (pa_cons (pv 0) (pa_cons pe_int pa_nil))) pe_int (nomark _)) (pa_cons (pe_callTy (oTuple (K := ⟨K, w, none⟩) rfl) (by rfl) T.tuple (by decide +kernel) (pa_cons (pv 6) pa_nil)) pa_nil))) (pa_cons (pe_tup (pa_cons (pe_cmpR (oEq (K := ⟨K, w, none⟩) hr.units rfl) (pe_dX (takes_of rfl rfl rfl rfl) G__law_draw hr (by rfl) (pa_cons (pv 0) (pa_cons pe_int pa_nil))) pe_int (nomark _)) (pa_cons (pe_op (oRepW (K := ⟨K, w, none⟩) rfl) (pe_tup (pa_cons pe_int pa_nil)) (pe_callB (oLen (K := ⟨K, w, none⟩) rfl rfl) (by rfl) T.len (by decide +kernel) (pa_cons (pv 6) pa_nil))) pa_nil))) pa_nil)))))))))),
    run_start (k := K) (w := w) (N := N__law_compared) (s := b__law_compared) (tsf_seq (tsf_asg (tef_call (taf_cons tef_var (taf_cons (tef_op r_sub tef_var tef_int) taf_nil))) tgf_name)
    (tsf_seq (tsf_asg (tef_op r_addG (tef_op r_addG tef_var tef_int) (tef_call (taf_cons tef_var (taf_cons (tef_op r_sub (tef_op r_sub tef_var tef_var) tef_int) taf_nil)))) tgf_name)
    (tsf_seq (tsf_asg (tef_op r_eq (tef_call (taf_cons tef_var (taf_cons tef_int taf_nil))) tef_int) tgf_name)
    (tsf_seq (tsf_asg (tef_lst taf_nil) tgf_name)
    (tsf_seq (tsf_for (tif_lst (tef_sl rs_G (tef_call (taf_cons tef_var (taf_cons tef_var taf_nil))) (tof_at tef_int) tof_no)) tgf_name (tsf_seq (tsf_asg (tef_tup (taf_cons (tef_op r_ix tef_var tef_var) (taf_cons (tef_op r_ix tef_var tef_var) taf_nil))) tgf_name)
        (tsf_seq (tsf_asg (tef_if (tbf_tru tef_var) (tef_op r_ne (tef_op r_ix tef_var tef_int) (tef_op r_ix tef_var tef_int)) (tef_op r_ne (tef_op r_eq (tef_op r_ix tef_var tef_int) tef_str) (tef_op r_eq (tef_op r_ix tef_var tef_int) tef_str))) tgf_name)
        (tsf_drop (tef_bm rm_append tef_var (taf_cons (tef_B rl_int1 (taf_cons tef_var taf_nil)) taf_nil))))))
    (tsf_ret (tef_lst (taf_cons (tef_tup (taf_cons (tef_op r_eq (tef_call (taf_cons tef_var (taf_cons tef_int taf_nil))) tef_int) (taf_cons (tef_B rl_tupOf (taf_cons tef_var taf_nil)) taf_nil))) (taf_cons (tef_tup (taf_cons (tef_op r_eq (tef_call (taf_cons tef_var (taf_cons tef_int taf_nil))) tef_int) (taf_cons (tef_op r_repW (tef_tup (taf_cons tef_int taf_nil)) (tef_B rl_lenG (taf_cons tef_var taf_nil))) taf_nil))) taf_nil))))))))) h (fun ds μ ρ vs H Q E _ _ _ q => q)⟩
theorem sc__law_spec : FnScope N__law_spec ["pool", "most_rows"] (defScope s__law_spec) := ⟨rfl, rfl, rfl, by decide +kernel, rfl, by decide +kernel, by decide +kernel⟩
theorem ok__law_spec {f : Addr} {fd : FuncData} (F : Fun K "_law_spec" "_law_spec" s__law_spec f fd) (T : Txt P K mg a) (G__law_pick : DefOk P w K mg base "_law_pick" 2 ["pool", "things"] (spD ⟨K, w, none⟩ 2 g__law_pick)) (G__law_draw : DefOk P w K mg base "_law_draw" 1 ["pool", "many"] (spD ⟨K, w, none⟩ 2 g__law_draw)) (G__law_drawn_table : DefOk P w K mg base "_law_drawn_table" 2 ["pool", "rows", "letters", "many", "plain"] (spD ⟨K, w, none⟩ 5 g__law_drawn_table)) (G__law_by_rows : DefOk P w K mg base "_law_by_rows" 3 ["pool", "rows", "letters"] (spD ⟨K, w, none⟩ 3 g__law_by_rows)) (G__law_first_signs : DefOk P w K mg base "_law_first_signs" 2 ["pool", "rows", "letters"] (spD ⟨K, w, none⟩ 3 g__law_first_signs)) (G__law_compared : DefOk P w K mg base "_law_compared" 2 ["pool", "rows", "letters"] (spD ⟨K, w, none⟩ 3 g__law_compared)) : FnOk P w K mg base (L2.CX P w) 4 f fd ["pool", "most_rows"] (spD ⟨K, w, none⟩ 2 g__law_spec) := by
  have S := sc__law_spec
  refine F.okX S (fun vs H Q E h => spD_len h) (fun cdv A outer s H vs Q E hr h => ?_)
  exact ⟨_, (pss_cons (ps_set (i := 2) S.nd rfl (by first | exact Or.inl rfl | exact Or.inr rfl) (pe_dX (takes_of rfl rfl rfl rfl) G__law_pick hr (by rfl) (pa_cons (pv 0) (pa_cons (pe_lst (pa_cons pe_int (pa_cons pe_int (pa_cons pe_int (pa_cons (pv 1) pa_nil))))) pa_nil))))
    (pss_cons (ps_set (i := 3) S.nd rfl (by first | exact Or.inl rfl | exact Or.inr rfl) (pe_ifExp (pt_cmpR op_gt (pv 2) pe_int (nomark _)) pe_int (pe_dX (takes_of rfl rfl rfl rfl) G__law_pick hr (by rfl) (pa_cons (pv 0) (pa_cons (pe_lst (pa_cons pe_int (pa_cons pe_int (pa_cons pe_int pa_nil)))) pa_nil)))))
    (pss_cons (ps_set (i := 4) S.nd rfl (by first | exact Or.inl rfl | exact Or.inr rfl) (pe_dX (takes_of rfl rfl rfl rfl) G__law_draw hr (by rfl) (pa_cons (pv 0) (pa_cons pe_int pa_nil))))
    (pss_cons (ps_if (pt_cmpR op_lt (pv 4) pe_int (nomark _)) (pss_one (ps_set (i := 5) S.nd rfl (by first | exact Or.inl rfl | exact Or.inr rfl) (pe_dX (takes_of rfl rfl rfl rfl) G__law_drawn_table hr (by rfl) (pa_cons (pv 0) (pa_cons (pv 2) (pa_cons (pv 3) (pa_cons (pe_op (oAdd (K := ⟨K, w, none⟩) rfl) pe_int (pe_dX (takes_of rfl rfl rfl rfl) G__law_draw hr (by rfl) (pa_cons (pv 0) (pa_cons pe_int pa_nil)))) (pa_cons (pe_cmpR (oEq (K := ⟨K, w, none⟩) hr.units rfl) (pv 4) pe_int (nomark _)) pa_nil)))))))) (pss_one (ps_if (pt_cmpR op_lt (pv 4) pe_int (nomark _)) (pss_one (ps_set (i := 5) S.nd rfl (by first | exact Or.inl rfl | exact Or.inr rfl) (pe_dX (takes_of rfl rfl rfl rfl) G__law_by_rows hr (by rfl) (pa_cons (pv 0) (pa_cons (pv 2) (pa_cons (pv 3) pa_nil)))))) (pss_one (ps_if (pt_cmpR op_lt (pv 4) pe_int (nomark _)) (pss_one (ps_set (i := 5) S.nd rfl (by first | exact Or.inl rfl | exact Or.inr rfl) (pe_dX (takes_of rfl rfl rfl rfl) G__law_first_signs hr (by rfl) (pa_cons (pv 0) (pa_cons (pv 2) (pa_cons (pv 3) pa_nil)))))) (pss_one (ps_set (i := 5) S.nd rfl (by first | exact Or.inl rfl | exact Or.inr rfl) (pe_dX (takes_of rfl rfl rfl rfl) G__law_compared hr (by rfl) (pa_cons (pv 0) (pa_cons (pv 2) (pa_cons (pv 3) pa_nil)))))))))))
    (pss_one (ps_ret (pe_tup (pa_cons (pv 2) (pa_cons (pv 3) (pa_cons (pe_callTy (oTuple (K := ⟨K, w, none⟩) rfl) (by rfl) T.tuple (by decide +kernel) (pa_cons (pv 5) pa_nil)) pa_nil)))))))))),
    run_start (k := K) (w := w) (N := N__law_spec) (s := b__law_spec) (tsf_seq (tsf_asg (tef_call (taf_cons tef_var (taf_cons (tef_lst (taf_cons tef_int (taf_cons tef_int (taf_cons tef_int (taf_cons tef_var taf_nil))))) taf_nil))) tgf_name)
    (tsf_seq (tsf_asg (tef_if (tbf_test (tef_op r_gt tef_var tef_int)) tef_int (tef_call (taf_cons tef_var (taf_cons (tef_lst (taf_cons tef_int (taf_cons tef_int (taf_cons tef_int taf_nil)))) taf_nil)))) tgf_name)
    (tsf_seq (tsf_asg (tef_call (taf_cons tef_var (taf_cons tef_int taf_nil))) tgf_name)
    (tsf_seq (tsf_if (tbf_test (tef_op r_lt tef_var tef_int)) (tsf_asg (tef_call (taf_cons tef_var (taf_cons tef_var (taf_cons tef_var (taf_cons (tef_op r_addG tef_int (tef_call (taf_cons tef_var (taf_cons tef_int taf_nil)))) (taf_cons (tef_op r_eq tef_var tef_int) taf_nil)))))) tgf_name) (tsf_if (tbf_test (tef_op r_lt tef_var tef_int)) (tsf_asg (tef_call (taf_cons tef_var (taf_cons tef_var (taf_cons tef_var taf_nil)))) tgf_name) (tsf_if (tbf_test (tef_op r_lt tef_var tef_int)) (tsf_asg (tef_call (taf_cons tef_var (taf_cons tef_var (taf_cons tef_var taf_nil)))) tgf_name) (tsf_asg (tef_call (taf_cons tef_var (taf_cons tef_var (taf_cons tef_var taf_nil)))) tgf_name))))
    (tsf_ret (tef_tup (taf_cons tef_var (taf_cons tef_var (taf_cons (tef_B rl_tupOf (taf_cons tef_var taf_nil)) taf_nil))))))))) h (fun ds μ ρ vs H Q E _ _ _ q => q)⟩
theorem sc_is_integer : FnScope N_is_integer ["thing"] (defScope s_is_integer) := ⟨rfl, rfl, rfl, by decide +kernel, rfl, by decide +kernel, by decide +kernel⟩
theorem ok_is_integer {f : Addr} {fd : FuncData} (F : Fun K "is_integer" "is_integer" s_is_integer f fd) (T : Txt P K mg a) : FnOk P w K mg base (L2.CX P w) 1 f fd ["thing"] (spD ⟨K, w, none⟩ 1 g_is_integer) := by
  have S := sc_is_integer
  refine F.okX S (fun vs H Q E h => spD_len h) (fun cdv A outer s H vs Q E hr h => ?_)
  exact ⟨_, (pss_one (ps_ret (pe_and (pe_callB (oIsi (K := ⟨K, w, none⟩) rfl) (by rfl) T.isinstance (by decide +kernel) (pa_cons (pv 0) (pa_cons (pe_bltn (v := .ty "int") (by rfl) T.int (by decide +kernel) rfl) pa_nil))) (pe_one (pe_not (pe_callB (oIsi (K := ⟨K, w, none⟩) rfl) (by rfl) T.isinstance (by decide +kernel) (pa_cons (pv 0) (pa_cons (pe_bltn (v := .ty "bool") (by rfl) T.bool (by decide +kernel) rfl) pa_nil)))))))),
    run_start (k := K) (w := w) (N := N_is_integer) (s := b_is_integer) (tsf_ret (tef_and (tef_B rl_isi (taf_cons tef_var (taf_cons (tef_con fun _ _ => .ty "int") taf_nil))) (tef_not (tef_B rl_isi (taf_cons tef_var (taf_cons (tef_con fun _ _ => .ty "bool") taf_nil)))))) h (fun ds μ ρ vs H Q E _ _ _ q => q)⟩
theorem sc_is_between : FnScope N_is_between ["low", "high", "thing"] (defScope s_is_between) := ⟨rfl, rfl, rfl, by decide +kernel, rfl, by decide +kernel, by decide +kernel⟩
theorem ok_is_between {f : Addr} {fd : FuncData} (F : Fun K "is_between" "is_between" s_is_between f fd) (T : Txt P K mg a) (G_is_integer : DefOk P w K mg base "is_integer" 1 ["thing"] (spD ⟨K, w, none⟩ 1 g_is_integer)) : FnOk P w K mg base (L2.CX P w) 2 f fd ["low", "high", "thing"] (spD ⟨K, w, none⟩ 3 g_is_between) := by
  have S := sc_is_between
  refine F.okX S (fun vs H Q E h => spD_len h) (fun cdv A outer s H vs Q E hr h => ?_)
  exact ⟨_, (pss_one (ps_ret (pe_and (pe_dX (takes_of rfl rfl rfl rfl) G_is_integer hr (by rfl) (pa_cons (pv 2) pa_nil)) (pe_one (pe_chain op_le op_le (pv 0) (pv 2) (pv 1)))))),
    run_start (k := K) (w := w) (N := N_is_between) (s := b_is_between) (tsf_ret (tef_and (tef_call (taf_cons tef_var taf_nil)) (tef_chain r_le r_le tef_var tef_var tef_var))) h (fun ds μ ρ vs H Q E _ _ _ q => q)⟩
theorem sc_Readings_M___init__ : FnScope N_Readings_M___init__ ["self", "rows", "letters"] (defScope s_Readings_M___init__) := ⟨rfl, rfl, rfl, by decide +kernel, rfl, by decide +kernel, by decide +kernel⟩
theorem ok_Readings_M___init__ {f : Addr} {fd : FuncData} (F : Fun K "__init__" "Readings.__init__" s_Readings_M___init__ f fd) (T : Txt P K mg a) : FnOk P w K mg base (L2.CX P w) 1 f fd ["self", "rows", "letters"] (spD ⟨K, w, none⟩ 3 (g_Readings_M___init__ K a)) := by
  have S := sc_Readings_M___init__
  refine F.okX S (fun vs H Q E h => spD_len h) (fun cdv A outer s H vs Q E hr h => ?_)
  exact ⟨_, (pss_cons (ps_fld (pv 0) (pv 1) rfl)
    (pss_cons (ps_fld (pv 0) (pv 2) rfl)
    (pss_cons (ps_fld (pv 0) (pe_lst (pa_cons (pe_tup pa_nil) pa_nil)) rfl)
    (pss_cons (ps_for (passes_of rfl) rfl (pi_range1 rfl T.range (pa_cons (pv 1) pa_nil)) (pg_name (i := 3) S.nd rfl (by first | exact Or.inl rfl | exact Or.inr rfl)) (pss_one (ps_fld (pv 0) (pe_lc2 (own := [("some", 4), ("figure", 5)]) (vs1 := [5]) rfl S.nd (oLstI (K := ⟨K, w, none⟩) rfl (oFld (K := ⟨K, w, none⟩) rfl (pv 0) rfl)) (blkOk_by (own := [("some", 4), ("figure", 5)]) (N := N_Readings_M___init__) (sc := defScope s_Readings_M___init__) (by decide +kernel)) (by decide) (fun _ _ _ _ _ => (pg_name (i := 4) S.nd rfl (by first | exact Or.inl rfl | exact Or.inr rfl))) (fun _ _ _ _ _ => pts_nil) (fun _ _ _ _ _ => (pi_range1 rfl T.range (pa_cons (pe_op (oAdd (K := ⟨K, w, none⟩) rfl) (pv 2) pe_int) pa_nil))) (fun _ _ _ _ _ => (pg_name (i := 5) S.nd rfl (by first | exact Or.inl rfl | exact Or.inr rfl))) (fun _ _ _ _ _ => pts_nil) (fun _ _ _ _ _ => (by exact (pe_op (oAdd (K := ⟨K, w, none⟩) rfl) (pv 4) (pe_tup (pa_cons (pv 5) pa_nil)))))) rfl)))
    (pss_one (ps_fld (pv 0) (pe_lc (own := [("some", 4)]) (g := gName 4) rfl S.nd (oLstI (K := ⟨K, w, none⟩) rfl (oFld (K := ⟨K, w, none⟩) rfl (pv 0) rfl)) (blkOk_by (own := [("some", 4)]) (N := N_Readings_M___init__) (sc := defScope s_Readings_M___init__) (by decide +kernel)) (fun _ _ _ _ _ => (pg_name (i := 4) S.nd rfl (by first | exact Or.inl rfl | exact Or.inr rfl))) (fun _ _ _ _ _ => pts_nil) (fun _ _ _ _ _ => (by exact (pe_callB (oSum (K := ⟨K, w, none⟩) rfl rfl) (by rfl) T.sum (by decide +kernel) (pa_cons (pe_lc (own := [("row", 6)]) (g := gName 6) rfl S.nd (pi_range1 rfl T.range (pa_cons (pv 1) pa_nil)) (blkOk_by (own := [("row", 6)]) (by rfl)) (fun _ _ _ _ _ => (pg_name (i := 6) S.nd rfl (by first | exact Or.inl rfl | exact Or.inr rfl))) (fun _ _ _ _ _ => (pts_one (pt_cmpR (oEq (K := ⟨K, w, none⟩) hr.units rfl) (pe_ix (oIx (K := ⟨K, w, none⟩) rfl) (pv 4) (pv 6) (fun _ _ => rfl)) pe_int (nomark _)))) (fun _ _ _ _ _ => (by exact (pe_op op_shl pe_int (pv 6))))) pa_nil))))) rfl)))))),
    run_start (k := K) (w := w) (N := N_Readings_M___init__) (s := b_Readings_M___init__ K a) (tsf_seq (tsf_fld T.c_Readings T.n_Readings_rows tef_var tef_var)
    (tsf_seq (tsf_fld T.c_Readings T.n_Readings_letters tef_var tef_var)
    (tsf_seq (tsf_fld T.c_Readings T.n_Readings_figures tef_var (tef_lst (taf_cons (tef_tup taf_nil) taf_nil)))
    (tsf_seq (tsf_for (tif_rng1 (taf_cons tef_var taf_nil)) tgf_name (tsf_fld T.c_Readings T.n_Readings_figures tef_var (tef_lc2 (vs := [4, 5]) (vs1 := [5]) (tif_lst (tef_fld T.c_Readings T.n_Readings_figures tef_var)) tgf_name (own_name (by decide)) tbf_yes (tif_rng1 (taf_cons (tef_op r_addG tef_var tef_int) taf_nil)) tgf_name (own_name (by decide)) tbf_yes (tef_op r_addG tef_var (tef_tup (taf_cons tef_var taf_nil))))))
    (tsf_fld T.c_Readings T.n_Readings_ended tef_var (tef_lc (vs := [4]) (tif_lst (tef_fld T.c_Readings T.n_Readings_figures tef_var)) tgf_name (own_name (by decide)) tbf_yes (tef_B rl_sum (taf_cons (tef_lc (vs := [6]) (tif_rng1 (taf_cons tef_var taf_nil)) tgf_name (own_name (by decide)) (tbf_test (tef_op r_eq (tef_op r_ix tef_var tef_var) tef_int)) (tef_op r_shl tef_int tef_var)) taf_nil)))))))) h (fun ds μ ρ vs H Q E _ _ _ q => q)⟩
theorem sc_many_readings : FnScope N_many_readings ["rows", "letters"] (defScope s_many_readings) := ⟨rfl, rfl, rfl, by decide +kernel, rfl, by decide +kernel, by decide +kernel⟩
theorem ok_many_readings {f : Addr} {fd : FuncData} (F : Fun K "many_readings" "many_readings" s_many_readings f fd) (T : Txt P K mg a) (M_Readings : MakeOk P w K mg base "Readings" a.Readings 1 ["self", "rows", "letters"] (spD ⟨K, w, none⟩ 3 (g_Readings_M___init__ K a))) : FnOk P w K mg base (L2.CX P w) 3 f fd ["rows", "letters"] (spD ⟨K, w, none⟩ 2 (g_many_readings K a)) := by
  have S := sc_many_readings
  refine F.okX S (fun vs H Q E h => spD_len h) (fun cdv A outer s H vs Q E hr h => ?_)
  exact ⟨_, (pss_one (ps_ret (pe_op op_sub (pe_callB (oLen (K := ⟨K, w, none⟩) rfl rfl) (by rfl) T.len (by decide +kernel) (pa_cons (oFld (K := ⟨K, w, none⟩) rfl (pe_mkS (takes_of rfl rfl rfl rfl) M_Readings hr (by rfl) (pa_cons (pv 0) (pa_cons (pv 1) pa_nil))) rfl) pa_nil)) pe_int))),
    run_start (k := K) (w := w) (N := N_many_readings) (s := b_many_readings K a) (tsf_ret (tef_op r_sub (tef_B rl_lenG (taf_cons (tef_fld T.c_Readings T.n_Readings_figures (tef_mk (taf_cons tef_var (taf_cons tef_var taf_nil)))) taf_nil)) tef_int)) h (fun ds μ ρ vs H Q E _ _ _ q => q)⟩
theorem sc_is_table : FnScope N_is_table ["most", "thing"] (defScope s_is_table) := ⟨rfl, rfl, rfl, by decide +kernel, rfl, by decide +kernel, by decide +kernel⟩
theorem ok_is_table {f : Addr} {fd : FuncData} (F : Fun K "is_table" "is_table" s_is_table f fd) (T : Txt P K mg a) : FnOk P w K mg base (L2.CX P w) 1 f fd ["most", "thing"] (spD ⟨K, w, none⟩ 2 g_is_table) := by
  have S := sc_is_table
  refine F.okX S (fun vs H Q E h => spD_len h) (fun cdv A outer s H vs Q E hr h => ?_)
  exact ⟨_, (pss_one (ps_ret (pe_and (pe_callB (oIsi (K := ⟨K, w, none⟩) rfl) (by rfl) T.isinstance (by decide +kernel) (pa_cons (pv 1) (pa_cons (pe_bltn (v := .ty "tuple") (by rfl) T.tuple (by decide +kernel) rfl) pa_nil))) (pe_one (pe_chain op_le op_le pe_int (pe_callB (oLen (K := ⟨K, w, none⟩) rfl rfl) (by rfl) T.len (by decide +kernel) (pa_cons (pv 1) pa_nil)) (pv 0)))))),
    run_start (k := K) (w := w) (N := N_is_table) (s := b_is_table) (tsf_ret (tef_and (tef_B rl_isi (taf_cons tef_var (taf_cons (tef_con fun _ _ => .ty "tuple") taf_nil))) (tef_chain r_le r_le tef_int (tef_B rl_lenG (taf_cons tef_var taf_nil)) tef_var))) h (fun ds μ ρ vs H Q E _ _ _ q => q)⟩
theorem sc_is_tuple_of : FnScope N_is_tuple_of ["many", "thing"] (defScope s_is_tuple_of) := ⟨rfl, rfl, rfl, by decide +kernel, rfl, by decide +kernel, by decide +kernel⟩
theorem ok_is_tuple_of {f : Addr} {fd : FuncData} (F : Fun K "is_tuple_of" "is_tuple_of" s_is_tuple_of f fd) (T : Txt P K mg a) : FnOk P w K mg base (L2.CX P w) 1 f fd ["many", "thing"] (spD ⟨K, w, none⟩ 2 g_is_tuple_of) := by
  have S := sc_is_tuple_of
  refine F.okX S (fun vs H Q E h => spD_len h) (fun cdv A outer s H vs Q E hr h => ?_)
  exact ⟨_, (pss_one (ps_ret (pe_and (pe_callB (oIsi (K := ⟨K, w, none⟩) rfl) (by rfl) T.isinstance (by decide +kernel) (pa_cons (pv 1) (pa_cons (pe_bltn (v := .ty "tuple") (by rfl) T.tuple (by decide +kernel) rfl) pa_nil))) (pe_one (pe_cmpR (oEq (K := ⟨K, w, none⟩) hr.units rfl) (pe_callB (oLen (K := ⟨K, w, none⟩) rfl rfl) (by rfl) T.len (by decide +kernel) (pa_cons (pv 1) pa_nil)) (pv 0) (nomark _)))))),
    run_start (k := K) (w := w) (N := N_is_tuple_of) (s := b_is_tuple_of) (tsf_ret (tef_and (tef_B rl_isi (taf_cons tef_var (taf_cons (tef_con fun _ _ => .ty "tuple") taf_nil))) (tef_op r_eq (tef_B rl_lenG (taf_cons tef_var taf_nil)) tef_var))) h (fun ds μ ρ vs H Q E _ _ _ q => q)⟩
theorem sc_is_way : FnScope N_is_way ["size", "many", "thing"] (defScope s_is_way) := ⟨rfl, rfl, rfl, by decide +kernel, rfl, by decide +kernel, by decide +kernel⟩
theorem ok_is_way {f : Addr} {fd : FuncData} (F : Fun K "is_way" "is_way" s_is_way f fd) (T : Txt P K mg a) (G_is_tuple_of : DefOk P w K mg base "is_tuple_of" 1 ["many", "thing"] (spD ⟨K, w, none⟩ 2 g_is_tuple_of)) (G_is_between : DefOk P w K mg base "is_between" 2 ["low", "high", "thing"] (spD ⟨K, w, none⟩ 3 g_is_between)) : FnOk P w K mg base (L2.CX P w) 3 f fd ["size", "many", "thing"] (spD ⟨K, w, none⟩ 3 g_is_way) := by
  have S := sc_is_way
  refine F.okX S (fun vs H Q E h => spD_len h) (fun cdv A outer s H vs Q E hr h => ?_)
  exact ⟨_, (pss_cons (ps_if (pt_not (oTru (K := ⟨K, w, none⟩) rfl (pe_dX (takes_of rfl rfl rfl rfl) G_is_tuple_of hr (by rfl) (pa_cons (pv 0) (pa_cons (pv 2) pa_nil))) (by intro _; rfl))) (pss_one (ps_ret pe_bl)) pss_nil)
    (pss_cons (ps_for (passes_of rfl) rfl (oTupI (K := ⟨K, w, none⟩) rfl (pv 2)) (pg_name (i := 3) S.nd rfl (by first | exact Or.inl rfl | exact Or.inr rfl)) (pss_one (ps_if (pt_not (oTru (K := ⟨K, w, none⟩) rfl (pe_dX (takes_of rfl rfl rfl rfl) G_is_between hr (by rfl) (pa_cons pe_int (pa_cons (pe_op op_sub (pv 1) pe_int) (pa_cons (pv 3) pa_nil)))) (by intro _; rfl))) (pss_one (ps_ret pe_bl)) pss_nil)))
    (pss_one (ps_ret pe_bl)))),
    run_start (k := K) (w := w) (N := N_is_way) (s := b_is_way) (tsf_seq (tsf_if (tbf_not (tbf_tru (tef_call (taf_cons tef_var (taf_cons tef_var taf_nil))))) (tsf_ret tef_bl) tsf_next)
    (tsf_seq (tsf_for (tif_tup tef_var) tgf_name (tsf_if (tbf_not (tbf_tru (tef_call (taf_cons tef_int (taf_cons (tef_op r_sub tef_var tef_int) (taf_cons tef_var taf_nil)))))) (tsf_ret tef_bl) tsf_next))
    (tsf_ret tef_bl))) h (fun ds μ ρ vs H Q E _ _ _ q => q)⟩
theorem sc_is_question_table : FnScope N_is_question_table ["rows", "letters", "thing"] (defScope s_is_question_table) := ⟨rfl, rfl, rfl, by decide +kernel, rfl, by decide +kernel, by decide +kernel⟩
theorem ok_is_question_table {f : Addr} {fd : FuncData} (F : Fun K "is_question_table" "is_question_table" s_is_question_table f fd) (T : Txt P K mg a) (G_many_readings : DefOk P w K mg base "many_readings" 3 ["rows", "letters"] (spD ⟨K, w, none⟩ 2 (g_many_readings K a))) (G_is_table : DefOk P w K mg base "is_table" 1 ["most", "thing"] (spD ⟨K, w, none⟩ 2 g_is_table)) (G_is_tuple_of : DefOk P w K mg base "is_tuple_of" 1 ["many", "thing"] (spD ⟨K, w, none⟩ 2 g_is_tuple_of)) (G_is_way : DefOk P w K mg base "is_way" 3 ["size", "many", "thing"] (spD ⟨K, w, none⟩ 3 g_is_way)) : FnOk P w K mg base (L2.CX P w) 4 f fd ["rows", "letters", "thing"] (spD ⟨K, w, none⟩ 3 (g_is_question_table K a)) := by
  have S := sc_is_question_table
  obtain ⟨t_MOST_STANDINGS, g_MOST_STANDINGS⟩ := T.g_MOST_STANDINGS
  refine F.okX S (fun vs H Q E h => spD_len h) (fun cdv A outer s H vs Q E hr h => ?_)
  exact ⟨_, (pss_cons (ps_if (pt_not (oTru (K := ⟨K, w, none⟩) rfl (pe_dX (takes_of rfl rfl rfl rfl) G_is_table hr (by rfl) (pa_cons (pe_glob (v := .int 8) rfl g_MOST_STANDINGS ⟨_, rfl⟩) (pa_cons (pv 2) pa_nil))) (by intro _; rfl))) (pss_one (ps_ret pe_bl)) pss_nil)
    (pss_cons (ps_set (i := 3) S.nd rfl (by first | exact Or.inl rfl | exact Or.inr rfl) (pe_dX (takes_of rfl rfl rfl rfl) G_many_readings hr (by rfl) (pa_cons (pv 0) (pa_cons (pv 1) pa_nil))))
    (pss_cons (ps_for (passes_of rfl) rfl (oTupI (K := ⟨K, w, none⟩) rfl (pv 2)) (pg_name (i := 4) S.nd rfl (by first | exact Or.inl rfl | exact Or.inr rfl)) (pss_one (ps_if (PW.pt (pw_or (pt_not (oTru (K := ⟨K, w, none⟩) rfl (pe_dX (takes_of rfl rfl rfl rfl) G_is_tuple_of hr (by rfl) (pa_cons pe_int (pa_cons (pv 4) pa_nil))) (by intro _; rfl))) (pw_or (pt_not (oTru (K := ⟨K, w, none⟩) rfl (pe_callB (oIsi (K := ⟨K, w, none⟩) rfl) (by rfl) T.isinstance (by decide +kernel) (pa_cons (pe_ix (oIx (K := ⟨K, w, none⟩) rfl) (pv 4) pe_int (fun _ _ => rfl)) (pa_cons (pe_bltn (v := .ty "bool") (by rfl) T.bool (by decide +kernel) rfl) pa_nil))) (by intro _; rfl))) (pw_or1 (pt_not (oTru (K := ⟨K, w, none⟩) rfl (pe_dX (takes_of rfl rfl rfl rfl) G_is_way hr (by rfl) (pa_cons (pv 3) (pa_cons (pe_callB (oLen (K := ⟨K, w, none⟩) rfl rfl) (by rfl) T.len (by decide +kernel) (pa_cons (pv 2) pa_nil)) (pa_cons (pe_ix (oIx (K := ⟨K, w, none⟩) rfl) (pv 4) pe_int (fun _ _ => rfl)) pa_nil)))) (by intro _; rfl))))))) (pss_one (ps_ret pe_bl)) pss_nil)))
    (pss_one (ps_ret pe_bl))))),
    run_start (k := K) (w := w) (N := N_is_question_table) (s := b_is_question_table K a) (tsf_seq (tsf_if (tbf_not (tbf_tru (tef_call (taf_cons tef_int (taf_cons tef_var taf_nil))))) (tsf_ret tef_bl) tsf_next)
    (tsf_seq (tsf_asg (tef_call (taf_cons tef_var (taf_cons tef_var taf_nil))) tgf_name)
    (tsf_seq (tsf_for (tif_tup tef_var) tgf_name (tsf_if (tbf_or (tbf_not (tbf_tru (tef_call (taf_cons tef_int (taf_cons tef_var taf_nil))))) (tbf_or (tbf_not (tbf_tru (tef_B rl_isi (taf_cons (tef_op r_ix tef_var tef_int) (taf_cons (tef_con fun _ _ => .ty "bool") taf_nil))))) (tbf_not (tbf_tru (tef_call (taf_cons tef_var (taf_cons (tef_B rl_lenG (taf_cons tef_var taf_nil)) (taf_cons (tef_op r_ix tef_var tef_int) taf_nil)))))))) (tsf_ret tef_bl) tsf_next))
    (tsf_ret tef_bl)))) h (fun ds μ ρ vs H Q E _ _ _ q => q)⟩
theorem sc_Question_M___init__ : FnScope N_Question_M___init__ ["self", "rows", "letters", "table"] (defScope s_Question_M___init__) := ⟨rfl, rfl, rfl, by decide +kernel, rfl, by decide +kernel, by decide +kernel⟩
theorem ok_Question_M___init__ {f : Addr} {fd : FuncData} (F : Fun K "__init__" "Question.__init__" s_Question_M___init__ f fd) (T : Txt P K mg a) (X_BadQuestion : FexOk P w K mg base "BadQuestion" a.BadQuestion "part") (G_is_between : DefOk P w K mg base "is_between" 2 ["low", "high", "thing"] (spD ⟨K, w, none⟩ 3 g_is_between)) (G_is_question_table : DefOk P w K mg base "is_question_table" 4 ["rows", "letters", "thing"] (spD ⟨K, w, none⟩ 3 (g_is_question_table K a))) : FnOk P w K mg base (L2.CX P w) 5 f fd ["self", "rows", "letters", "table"] (spD ⟨K, w, none⟩ 4 (g_Question_M___init__ K a)) := by
  have S := sc_Question_M___init__
  obtain ⟨t_FEWEST_ROWS, g_FEWEST_ROWS⟩ := T.g_FEWEST_ROWS
  obtain ⟨t_MOST_ROWS, g_MOST_ROWS⟩ := T.g_MOST_ROWS
  obtain ⟨t_MOST_LETTERS, g_MOST_LETTERS⟩ := T.g_MOST_LETTERS
  refine F.okX S (fun vs H Q E h => spD_len h) (fun cdv A outer s H vs Q E hr h => ?_)
  exact ⟨_, (pss_cons (ps_if (pt_not (oTru (K := ⟨K, w, none⟩) rfl (pe_dX (takes_of rfl rfl rfl rfl) G_is_between hr (by rfl) (pa_cons (pe_glob (v := .int 2) rfl g_FEWEST_ROWS ⟨_, rfl⟩) (pa_cons (pe_glob (v := .int 4) rfl g_MOST_ROWS ⟨_, rfl⟩) (pa_cons (pv 1) pa_nil)))) (by intro _; rfl))) (pss_one (ps_raise rfl (takes_of rfl rfl rfl rfl) (pmk_fex X_BadQuestion.toFexTxt hr (by rfl) pe_str))) pss_nil)
    (pss_cons (ps_if (pt_not (oTru (K := ⟨K, w, none⟩) rfl (pe_dX (takes_of rfl rfl rfl rfl) G_is_between hr (by rfl) (pa_cons pe_int (pa_cons (pe_glob (v := .int 2) rfl g_MOST_LETTERS ⟨_, rfl⟩) (pa_cons (pv 2) pa_nil)))) (by intro _; rfl))) (pss_one (ps_raise rfl (takes_of rfl rfl rfl rfl) (pmk_fex X_BadQuestion.toFexTxt hr (by rfl) pe_str))) pss_nil)
    (pss_cons (ps_if (pt_not (oTru (K := ⟨K, w, none⟩) rfl (pe_dX (takes_of rfl rfl rfl rfl) G_is_question_table hr (by rfl) (pa_cons (pv 1) (pa_cons (pv 2) (pa_cons (pv 3) pa_nil)))) (by intro _; rfl))) (pss_one (ps_raise rfl (takes_of rfl rfl rfl rfl) (pmk_fex X_BadQuestion.toFexTxt hr (by rfl) pe_str))) pss_nil)
    (pss_cons (ps_fld (pv 0) (pv 1) rfl)
    (pss_cons (ps_fld (pv 0) (pv 2) rfl)
    (pss_one (ps_fld (pv 0) (pv 3) rfl))))))),
    run_start (k := K) (w := w) (N := N_Question_M___init__) (s := b_Question_M___init__ K a) (tsf_seq (tsf_if (tbf_not (tbf_tru (tef_call (taf_cons tef_int (taf_cons tef_int (taf_cons tef_var taf_nil)))))) (tsf_raise1 X_BadQuestion.ox X_BadQuestion.fld tef_str) tsf_next)
    (tsf_seq (tsf_if (tbf_not (tbf_tru (tef_call (taf_cons tef_int (taf_cons tef_int (taf_cons tef_var taf_nil)))))) (tsf_raise1 X_BadQuestion.ox X_BadQuestion.fld tef_str) tsf_next)
    (tsf_seq (tsf_if (tbf_not (tbf_tru (tef_call (taf_cons tef_var (taf_cons tef_var (taf_cons tef_var taf_nil)))))) (tsf_raise1 X_BadQuestion.ox X_BadQuestion.fld tef_str) tsf_next)
    (tsf_seq (tsf_fld T.c_Question T.n_Question_rows tef_var tef_var)
    (tsf_seq (tsf_fld T.c_Question T.n_Question_letters tef_var tef_var)
    (tsf_fld T.c_Question T.n_Question_table tef_var tef_var)))))) h (fun ds μ ρ vs H Q E _ _ _ q => q)⟩
theorem sc__law_question : FnScope N__law_question ["spec"] (defScope s__law_question) := ⟨rfl, rfl, rfl, by decide +kernel, rfl, by decide +kernel, by decide +kernel⟩
theorem ok__law_question {f : Addr} {fd : FuncData} (F : Fun K "_law_question" "_law_question" s__law_question f fd) (T : Txt P K mg a) (M_Question : MakeOk P w K mg base "Question" a.Question 5 ["self", "rows", "letters", "table"] (spD ⟨K, w, none⟩ 4 (g_Question_M___init__ K a))) : FnOk P w K mg base (L2.CX P w) 7 f fd ["spec"] (spD ⟨K, w, none⟩ 1 (g__law_question K a)) := by
  have S := sc__law_question
  refine F.okX S (fun vs H Q E h => spD_len h) (fun cdv A outer s H vs Q E hr h => ?_)
  exact ⟨_, (pss_one (ps_ret (pe_mkS (takes_of rfl rfl rfl rfl) M_Question hr (by rfl) (pa_cons (pe_ix (oIx (K := ⟨K, w, none⟩) rfl) (pv 0) pe_int (fun _ _ => rfl)) (pa_cons (pe_ix (oIx (K := ⟨K, w, none⟩) rfl) (pv 0) pe_int (fun _ _ => rfl)) (pa_cons (pe_ix (oIx (K := ⟨K, w, none⟩) rfl) (pv 0) pe_int (fun _ _ => rfl)) pa_nil)))))),
    run_start (k := K) (w := w) (N := N__law_question) (s := b__law_question K a) (tsf_ret (tef_mk (taf_cons (tef_op r_ix tef_var tef_int) (taf_cons (tef_op r_ix tef_var tef_int) (taf_cons (tef_op r_ix tef_var tef_int) taf_nil))))) h (fun ds μ ρ vs H Q E _ _ _ q => q)⟩
theorem sc_is_lettered : FnScope N_is_lettered ["letters", "thing"] (defScope s_is_lettered) := ⟨rfl, rfl, rfl, by decide +kernel, rfl, by decide +kernel, by decide +kernel⟩
theorem ok_is_lettered {f : Addr} {fd : FuncData} (F : Fun K "is_lettered" "is_lettered" s_is_lettered f fd) (T : Txt P K mg a) : FnOk P w K mg base (L2.CX P w) 1 f fd ["letters", "thing"] (spD ⟨K, w, none⟩ 2 g_is_lettered) := by
  have S := sc_is_lettered
  obtain ⟨t_LETTERS, g_LETTERS⟩ := T.g_LETTERS
  refine F.okX S (fun vs H Q E h => spD_len h) (fun cdv A outer s H vs Q E hr h => ?_)
  exact ⟨_, (pss_one (ps_ret (pe_and (pe_callB (oIsi (K := ⟨K, w, none⟩) rfl) (by rfl) T.isinstance (by decide +kernel) (pa_cons (pv 1) (pa_cons (pe_bltn (v := .ty "str") (by rfl) T.str (by decide +kernel) rfl) pa_nil))) (pe_one (pe_cmpR (oEq (K := ⟨K, w, none⟩) hr.units rfl) (oBm (K := ⟨K, w, none⟩) rfl (pe_bm PySem.F.plainAttrs_str PySem.F.slot_str_strip PySem.F.type_str_strip mt_stripChars (pv 1) (pa_cons (pe_slice (oSl (K := ⟨K, w, none⟩) rfl) (pe_glob (v := .str "abc") rfl g_LETTERS ⟨_, rfl⟩) po_none (po_some (pv 0))) pa_nil))) pe_str (nomark _)))))),
    run_start (k := K) (w := w) (N := N_is_lettered) (s := b_is_lettered) (tsf_ret (tef_and (tef_B rl_isi (taf_cons tef_var (taf_cons (tef_con fun _ _ => .ty "str") taf_nil))) (tef_op r_eq (tef_bm rm_strip tef_var (taf_cons (tef_sl rs_G tef_str tof_no (tof_at tef_var)) taf_nil)) tef_str))) h (fun ds μ ρ vs H Q E _ _ _ q => q)⟩
theorem sc_is_words : FnScope N_is_words ["letters", "rows", "thing"] (defScope s_is_words) := ⟨rfl, rfl, rfl, by decide +kernel, rfl, by decide +kernel, by decide +kernel⟩
theorem ok_is_words {f : Addr} {fd : FuncData} (F : Fun K "is_words" "is_words" s_is_words f fd) (T : Txt P K mg a) (G_is_tuple_of : DefOk P w K mg base "is_tuple_of" 1 ["many", "thing"] (spD ⟨K, w, none⟩ 2 g_is_tuple_of)) (G_is_lettered : DefOk P w K mg base "is_lettered" 1 ["letters", "thing"] (spD ⟨K, w, none⟩ 2 g_is_lettered)) : FnOk P w K mg base (L2.CX P w) 2 f fd ["letters", "rows", "thing"] (spD ⟨K, w, none⟩ 3 g_is_words) := by
  have S := sc_is_words
  refine F.okX S (fun vs H Q E h => spD_len h) (fun cdv A outer s H vs Q E hr h => ?_)
  exact ⟨_, (pss_cons (ps_if (pt_not (oTru (K := ⟨K, w, none⟩) rfl (pe_dX (takes_of rfl rfl rfl rfl) G_is_tuple_of hr (by rfl) (pa_cons (pv 1) (pa_cons (pv 2) pa_nil))) (by intro _; rfl))) (pss_one (ps_ret pe_bl)) pss_nil)
    (pss_cons (ps_for (passes_of rfl) rfl (oTupI (K := ⟨K, w, none⟩) rfl (pv 2)) (pg_name (i := 3) S.nd rfl (by first | exact Or.inl rfl | exact Or.inr rfl)) (pss_one (ps_if (pt_not (oTru (K := ⟨K, w, none⟩) rfl (pe_dX (takes_of rfl rfl rfl rfl) G_is_lettered hr (by rfl) (pa_cons (pv 0) (pa_cons (pv 3) pa_nil))) (by intro _; rfl))) (pss_one (ps_ret pe_bl)) pss_nil)))
    (pss_one (ps_ret pe_bl)))),
    run_start (k := K) (w := w) (N := N_is_words) (s := b_is_words) (tsf_seq (tsf_if (tbf_not (tbf_tru (tef_call (taf_cons tef_var (taf_cons tef_var taf_nil))))) (tsf_ret tef_bl) tsf_next)
    (tsf_seq (tsf_for (tif_tup tef_var) tgf_name (tsf_if (tbf_not (tbf_tru (tef_call (taf_cons tef_var (taf_cons tef_var taf_nil))))) (tsf_ret tef_bl) tsf_next))
    (tsf_ret tef_bl))) h (fun ds μ ρ vs H Q E _ _ _ q => q)⟩
theorem sc_need_words : FnScope N_need_words ["question", "rows", "thing"] (defScope s_need_words) := ⟨rfl, rfl, rfl, by decide +kernel, rfl, by decide +kernel, by decide +kernel⟩
theorem ok_need_words {f : Addr} {fd : FuncData} (F : Fun K "need_words" "need_words" s_need_words f fd) (T : Txt P K mg a) (G_is_words : DefOk P w K mg base "is_words" 2 ["letters", "rows", "thing"] (spD ⟨K, w, none⟩ 3 g_is_words)) : FnOk P w K mg base (L2.CX P w) 3 f fd ["question", "rows", "thing"] (spD ⟨K, w, none⟩ 3 (g_need_words K a)) := by
  have S := sc_need_words
  refine F.okX S (fun vs H Q E h => spD_len h) (fun cdv A outer s H vs Q E hr h => ?_)
  exact ⟨_, (pss_one (ps_if (pt_not (oTru (K := ⟨K, w, none⟩) rfl (pe_dX (takes_of rfl rfl rfl rfl) G_is_words hr (by rfl) (pa_cons (oFld (K := ⟨K, w, none⟩) rfl (pv 0) rfl) (pa_cons (pv 1) (pa_cons (pv 2) pa_nil)))) (by intro _; rfl))) (pss_one (ps_no rfl (takes_of rfl rfl rfl rfl) T.x_NoWords hr)) pss_nil)),
    run_start (k := K) (w := w) (N := N_need_words) (s := b_need_words K a) (tsf_if (tbf_not (tbf_tru (tef_call (taf_cons (tef_fld T.c_Question T.n_Question_letters tef_var) (taf_cons tef_var (taf_cons tef_var taf_nil)))))) tsf_raise0 tsf_next) h (fun ds μ ρ vs H Q E _ _ _ q => q)⟩
theorem sc_reading_at : FnScope N_reading_at ["letters", "words", "place"] (defScope s_reading_at) := ⟨rfl, rfl, rfl, by decide +kernel, rfl, by decide +kernel, by decide +kernel⟩
theorem ok_reading_at {f : Addr} {fd : FuncData} (F : Fun K "reading_at" "reading_at" s_reading_at f fd) (T : Txt P K mg a) : FnOk P w K mg base (L2.CX P w) 1 f fd ["letters", "words", "place"] (spD ⟨K, w, none⟩ 3 g_reading_at) := by
  have S := sc_reading_at
  obtain ⟨t_LETTERS, g_LETTERS⟩ := T.g_LETTERS
  refine F.okX S (fun vs H Q E h => spD_len h) (fun cdv A outer s H vs Q E hr h => ?_)
  exact ⟨_, (pss_cons (ps_set (i := 3) S.nd rfl (by first | exact Or.inl rfl | exact Or.inr rfl) pe_int)
    (pss_cons (ps_for (passes_of rfl) rfl (oTupI (K := ⟨K, w, none⟩) rfl (pv 1)) (pg_name (i := 4) S.nd rfl (by first | exact Or.inl rfl | exact Or.inr rfl)) (pss_cons (ps_aug (i := 3) S.nd rfl (.inl rfl) (pe_op (oAdd (K := ⟨K, w, none⟩) rfl) (pv 0) pe_int) ip_mulC)
        (pss_one (ps_if (pt_cmpR op_lt (pv 2) (pe_callB (oLen (K := ⟨K, w, none⟩) rfl rfl) (by rfl) T.len (by decide +kernel) (pa_cons (pv 4) pa_nil)) (nomark _)) (pss_one (ps_aug (i := 3) S.nd rfl (.inl rfl) (pe_op (oAdd (K := ⟨K, w, none⟩) rfl) pe_int (oBmS (K := ⟨K, w, none⟩) rfl (pe_bmS PySem.F.plainAttrs_str PySem.F.slot_str_index PySem.F.type_str_index (mt_indexX rfl (takes_of rfl rfl rfl rfl)) (pe_glob (v := .str "abc") rfl g_LETTERS ⟨_, rfl⟩) (pa_cons (pe_ix (oIx (K := ⟨K, w, none⟩) rfl) (pv 4) (pv 2) (fun _ _ => rfl)) pa_nil)))) ip_add)) pss_nil))))
    (pss_one (ps_ret (pv 3))))),
    run_start (k := K) (w := w) (N := N_reading_at) (s := b_reading_at) (tsf_seq (tsf_asg tef_int tgf_name)
    (tsf_seq (tsf_for (tif_tup tef_var) tgf_name (tsf_seq (tsf_aug r_imul (tef_op r_addG tef_var tef_int))
        (tsf_if (tbf_test (tef_op r_lt tef_var (tef_B rl_lenG (taf_cons tef_var taf_nil)))) (tsf_aug r_iadd (tef_op r_addG tef_int (tef_indexS tef_str (taf_cons (tef_op r_ix tef_var tef_var) taf_nil)))) tsf_next)))
    (tsf_ret tef_var))) h (fun ds μ ρ vs H Q E _ _ _ q => q)⟩
theorem sc_readings_of : FnScope N_readings_of ["letters", "words"] (defScope s_readings_of) := ⟨rfl, rfl, rfl, by decide +kernel, rfl, by decide +kernel, by decide +kernel⟩
theorem ok_readings_of {f : Addr} {fd : FuncData} (F : Fun K "readings_of" "readings_of" s_readings_of f fd) (T : Txt P K mg a) (G_reading_at : DefOk P w K mg base "reading_at" 1 ["letters", "words", "place"] (spD ⟨K, w, none⟩ 3 g_reading_at)) : FnOk P w K mg base (L2.CX P w) 2 f fd ["letters", "words"] (spD ⟨K, w, none⟩ 2 g_readings_of) := by
  have S := sc_readings_of
  refine F.okX S (fun vs H Q E h => spD_len h) (fun cdv A outer s H vs Q E hr h => ?_)
  exact ⟨_, (pss_one (ps_ret (pe_lc (own := [("place", 2)]) (g := gName 2) rfl S.nd (pi_range1 rfl T.range (pa_cons (pe_callB (oMax (K := ⟨K, w, none⟩) rfl hr.units rfl) (by rfl) T.max (by decide +kernel) (pa_cons (pe_lc (own := [("word", 3)]) (g := gName 3) rfl S.nd (oTupI (K := ⟨K, w, none⟩) rfl (pv 1)) (blkOk_by (own := [("word", 3)]) (N := N_readings_of) (sc := defScope s_readings_of) (by decide +kernel)) (fun _ _ _ _ _ => (pg_name (i := 3) S.nd rfl (by first | exact Or.inl rfl | exact Or.inr rfl))) (fun _ _ _ _ _ => pts_nil) (fun _ _ _ _ _ => (by exact (pe_callB (oLen (K := ⟨K, w, none⟩) rfl rfl) (by rfl) T.len (by decide +kernel) (pa_cons (pv 3) pa_nil))))) pa_nil)) pa_nil)) (blkOk_by (own := [("place", 2)]) (N := N_readings_of) (sc := defScope s_readings_of) (by decide +kernel)) (fun _ _ _ _ _ => (pg_name (i := 2) S.nd rfl (by first | exact Or.inl rfl | exact Or.inr rfl))) (fun _ _ _ _ _ => pts_nil) (fun _ _ _ _ _ => (by exact (pe_d G_reading_at hr (by rfl) (pa_cons (pv 0) (pa_cons (pv 1) (pa_cons (pv 2) pa_nil))))))))),
    run_start (k := K) (w := w) (N := N_readings_of) (s := b_readings_of) (tsf_ret (tef_lc (vs := [2]) (tif_rng1 (taf_cons (tef_B rl_maxG (taf_cons (tef_lc (vs := [3]) (tif_tup tef_var) tgf_name (own_name (by decide)) tbf_yes (tef_B rl_lenG (taf_cons tef_var taf_nil))) taf_nil)) taf_nil)) tgf_name (own_name (by decide)) tbf_yes (tef_call0 (taf_cons tef_var (taf_cons tef_var (taf_cons tef_var taf_nil)))))) h (fun ds μ ρ vs H Q E _ _ _ q => q)⟩
theorem sc_answer : FnScope N_answer ["question", "words"] (defScope s_answer) := ⟨rfl, rfl, rfl, by decide +kernel, rfl, by decide +kernel, by decide +kernel⟩
theorem ok_answer {f : Addr} {fd : FuncData} (F : Fun K "answer" "answer" s_answer f fd) (T : Txt P K mg a) (G_need_words : DefOk P w K mg base "need_words" 3 ["question", "rows", "thing"] (spD ⟨K, w, none⟩ 3 (g_need_words K a))) (G_readings_of : DefOk P w K mg base "readings_of" 2 ["letters", "words"] (spD ⟨K, w, none⟩ 2 g_readings_of)) : FnOk P w K mg base (L2.CX P w) 4 f fd ["question", "words"] (spD ⟨K, w, none⟩ 2 (g_answer K a)) := by
  have S := sc_answer
  refine F.okX S (fun vs H Q E h => spD_len h) (fun cdv A outer s H vs Q E hr h => ?_)
  exact ⟨_, (pss_cons (ps_expr (pe_dX (takes_of rfl rfl rfl rfl) G_need_words hr (by rfl) (pa_cons (pv 0) (pa_cons (oFld (K := ⟨K, w, none⟩) rfl (pv 0) rfl) (pa_cons (pv 1) pa_nil)))))
    (pss_cons (ps_set (i := 2) S.nd rfl (by first | exact Or.inl rfl | exact Or.inr rfl) pe_int)
    (pss_cons (ps_for (passes_of rfl) rfl (oLstI (K := ⟨K, w, none⟩) rfl (pe_dX (takes_of rfl rfl rfl rfl) G_readings_of hr (by rfl) (pa_cons (oFld (K := ⟨K, w, none⟩) rfl (pv 0) rfl) (pa_cons (pv 1) pa_nil)))) (pg_name (i := 3) S.nd rfl (by first | exact Or.inl rfl | exact Or.inr rfl)) (pss_one (ps_set (i := 2) S.nd rfl (by first | exact Or.inl rfl | exact Or.inr rfl) (pe_ix (oIx (K := ⟨K, w, none⟩) rfl) (pe_ix (oIx (K := ⟨K, w, none⟩) rfl) (pe_ix (oIx (K := ⟨K, w, none⟩) rfl) (oFld (K := ⟨K, w, none⟩) rfl (pv 0) rfl) (pv 2) (fun _ _ => rfl)) pe_int (fun _ _ => rfl)) (pe_op op_sub (pv 3) pe_int) (fun _ _ => rfl)))))
    (pss_one (ps_ret (pe_ix (oIx (K := ⟨K, w, none⟩) rfl) (pe_ix (oIx (K := ⟨K, w, none⟩) rfl) (oFld (K := ⟨K, w, none⟩) rfl (pv 0) rfl) (pv 2) (fun _ _ => rfl)) pe_int (fun _ _ => rfl))))))),
    run_start (k := K) (w := w) (N := N_answer) (s := b_answer K a) (tsf_seq (tsf_drop (tef_call (taf_cons tef_var (taf_cons (tef_fld T.c_Question T.n_Question_rows tef_var) (taf_cons tef_var taf_nil)))))
    (tsf_seq (tsf_asg tef_int tgf_name)
    (tsf_seq (tsf_for (tif_lst (tef_call (taf_cons (tef_fld T.c_Question T.n_Question_letters tef_var) (taf_cons tef_var taf_nil)))) tgf_name (tsf_asg (tef_op r_ix (tef_op r_ix (tef_op r_ix (tef_fld T.c_Question T.n_Question_table tef_var) tef_var) tef_int) (tef_op r_sub tef_var tef_int)) tgf_name))
    (tsf_ret (tef_op r_ix (tef_op r_ix (tef_fld T.c_Question T.n_Question_table tef_var) tef_var) tef_int))))) h (fun ds μ ρ vs H Q E _ _ _ q => q)⟩
theorem sc__law_drawn_words : FnScope N__law_drawn_words ["pool", "rows", "letters", "most"] (defScope s__law_drawn_words) := ⟨rfl, rfl, rfl, by decide +kernel, rfl, by decide +kernel, by decide +kernel⟩
theorem ok__law_drawn_words {f : Addr} {fd : FuncData} (F : Fun K "_law_drawn_words" "_law_drawn_words" s__law_drawn_words f fd) (T : Txt P K mg a) (G__law_draw : DefOk P w K mg base "_law_draw" 1 ["pool", "many"] (spD ⟨K, w, none⟩ 2 g__law_draw)) : FnOk P w K mg base (L2.CX P w) 2 f fd ["pool", "rows", "letters", "most"] (spD ⟨K, w, none⟩ 4 g__law_drawn_words) := by
  have S := sc__law_drawn_words
  refine F.okX S (fun vs H Q E h => spD_len h) (fun cdv A outer s H vs Q E hr h => ?_)
  exact ⟨_, (pss_cons (ps_set (i := 4) S.nd rfl (by first | exact Or.inl rfl | exact Or.inr rfl) (pe_lst pa_nil))
    (pss_cons (ps_for (passes_of rfl) rfl (pi_range1 rfl T.range (pa_cons (pv 1) pa_nil)) (pg_name (i := 5) S.nd rfl (by first | exact Or.inl rfl | exact Or.inr rfl)) (pss_one (ps_expr (oBm (K := ⟨K, w, none⟩) rfl (pe_bm PySem.F.plainAttrs_list PySem.F.slot_list_append PySem.F.type_list_append mt_append (pv 4) (pa_cons (oJoin (K := ⟨K, w, none⟩) rfl pe_str (pe_lc (own := [("place", 6)]) (g := gName 6) rfl S.nd (pi_range1 rfl T.range (pa_cons (pe_dX (takes_of rfl rfl rfl rfl) G__law_draw hr (by rfl) (pa_cons (pv 0) (pa_cons (pe_op (oAdd (K := ⟨K, w, none⟩) rfl) (pv 3) pe_int) pa_nil))) pa_nil)) (blkOk_by (own := [("place", 6)]) (N := N__law_drawn_words) (sc := defScope s__law_drawn_words) (by decide +kernel)) (fun _ _ _ _ _ => (pg_name (i := 6) S.nd rfl (by first | exact Or.inl rfl | exact Or.inr rfl))) (fun _ _ _ _ _ => pts_nil) (fun _ _ _ _ _ => (by exact (pe_ix (oIx (K := ⟨K, w, none⟩) rfl) pe_str (pe_d G__law_draw hr (by rfl) (pa_cons (pv 0) (pa_cons (pv 2) pa_nil))) (fun _ _ => rfl)))))) pa_nil))))))
    (pss_one (ps_ret (pe_callTy (oTuple (K := ⟨K, w, none⟩) rfl) (by rfl) T.tuple (by decide +kernel) (pa_cons (pv 4) pa_nil)))))),
    run_start (k := K) (w := w) (N := N__law_drawn_words) (s := b__law_drawn_words) (tsf_seq (tsf_asg (tef_lst taf_nil) tgf_name)
    (tsf_seq (tsf_for (tif_rng1 (taf_cons tef_var taf_nil)) tgf_name (tsf_drop (tef_bm rm_append tef_var (taf_cons (tef_join tef_str (tef_lc (vs := [6]) (tif_rng1 (taf_cons (tef_call (taf_cons tef_var (taf_cons (tef_op r_addG tef_var tef_int) taf_nil))) taf_nil)) tgf_name (own_name (by decide)) tbf_yes (tef_op r_ix tef_str (tef_call0 (taf_cons tef_var (taf_cons tef_var taf_nil)))))) taf_nil))))
    (tsf_ret (tef_B rl_tupOf (taf_cons tef_var taf_nil))))) h (fun ds μ ρ vs H Q E _ _ _ q => q)⟩
theorem sc__law_lead : FnScope N__law_lead ["spec", "standing", "column"] (defScope s__law_lead) := ⟨rfl, rfl, rfl, by decide +kernel, rfl, by decide +kernel, by decide +kernel⟩
theorem ok__law_lead {f : Addr} {fd : FuncData} (F : Fun K "_law_lead" "_law_lead" s__law_lead f fd) (T : Txt P K mg a) : FnOk P w K mg base (L2.CX P w) 1 f fd ["spec", "standing", "column"] (spD ⟨K, w, none⟩ 3 g__law_lead) := by
  have S := sc__law_lead
  refine F.okX S (fun vs H Q E h => spD_len h) (fun cdv A outer s H vs Q E hr h => ?_)
  exact ⟨_, (pss_cons (ps_set (i := 3) S.nd rfl (by first | exact Or.inl rfl | exact Or.inr rfl) pe_int)
    (pss_cons (ps_for (passes_of rfl) rfl (oTupI (K := ⟨K, w, none⟩) rfl (pv 2)) (pg_name (i := 4) S.nd rfl (by first | exact Or.inl rfl | exact Or.inr rfl)) (pss_one (ps_set (i := 3) S.nd rfl (by first | exact Or.inl rfl | exact Or.inr rfl) (pe_op (oAdd (K := ⟨K, w, none⟩) rfl) (pe_op oMul (pv 3) (pe_op (oAdd (K := ⟨K, w, none⟩) rfl) (pe_ix (oIx (K := ⟨K, w, none⟩) rfl) (pv 0) pe_int (fun _ _ => rfl)) pe_int)) (oBm (K := ⟨K, w, none⟩) rfl (pe_bm PySem.F.plainAttrs_str PySem.F.slot_str_find PySem.F.type_str_find mt_find pe_str (pa_cons (pv 4) pa_nil)))))))
    (pss_one (ps_ret (pe_ifExp (pt_cmpR (oEq (K := ⟨K, w, none⟩) hr.units rfl) (pv 3) pe_int (nomark _)) (pv 1) (pe_ix (oIx (K := ⟨K, w, none⟩) rfl) (pe_ix (oIx (K := ⟨K, w, none⟩) rfl) (pe_ix (oIx (K := ⟨K, w, none⟩) rfl) (pe_ix (oIx (K := ⟨K, w, none⟩) rfl) (pv 0) pe_int (fun _ _ => rfl)) (pv 1) (fun _ _ => rfl)) pe_int (fun _ _ => rfl)) (pe_op op_sub (pv 3) pe_int) (fun _ _ => rfl))))))),
    run_start (k := K) (w := w) (N := N__law_lead) (s := b__law_lead) (tsf_seq (tsf_asg tef_int tgf_name)
    (tsf_seq (tsf_for (tif_tup tef_var) tgf_name (tsf_asg (tef_op r_addG (tef_op r_mulG tef_var (tef_op r_addG (tef_op r_ix tef_var tef_int) tef_int)) (tef_bm rm_find tef_str (taf_cons tef_var taf_nil))) tgf_name))
    (tsf_ret (tef_if (tbf_test (tef_op r_eq tef_var tef_int)) tef_var (tef_op r_ix (tef_op r_ix (tef_op r_ix (tef_op r_ix tef_var tef_int) tef_var) tef_int) (tef_op r_sub tef_var tef_int)))))) h (fun ds μ ρ vs H Q E _ _ _ q => q)⟩
theorem sc__law_column_at : FnScope N__law_column_at ["words", "place"] (defScope s__law_column_at) := ⟨rfl, rfl, rfl, by decide +kernel, rfl, by decide +kernel, by decide +kernel⟩
theorem ok__law_column_at {f : Addr} {fd : FuncData} (F : Fun K "_law_column_at" "_law_column_at" s__law_column_at f fd) (T : Txt P K mg a) : FnOk P w K mg base (L2.CX P w) 1 f fd ["words", "place"] (spD ⟨K, w, none⟩ 2 g__law_column_at) := by
  have S := sc__law_column_at
  refine F.okX S (fun vs H Q E h => spD_len h) (fun cdv A outer s H vs Q E hr h => ?_)
  exact ⟨_, (pss_one (ps_ret (pe_callTy (oTuple (K := ⟨K, w, none⟩) rfl) (by rfl) T.tuple (by decide +kernel) (pa_cons (pe_lc (own := [("word", 2)]) (g := gName 2) rfl S.nd (oTupI (K := ⟨K, w, none⟩) rfl (pv 0)) (blkOk_by (own := [("word", 2)]) (N := N__law_column_at) (sc := defScope s__law_column_at) (by decide +kernel)) (fun _ _ _ _ _ => (pg_name (i := 2) S.nd rfl (by first | exact Or.inl rfl | exact Or.inr rfl))) (fun _ _ _ _ _ => pts_nil) (fun _ _ _ _ _ => (by exact (pe_ifExp (pt_cmpR op_lt (pv 1) (pe_callB (oLen (K := ⟨K, w, none⟩) rfl rfl) (by rfl) T.len (by decide +kernel) (pa_cons (pv 2) pa_nil)) (nomark _)) (pe_ix (oIx (K := ⟨K, w, none⟩) rfl) (pv 2) (pv 1) (fun _ _ => rfl)) pe_str)))) pa_nil)))),
    run_start (k := K) (w := w) (N := N__law_column_at) (s := b__law_column_at) (tsf_ret (tef_B rl_tupOf (taf_cons (tef_lc (vs := [2]) (tif_tup tef_var) tgf_name (own_name (by decide)) tbf_yes (tef_if (tbf_test (tef_op r_lt tef_var (tef_B rl_lenG (taf_cons tef_var taf_nil)))) (tef_op r_ix tef_var tef_var) tef_str)) taf_nil))) h (fun ds μ ρ vs H Q E _ _ _ q => q)⟩
theorem sc__law_answer : FnScope N__law_answer ["spec", "words"] (defScope s__law_answer) := ⟨rfl, rfl, rfl, by decide +kernel, rfl, by decide +kernel, by decide +kernel⟩
theorem ok__law_answer {f : Addr} {fd : FuncData} (F : Fun K "_law_answer" "_law_answer" s__law_answer f fd) (T : Txt P K mg a) (G__law_lead : DefOk P w K mg base "_law_lead" 1 ["spec", "standing", "column"] (spD ⟨K, w, none⟩ 3 g__law_lead)) (G__law_column_at : DefOk P w K mg base "_law_column_at" 1 ["words", "place"] (spD ⟨K, w, none⟩ 2 g__law_column_at)) : FnOk P w K mg base (L2.CX P w) 2 f fd ["spec", "words"] (spD ⟨K, w, none⟩ 2 g__law_answer) := by
  have S := sc__law_answer
  refine F.okX S (fun vs H Q E h => spD_len h) (fun cdv A outer s H vs Q E hr h => ?_)
  exact ⟨_, (pss_cons (ps_set (i := 2) S.nd rfl (by first | exact Or.inl rfl | exact Or.inr rfl) pe_int)
    (pss_cons (ps_for (passes_of rfl) rfl (pi_range1 rfl T.range (pa_cons (pe_callB (oMax (K := ⟨K, w, none⟩) rfl hr.units rfl) (by rfl) T.max (by decide +kernel) (pa_cons (pe_lc (own := [("word", 4)]) (g := gName 4) rfl S.nd (oTupI (K := ⟨K, w, none⟩) rfl (pv 1)) (blkOk_by (own := [("word", 4)]) (N := N__law_answer) (sc := defScope s__law_answer) (by decide +kernel)) (fun _ _ _ _ _ => (pg_name (i := 4) S.nd rfl (by first | exact Or.inl rfl | exact Or.inr rfl))) (fun _ _ _ _ _ => pts_nil) (fun _ _ _ _ _ => (by exact (pe_callB (oLen (K := ⟨K, w, none⟩) rfl rfl) (by rfl) T.len (by decide +kernel) (pa_cons (pv 4) pa_nil))))) pa_nil)) pa_nil)) (pg_name (i := 3) S.nd rfl (by first | exact Or.inl rfl | exact Or.inr rfl)) (pss_one (ps_set (i := 2) S.nd rfl (by first | exact Or.inl rfl | exact Or.inr rfl) (pe_dX (takes_of rfl rfl rfl rfl) G__law_lead hr (by rfl) (pa_cons (pv 0) (pa_cons (pv 2) (pa_cons (pe_dX (takes_of rfl rfl rfl rfl) G__law_column_at hr (by rfl) (pa_cons (pv 1) (pa_cons (pv 3) pa_nil))) pa_nil)))))))
    (pss_one (ps_ret (pe_ix (oIx (K := ⟨K, w, none⟩) rfl) (pe_ix (oIx (K := ⟨K, w, none⟩) rfl) (pe_ix (oIx (K := ⟨K, w, none⟩) rfl) (pv 0) pe_int (fun _ _ => rfl)) (pv 2) (fun _ _ => rfl)) pe_int (fun _ _ => rfl)))))),
    run_start (k := K) (w := w) (N := N__law_answer) (s := b__law_answer) (tsf_seq (tsf_asg tef_int tgf_name)
    (tsf_seq (tsf_for (tif_rng1 (taf_cons (tef_B rl_maxG (taf_cons (tef_lc (vs := [4]) (tif_tup tef_var) tgf_name (own_name (by decide)) tbf_yes (tef_B rl_lenG (taf_cons tef_var taf_nil))) taf_nil)) taf_nil)) tgf_name (tsf_asg (tef_call (taf_cons tef_var (taf_cons tef_var (taf_cons (tef_call (taf_cons tef_var (taf_cons tef_var taf_nil))) taf_nil)))) tgf_name))
    (tsf_ret (tef_op r_ix (tef_op r_ix (tef_op r_ix tef_var tef_int) tef_var) tef_int)))) h (fun ds μ ρ vs H Q E _ _ _ q => q)⟩
theorem sc_law : FnScope N_law ["script"] (defScope s_law) := ⟨rfl, rfl, rfl, by decide +kernel, rfl, by decide +kernel, by decide +kernel⟩
theorem ok_law {f : Addr} {fd : FuncData} (F : Fun K "law" "law" s_law f fd) (T : Txt P K mg a) (G__law_pool : DefOk P w K mg base "_law_pool" 1 ["script"] (spD ⟨K, w, none⟩ 1 g__law_pool)) (G__law_spec : DefOk P w K mg base "_law_spec" 4 ["pool", "most_rows"] (spD ⟨K, w, none⟩ 2 g__law_spec)) (G__law_question : DefOk P w K mg base "_law_question" 7 ["spec"] (spD ⟨K, w, none⟩ 1 (g__law_question K a))) (G_answer : DefOk P w K mg base "answer" 4 ["question", "words"] (spD ⟨K, w, none⟩ 2 (g_answer K a))) (G__law_drawn_words : DefOk P w K mg base "_law_drawn_words" 2 ["pool", "rows", "letters", "most"] (spD ⟨K, w, none⟩ 4 g__law_drawn_words)) (G__law_pick : DefOk P w K mg base "_law_pick" 2 ["pool", "things"] (spD ⟨K, w, none⟩ 2 g__law_pick)) (G__law_draw : DefOk P w K mg base "_law_draw" 1 ["pool", "many"] (spD ⟨K, w, none⟩ 2 g__law_draw)) (G__law_answer : DefOk P w K mg base "_law_answer" 2 ["spec", "words"] (spD ⟨K, w, none⟩ 2 g__law_answer)) : FnOk P w K mg base (L2.CX P w) 8 f fd ["script"] (spD ⟨K, w, none⟩ 1 (g_law K a)) := by
  have S := sc_law
  refine F.okX S (fun vs H Q E h => spD_len h) (fun cdv A outer s H vs Q E hr h => ?_)
  exact ⟨_, (pss_cons (ps_set (i := 1) S.nd rfl (by first | exact Or.inl rfl | exact Or.inr rfl) (pe_dX (takes_of rfl rfl rfl rfl) G__law_pool hr (by rfl) (pa_cons (pv 0) pa_nil)))
    (pss_cons (ps_for (passes_of rfl) rfl (pi_range1 rfl T.range (pa_cons pe_int pa_nil)) (pg_name (i := 2) S.nd rfl (by first | exact Or.inl rfl | exact Or.inr rfl)) (pss_cons (ps_set (i := 3) S.nd rfl (by first | exact Or.inl rfl | exact Or.inr rfl) (pe_dX (takes_of rfl rfl rfl rfl) G__law_spec hr (by rfl) (pa_cons (pv 1) (pa_cons pe_int pa_nil))))
        (pss_cons (ps_set (i := 4) S.nd rfl (by first | exact Or.inl rfl | exact Or.inr rfl) (pe_dX (takes_of rfl rfl rfl rfl) G__law_question hr (by rfl) (pa_cons (pv 3) pa_nil)))
        (pss_cons (ps_if (pt_cmpR (oNe (K := ⟨K, w, none⟩) hr.units rfl) (pe_dX (takes_of rfl rfl rfl rfl) G_answer hr (by rfl) (pa_cons (pv 4) (pa_cons (pe_op (oRepW (K := ⟨K, w, none⟩) rfl) (pe_tup (pa_cons pe_str pa_nil)) (pe_ix (oIx (K := ⟨K, w, none⟩) rfl) (pv 3) pe_int (fun _ _ => rfl))) pa_nil))) (pe_ix (oIx (K := ⟨K, w, none⟩) rfl) (pe_ix (oIx (K := ⟨K, w, none⟩) rfl) (pe_ix (oIx (K := ⟨K, w, none⟩) rfl) (pv 3) pe_int (fun _ _ => rfl)) pe_int (fun _ _ => rfl)) pe_int (fun _ _ => rfl)) (nomark _)) (pss_one (ps_ret pe_bl)) pss_nil)
        (pss_one (ps_for (passes_of rfl) rfl (pi_range1 rfl T.range (pa_cons pe_int pa_nil)) (pg_name (i := 5) S.nd rfl (by first | exact Or.inl rfl | exact Or.inr rfl)) (pss_cons (ps_set (i := 6) S.nd rfl (by first | exact Or.inl rfl | exact Or.inr rfl) (pe_dX (takes_of rfl rfl rfl rfl) G__law_drawn_words hr (by rfl) (pa_cons (pv 1) (pa_cons (pe_ix (oIx (K := ⟨K, w, none⟩) rfl) (pv 3) pe_int (fun _ _ => rfl)) (pa_cons (pe_ix (oIx (K := ⟨K, w, none⟩) rfl) (pv 3) pe_int (fun _ _ => rfl)) (pa_cons (pe_dX (takes_of rfl rfl rfl rfl) G__law_pick hr (by rfl) (pa_cons (pv 1) (pa_cons (pe_lst (pa_cons pe_int (pa_cons pe_int (pa_cons pe_int (pa_cons pe_int (pa_cons pe_int pa_nil)))))) pa_nil))) pa_nil))))))
            (pss_cons (ps_if (pt_cmpR (oEq (K := ⟨K, w, none⟩) hr.units rfl) (pe_dX (takes_of rfl rfl rfl rfl) G__law_draw hr (by rfl) (pa_cons (pv 1) (pa_cons pe_int pa_nil))) pe_int (nomark _)) (pss_one (ps_set (i := 6) S.nd rfl (by first | exact Or.inl rfl | exact Or.inr rfl) (pe_dX (takes_of rfl rfl rfl rfl) G__law_drawn_words hr (by rfl) (pa_cons (pv 1) (pa_cons (pe_ix (oIx (K := ⟨K, w, none⟩) rfl) (pv 3) pe_int (fun _ _ => rfl)) (pa_cons (pe_ix (oIx (K := ⟨K, w, none⟩) rfl) (pv 3) pe_int (fun _ _ => rfl)) (pa_cons pe_int pa_nil))))))) pss_nil)
            (pss_cons (ps_if (pt_cmpR (oEq (K := ⟨K, w, none⟩) hr.units rfl) (pe_dX (takes_of rfl rfl rfl rfl) G__law_draw hr (by rfl) (pa_cons (pv 1) (pa_cons pe_int pa_nil))) pe_int (nomark _)) (pss_one (ps_set (i := 6) S.nd rfl (by first | exact Or.inl rfl | exact Or.inr rfl) (pe_callTy (oTuple (K := ⟨K, w, none⟩) rfl) (by rfl) T.tuple (by decide +kernel) (pa_cons (pe_lc (own := [("row", 8)]) (g := gName 8) rfl S.nd (pi_range1 rfl T.range (pa_cons (pe_ix (oIx (K := ⟨K, w, none⟩) rfl) (pv 3) pe_int (fun _ _ => rfl)) pa_nil)) (blkOk_by (own := [("row", 8)]) (N := N_law) (sc := defScope s_law) (by decide +kernel)) (fun _ _ _ _ _ => (pg_name (i := 8) S.nd rfl (by first | exact Or.inl rfl | exact Or.inr rfl))) (fun _ _ _ _ _ => pts_nil) (fun _ _ _ _ _ => (by exact (pe_ix (oIx (K := ⟨K, w, none⟩) rfl) (pv 6) pe_int (fun _ _ => rfl))))) pa_nil)))) pss_nil)
            (pss_cons (ps_set (i := 7) S.nd rfl (by first | exact Or.inl rfl | exact Or.inr rfl) (pe_dX (takes_of rfl rfl rfl rfl) G_answer hr (by rfl) (pa_cons (pv 4) (pa_cons (pv 6) pa_nil))))
            (pss_one (ps_if (PW.pt (pw_or (pt_not (oTru (K := ⟨K, w, none⟩) rfl (pe_callB (oIsi (K := ⟨K, w, none⟩) rfl) (by rfl) T.isinstance (by decide +kernel) (pa_cons (pv 7) (pa_cons (pe_bltn (v := .ty "bool") (by rfl) T.bool (by decide +kernel) rfl) pa_nil))) (by intro _; rfl))) (pw_or (pt_cmpR (oNe (K := ⟨K, w, none⟩) hr.units rfl) (pv 7) (pe_dX (takes_of rfl rfl rfl rfl) G__law_answer hr (by rfl) (pa_cons (pv 3) (pa_cons (pv 6) pa_nil))) (nomark _)) (pw_or1 (pt_cmpR (oNe (K := ⟨K, w, none⟩) hr.units rfl) (pe_dX (takes_of rfl rfl rfl rfl) G_answer hr (by rfl) (pa_cons (pv 4) (pa_cons (pv 6) pa_nil))) (pv 7) (nomark _)))))) (pss_one (ps_ret pe_bl)) pss_nil))))))))))))
    (pss_one (ps_ret pe_bl)))),
    run_start (k := K) (w := w) (N := N_law) (s := b_law K a) (tsf_seq (tsf_asg (tef_call (taf_cons tef_var taf_nil)) tgf_name)
    (tsf_seq (tsf_for (tif_rng1 (taf_cons tef_int taf_nil)) tgf_name (tsf_seq (tsf_asg (tef_call (taf_cons tef_var (taf_cons tef_int taf_nil))) tgf_name)
        (tsf_seq (tsf_asg (tef_call (taf_cons tef_var taf_nil)) tgf_name)
        (tsf_seq (tsf_if (tbf_test (tef_op r_ne (tef_call (taf_cons tef_var (taf_cons (tef_op r_repW (tef_tup (taf_cons tef_str taf_nil)) (tef_op r_ix tef_var tef_int)) taf_nil))) (tef_op r_ix (tef_op r_ix (tef_op r_ix tef_var tef_int) tef_int) tef_int))) (tsf_ret tef_bl) tsf_next)
        (tsf_for (tif_rng1 (taf_cons tef_int taf_nil)) tgf_name (tsf_seq (tsf_asg (tef_call (taf_cons tef_var (taf_cons (tef_op r_ix tef_var tef_int) (taf_cons (tef_op r_ix tef_var tef_int) (taf_cons (tef_call (taf_cons tef_var (taf_cons (tef_lst (taf_cons tef_int (taf_cons tef_int (taf_cons tef_int (taf_cons tef_int (taf_cons tef_int taf_nil)))))) taf_nil))) taf_nil))))) tgf_name)
            (tsf_seq (tsf_if (tbf_test (tef_op r_eq (tef_call (taf_cons tef_var (taf_cons tef_int taf_nil))) tef_int)) (tsf_asg (tef_call (taf_cons tef_var (taf_cons (tef_op r_ix tef_var tef_int) (taf_cons (tef_op r_ix tef_var tef_int) (taf_cons tef_int taf_nil))))) tgf_name) tsf_next)
            (tsf_seq (tsf_if (tbf_test (tef_op r_eq (tef_call (taf_cons tef_var (taf_cons tef_int taf_nil))) tef_int)) (tsf_asg (tef_B rl_tupOf (taf_cons (tef_lc (vs := [8]) (tif_rng1 (taf_cons (tef_op r_ix tef_var tef_int) taf_nil)) tgf_name (own_name (by decide)) tbf_yes (tef_op r_ix tef_var tef_int)) taf_nil)) tgf_name) tsf_next)
            (tsf_seq (tsf_asg (tef_call (taf_cons tef_var (taf_cons tef_var taf_nil))) tgf_name)
            (tsf_if (tbf_or (tbf_not (tbf_tru (tef_B rl_isi (taf_cons tef_var (taf_cons (tef_con fun _ _ => .ty "bool") taf_nil))))) (tbf_or (tbf_test (tef_op r_ne tef_var (tef_call (taf_cons tef_var (taf_cons tef_var taf_nil))))) (tbf_test (tef_op r_ne (tef_call (taf_cons tef_var (taf_cons tef_var taf_nil))) tef_var)))) (tsf_ret tef_bl) tsf_next))))))))))
    (tsf_ret tef_bl))) h (fun ds μ ρ vs H Q E _ _ _ q => q)⟩
end
end Law

set_option maxRecDepth 100000
set_option maxHeartbeats 4000000
namespace Law
open PySem PySem.Spec PyProof.Rows L2 Dv
theorem all_mk {l : PySem.W.OpenLaw} (hP : l.prog = PySem.Challenge.pw_wholewalks_k75_whole_answers) {w : World} {K : PySem.W.Frag} {h : Heap} {mg : Str → Option Value} {fa : Addr} {f__law_pool f__law_draw f__law_pick f__law_columns f__law_drawn_table f__law_by_rows f__law_first_signs f__law_compared f__law_spec f_is_integer f_is_between f_Readings_M___init__ f_many_readings f_is_table f_is_tuple_of f_is_way f_is_question_table f_Question_M___init__ f__law_question f_is_lettered f_is_words f_need_words f_reading_at f_readings_of f_answer f__law_drawn_words f__law_lead f__law_column_at f__law_answer f_law A_WalkError A_NoWords A_BadQuestion A_Readings A_Question : Addr} (X : K.In h) (G : h.Ns mainGlobals mg) (hfa : mg "law" = some (.ref fa))
    {od__law_pool an__law_pool od__law_draw an__law_draw od__law_pick an__law_pick od__law_columns an__law_columns od__law_drawn_table an__law_drawn_table od__law_by_rows an__law_by_rows od__law_first_signs an__law_first_signs od__law_compared an__law_compared od__law_spec an__law_spec od_is_integer an_is_integer od_is_between an_is_between od_Readings_M___init__ an_Readings_M___init__ od_many_readings an_many_readings od_is_table an_is_table od_is_tuple_of an_is_tuple_of od_is_way an_is_way od_is_question_table an_is_question_table od_Question_M___init__ an_Question_M___init__ od__law_question an__law_question od_is_lettered an_is_lettered od_is_words an_is_words od_need_words an_need_words od_reading_at an_reading_at od_readings_of an_readings_of od_answer an_answer od__law_drawn_words an__law_drawn_words od__law_lead an__law_lead od__law_column_at an__law_column_at od__law_answer an__law_answer od_law an_law : Option Addr} {sl__law_pool sl__law_draw sl__law_pick sl__law_columns sl__law_drawn_table sl__law_by_rows sl__law_first_signs sl__law_compared sl__law_spec sl_is_integer sl_is_between sl_Readings_M___init__ sl_many_readings sl_is_table sl_is_tuple_of sl_is_way sl_is_question_table sl_Question_M___init__ sl__law_question sl_is_lettered sl_is_words sl_need_words sl_reading_at sl_readings_of sl_answer sl__law_drawn_words sl__law_lead sl__law_column_at sl__law_answer sl_law : Array (Option Value)}
    {oc__law_pool kV__law_pool dc__law_pool pm__law_pool cd__law_pool ct__law_pool oc__law_draw kV__law_draw dc__law_draw pm__law_draw cd__law_draw ct__law_draw oc__law_pick kV__law_pick dc__law_pick pm__law_pick cd__law_pick ct__law_pick oc__law_columns kV__law_columns dc__law_columns pm__law_columns cd__law_columns ct__law_columns oc__law_drawn_table kV__law_drawn_table dc__law_drawn_table pm__law_drawn_table cd__law_drawn_table ct__law_drawn_table oc__law_by_rows kV__law_by_rows dc__law_by_rows pm__law_by_rows cd__law_by_rows ct__law_by_rows oc__law_first_signs kV__law_first_signs dc__law_first_signs pm__law_first_signs cd__law_first_signs ct__law_first_signs oc__law_compared kV__law_compared dc__law_compared pm__law_compared cd__law_compared ct__law_compared oc__law_spec kV__law_spec dc__law_spec pm__law_spec cd__law_spec ct__law_spec oc_is_integer kV_is_integer dc_is_integer pm_is_integer cd_is_integer ct_is_integer oc_is_between kV_is_between dc_is_between pm_is_between cd_is_between ct_is_between oc_Readings_M___init__ kV_Readings_M___init__ dc_Readings_M___init__ pm_Readings_M___init__ cd_Readings_M___init__ ct_Readings_M___init__ oc_many_readings kV_many_readings dc_many_readings pm_many_readings cd_many_readings ct_many_readings oc_is_table kV_is_table dc_is_table pm_is_table cd_is_table ct_is_table oc_is_tuple_of kV_is_tuple_of dc_is_tuple_of pm_is_tuple_of cd_is_tuple_of ct_is_tuple_of oc_is_way kV_is_way dc_is_way pm_is_way cd_is_way ct_is_way oc_is_question_table kV_is_question_table dc_is_question_table pm_is_question_table cd_is_question_table ct_is_question_table oc_Question_M___init__ kV_Question_M___init__ dc_Question_M___init__ pm_Question_M___init__ cd_Question_M___init__ ct_Question_M___init__ oc__law_question kV__law_question dc__law_question pm__law_question cd__law_question ct__law_question oc_is_lettered kV_is_lettered dc_is_lettered pm_is_lettered cd_is_lettered ct_is_lettered oc_is_words kV_is_words dc_is_words pm_is_words cd_is_words ct_is_words oc_need_words kV_need_words dc_need_words pm_need_words cd_need_words ct_need_words oc_reading_at kV_reading_at dc_reading_at pm_reading_at cd_reading_at ct_reading_at oc_readings_of kV_readings_of dc_readings_of pm_readings_of cd_readings_of ct_readings_of oc_answer kV_answer dc_answer pm_answer cd_answer ct_answer oc__law_drawn_words kV__law_drawn_words dc__law_drawn_words pm__law_drawn_words cd__law_drawn_words ct__law_drawn_words oc__law_lead kV__law_lead dc__law_lead pm__law_lead cd__law_lead ct__law_lead oc__law_column_at kV__law_column_at dc__law_column_at pm__law_column_at cd__law_column_at ct__law_column_at oc__law_answer kV__law_answer dc__law_answer pm__law_answer cd__law_answer ct__law_answer oc_law kV_law dc_law pm_law cd_law ct_law : Value}
    (z_abs : PySem.W.nsIn K mainGlobals "abs" = some none)
    (z_bool : PySem.W.nsIn K mainGlobals "bool" = some none)
    (z_enumerate : PySem.W.nsIn K mainGlobals "enumerate" = some none)
    (z_int : PySem.W.nsIn K mainGlobals "int" = some none)
    (z_isinstance : PySem.W.nsIn K mainGlobals "isinstance" = some none)
    (z_len : PySem.W.nsIn K mainGlobals "len" = some none)
    (z_max : PySem.W.nsIn K mainGlobals "max" = some none)
    (z_range : PySem.W.nsIn K mainGlobals "range" = some none)
    (z_str : PySem.W.nsIn K mainGlobals "str" = some none)
    (z_sum : PySem.W.nsIn K mainGlobals "sum" = some none)
    (z_tuple : PySem.W.nsIn K mainGlobals "tuple" = some none)
    (z_super : PySem.W.nsIn K mainGlobals "super" = some none)
    {t_LETTERS : Tok}
    (g_LETTERS : PySem.W.nsIn K mainGlobals "LETTERS" = some (some (.str "abc" t_LETTERS)))
    {t_FEWEST_ROWS : Tok}
    (g_FEWEST_ROWS : PySem.W.nsIn K mainGlobals "FEWEST_ROWS" = some (some (.int 2 t_FEWEST_ROWS)))
    {t_MOST_ROWS : Tok}
    (g_MOST_ROWS : PySem.W.nsIn K mainGlobals "MOST_ROWS" = some (some (.int 4 t_MOST_ROWS)))
    {t_MOST_LETTERS : Tok}
    (g_MOST_LETTERS : PySem.W.nsIn K mainGlobals "MOST_LETTERS" = some (some (.int 2 t_MOST_LETTERS)))
    {t_MOST_STANDINGS : Tok}
    (g_MOST_STANDINGS : PySem.W.nsIn K mainGlobals "MOST_STANDINGS" = some (some (.int 8 t_MOST_STANDINGS)))
    (stat : PySem.W.nsIn K PySem.cStatics "thirdparty.any" = some none)
    (n_WalkError : PySem.W.nsIn K mainGlobals "WalkError" = some (some (.ref A_WalkError)))
    (ex_WalkError : PySem.W.subIn K (.ref A_WalkError) (.type "BaseException") = some true)
    (ty_WalkError : PySem.W.typeIn K (.ref A_WalkError) = some (.type "type"))
    (ic_WalkError : PySem.W.isClsIn K A_WalkError = true)
    {nm_NoWords qn_NoWords : Str} {Nn_NoWords : Addr} {bs_NoWords bm_NoWords : List Value} {sn_NoWords : List Str} {sub_NoWords : List Value} {ab_NoWords : Bool} {col_NoWords : Option Bool} {dd_NoWords : Option Addr} {k0_NoWords k1_NoWords k2_NoWords k3_NoWords k5_NoWords : Option Value}
    (n_NoWords : PySem.W.nsIn K mainGlobals "NoWords" = some (some (.ref A_NoWords)))
    (x_NoWords : K.lookup A_NoWords = some (excClassObj nm_NoWords qn_NoWords A_NoWords Nn_NoWords bs_NoWords bm_NoWords true sn_NoWords sub_NoWords ab_NoWords col_NoWords dd_NoWords k0_NoWords k1_NoWords k2_NoWords k3_NoWords k5_NoWords "ValueError.__new__"))
    (r_NoWords : PySem.HandSPX.refsVE bm_NoWords = true)
    (kp_NoWords : PySem.W.keepIn K (.ref A_NoWords) = true)
    (ex_NoWords : PySem.W.subIn K (.ref A_NoWords) (.type "BaseException") = some true)
    (ty_NoWords : PySem.W.typeIn K (.ref A_NoWords) = some (.type "type"))
    (ve_NoWords : PySem.W.subIn K (.ref A_NoWords) (.type "ValueError") = some true)
    (ic_NoWords : PySem.W.isClsIn K A_NoWords = true)
    {nm_BadQuestion qn_BadQuestion : Str} {Nn_BadQuestion : Addr} {bs_BadQuestion bm_BadQuestion : List Value} {sn_BadQuestion : List Str} {sub_BadQuestion : List Value} {ab_BadQuestion : Bool} {col_BadQuestion : Option Bool} {dd_BadQuestion : Option Addr} {k0_BadQuestion k1_BadQuestion k2_BadQuestion k3_BadQuestion k5_BadQuestion : Option Value}
    (n_BadQuestion : PySem.W.nsIn K mainGlobals "BadQuestion" = some (some (.ref A_BadQuestion)))
    (x_BadQuestion : K.lookup A_BadQuestion = some (excClassObj nm_BadQuestion qn_BadQuestion A_BadQuestion Nn_BadQuestion bs_BadQuestion bm_BadQuestion true sn_BadQuestion sub_BadQuestion ab_BadQuestion col_BadQuestion dd_BadQuestion k0_BadQuestion k1_BadQuestion k2_BadQuestion k3_BadQuestion k5_BadQuestion "ValueError.__new__"))
    (r_BadQuestion : PySem.HandSPX.refsVE bm_BadQuestion = true)
    (kp_BadQuestion : PySem.W.keepIn K (.ref A_BadQuestion) = true)
    (ex_BadQuestion : PySem.W.subIn K (.ref A_BadQuestion) (.type "BaseException") = some true)
    (ty_BadQuestion : PySem.W.typeIn K (.ref A_BadQuestion) = some (.type "type"))
    (ve_BadQuestion : PySem.W.subIn K (.ref A_BadQuestion) (.type "ValueError") = some true)
    (ic_BadQuestion : PySem.W.isClsIn K A_BadQuestion = true)
    (ga_BadQuestion : PySem.W.findIn K (.ref A_BadQuestion) "__getattribute__" = some (some (.builtin "BaseException.__getattribute__")))
    (gg_BadQuestion : PySem.W.findIn K (.ref A_BadQuestion) "__getattr__" = some none)
    (hd_BadQuestion : PySem.W.hasDictIn K A_BadQuestion = true)
    (su_NoWords : PySem.W.ks_superIn K A_NoWords A_NoWords "__init__" = some (some (.builtin "ValueError.__init__")))
    (mr_NoWords : PySem.W.mroIn K A_NoWords (.ref A_NoWords) = some true)
    {fI_NoWords cda_NoWords cc_NoWords : Addr} {ioc_NoWords : Value} {iod_NoWords : Option Addr} {iqn_NoWords : Str} {ikV_NoWords idc_NoWords ipm_NoWords : Value} {ian_NoWords : Option Addr} {ict_NoWords : Value} {iosl_NoWords : Array (Option Value)} {p0_NoWords q1_NoWords q2_NoWords q3_NoWords q4_NoWords q5_NoWords : Pos}
    (i_NoWords : PySem.W.findIn K (.ref A_NoWords) "__init__" = some (some (.ref fI_NoWords)))
    (it_NoWords : PySem.W.typeIn K (.ref fI_NoWords) = some (.type "function"))
    (il_NoWords : K.lookup fI_NoWords = some ⟨ioc_NoWords, iod_NoWords, .func (PySem.W.ksFn "__init__" iqn_NoWords (PySem.NoX.nA p0_NoWords) (PySem.NoX.nB q1_NoWords q2_NoWords q3_NoWords q4_NoWords q5_NoWords) PySem.NoX.nS .none ikV_NoWords idc_NoWords ipm_NoWords ian_NoWords (.ref cda_NoWords) ict_NoWords cc_NoWords), iosl_NoWords⟩)
    (icd_NoWords : PySem.W.codeIn K (.ref cda_NoWords) iqn_NoWords = true)
    {ccl_NoWords : Value} {cdd_NoWords : Option Addr} {vs_NoWords : Array Value} {ccs_NoWords : Array (Option Value)} {fi_NoWords : Str} {tf_NoWords : Tok}
    (co_NoWords : K.lookup cda_NoWords = some ⟨ccl_NoWords, cdd_NoWords, .fields vs_NoWords, ccs_NoWords⟩)
    (cv_NoWords : vs_NoWords[2]? = some (.str fi_NoWords tf_NoWords))
    (cf_NoWords : ((PySem.Challenge.pw_wholewalks_k75_whole_answers.main.file : Str) == fi_NoWords) = true)
    {cl_NoWords : Value} {cld_NoWords : Option Addr} {csl_NoWords : Array (Option Value)}
    (ce_NoWords : K.lookup cc_NoWords = some ⟨cl_NoWords, cld_NoWords, .cell (some (.ref A_NoWords)), csl_NoWords⟩)
    (se_NoWords : PySem.NoX.SupEq q1_NoWords q2_NoWords q3_NoWords q4_NoWords)
    {fI_BadQuestion : Addr} {ioc_BadQuestion ikV_BadQuestion idc_BadQuestion ipm_BadQuestion icdv_BadQuestion ict_BadQuestion : Value} {iod_BadQuestion ian_BadQuestion : Option Addr} {iosl_BadQuestion : Array (Option Value)}
    (sa_BadQuestion : PySem.W.findIn K (.ref A_BadQuestion) "__setattr__" = some (some (.builtin "object.__setattr__")))
    (fl_BadQuestion : PySem.W.findIn K (.ref A_BadQuestion) "part" = some none)
    (i_BadQuestion : PySem.W.findIn K (.ref A_BadQuestion) "__init__" = some (some (.ref fI_BadQuestion)))
    (it_BadQuestion : PySem.W.typeIn K (.ref fI_BadQuestion) = some (.type "function"))
    (il_BadQuestion : K.lookup fI_BadQuestion = some ⟨ioc_BadQuestion, iod_BadQuestion, .func (PySem.W.fnOf "__init__" "BadQuestion.__init__" (defArgs s_BadQuestion_init) (defBody s_BadQuestion_init) (defScope s_BadQuestion_init) .none ikV_BadQuestion idc_BadQuestion ipm_BadQuestion ian_BadQuestion icdv_BadQuestion ict_BadQuestion), iosl_BadQuestion⟩)
    (icd_BadQuestion : PySem.W.codeIn K icdv_BadQuestion "BadQuestion.__init__" = true)
    (ikp_BadQuestion : PySem.W.keepIn K (.ref fI_BadQuestion) = true)
    (p_NoWords_NoWords : PySem.W.subIn K (.ref A_NoWords) (.ref A_NoWords) = some true)
    (p_BadQuestion_NoWords : PySem.W.subIn K (.ref A_BadQuestion) (.ref A_NoWords) = some false)
    (p_BadQuestion_BadQuestion : PySem.W.subIn K (.ref A_BadQuestion) (.ref A_BadQuestion) = some true)
    (n_Readings : PySem.W.nsIn K mainGlobals "Readings" = some (some (.ref A_Readings)))
    (pg_Readings : PySem.W.plainGet K A_Readings Str.empty = true)
    (hd_Readings : PySem.W.hasDictIn K A_Readings = true)
    (po_Readings : PySem.W.plainOver K A_Readings = true)
    (sa_Readings : PySem.W.findIn K (.ref A_Readings) "__setattr__" = some (some (.builtin "object.__setattr__")))
    (mk_Readings : PySem.W.makesIn K A_Readings = true)
    (kp_Readings : PySem.W.keepIn K (.ref A_Readings) = true)
    (n_Question : PySem.W.nsIn K mainGlobals "Question" = some (some (.ref A_Question)))
    (pg_Question : PySem.W.plainGet K A_Question Str.empty = true)
    (hd_Question : PySem.W.hasDictIn K A_Question = true)
    (po_Question : PySem.W.plainOver K A_Question = true)
    (sa_Question : PySem.W.findIn K (.ref A_Question) "__setattr__" = some (some (.builtin "object.__setattr__")))
    (mk_Question : PySem.W.makesIn K A_Question = true)
    (kp_Question : PySem.W.keepIn K (.ref A_Question) = true)
    (na_Readings_rows : PySem.W.findIn K (.ref A_Readings) "rows" = some none)
    (na_Readings_letters : PySem.W.findIn K (.ref A_Readings) "letters" = some none)
    (na_Readings_figures : PySem.W.findIn K (.ref A_Readings) "figures" = some none)
    (na_Readings_ended : PySem.W.findIn K (.ref A_Readings) "ended" = some none)
    (na_Question_rows : PySem.W.findIn K (.ref A_Question) "rows" = some none)
    (na_Question_letters : PySem.W.findIn K (.ref A_Question) "letters" = some none)
    (na_Question_table : PySem.W.findIn K (.ref A_Question) "table" = some none)
    (a__law_pool : PySem.W.nsIn K mainGlobals "_law_pool" = some (some (.ref f__law_pool)))
    (l__law_pool : K.lookup f__law_pool = some ⟨oc__law_pool, od__law_pool, .func (PySem.W.fnOf "_law_pool" "_law_pool" (defArgs s__law_pool) (defBody s__law_pool) (defScope s__law_pool) .none kV__law_pool dc__law_pool pm__law_pool an__law_pool cd__law_pool ct__law_pool), sl__law_pool⟩)
    (c__law_pool : PySem.W.codeIn K cd__law_pool "_law_pool" = true)
    (k__law_pool : PySem.W.keepIn K (.ref f__law_pool) = true)
    (a__law_draw : PySem.W.nsIn K mainGlobals "_law_draw" = some (some (.ref f__law_draw)))
    (l__law_draw : K.lookup f__law_draw = some ⟨oc__law_draw, od__law_draw, .func (PySem.W.fnOf "_law_draw" "_law_draw" (defArgs s__law_draw) (defBody s__law_draw) (defScope s__law_draw) .none kV__law_draw dc__law_draw pm__law_draw an__law_draw cd__law_draw ct__law_draw), sl__law_draw⟩)
    (c__law_draw : PySem.W.codeIn K cd__law_draw "_law_draw" = true)
    (k__law_draw : PySem.W.keepIn K (.ref f__law_draw) = true)
    (a__law_pick : PySem.W.nsIn K mainGlobals "_law_pick" = some (some (.ref f__law_pick)))
    (l__law_pick : K.lookup f__law_pick = some ⟨oc__law_pick, od__law_pick, .func (PySem.W.fnOf "_law_pick" "_law_pick" (defArgs s__law_pick) (defBody s__law_pick) (defScope s__law_pick) .none kV__law_pick dc__law_pick pm__law_pick an__law_pick cd__law_pick ct__law_pick), sl__law_pick⟩)
    (c__law_pick : PySem.W.codeIn K cd__law_pick "_law_pick" = true)
    (k__law_pick : PySem.W.keepIn K (.ref f__law_pick) = true)
    (a__law_columns : PySem.W.nsIn K mainGlobals "_law_columns" = some (some (.ref f__law_columns)))
    (l__law_columns : K.lookup f__law_columns = some ⟨oc__law_columns, od__law_columns, .func (PySem.W.fnOf "_law_columns" "_law_columns" (defArgs s__law_columns) (defBody s__law_columns) (defScope s__law_columns) .none kV__law_columns dc__law_columns pm__law_columns an__law_columns cd__law_columns ct__law_columns), sl__law_columns⟩)
    (c__law_columns : PySem.W.codeIn K cd__law_columns "_law_columns" = true)
    (k__law_columns : PySem.W.keepIn K (.ref f__law_columns) = true)
    (a__law_drawn_table : PySem.W.nsIn K mainGlobals "_law_drawn_table" = some (some (.ref f__law_drawn_table)))
    (l__law_drawn_table : K.lookup f__law_drawn_table = some ⟨oc__law_drawn_table, od__law_drawn_table, .func (PySem.W.fnOf "_law_drawn_table" "_law_drawn_table" (defArgs s__law_drawn_table) (defBody s__law_drawn_table) (defScope s__law_drawn_table) .none kV__law_drawn_table dc__law_drawn_table pm__law_drawn_table an__law_drawn_table cd__law_drawn_table ct__law_drawn_table), sl__law_drawn_table⟩)
    (c__law_drawn_table : PySem.W.codeIn K cd__law_drawn_table "_law_drawn_table" = true)
    (k__law_drawn_table : PySem.W.keepIn K (.ref f__law_drawn_table) = true)
    (a__law_by_rows : PySem.W.nsIn K mainGlobals "_law_by_rows" = some (some (.ref f__law_by_rows)))
    (l__law_by_rows : K.lookup f__law_by_rows = some ⟨oc__law_by_rows, od__law_by_rows, .func (PySem.W.fnOf "_law_by_rows" "_law_by_rows" (defArgs s__law_by_rows) (defBody s__law_by_rows) (defScope s__law_by_rows) .none kV__law_by_rows dc__law_by_rows pm__law_by_rows an__law_by_rows cd__law_by_rows ct__law_by_rows), sl__law_by_rows⟩)
    (c__law_by_rows : PySem.W.codeIn K cd__law_by_rows "_law_by_rows" = true)
    (k__law_by_rows : PySem.W.keepIn K (.ref f__law_by_rows) = true)
    (a__law_first_signs : PySem.W.nsIn K mainGlobals "_law_first_signs" = some (some (.ref f__law_first_signs)))
    (l__law_first_signs : K.lookup f__law_first_signs = some ⟨oc__law_first_signs, od__law_first_signs, .func (PySem.W.fnOf "_law_first_signs" "_law_first_signs" (defArgs s__law_first_signs) (defBody s__law_first_signs) (defScope s__law_first_signs) .none kV__law_first_signs dc__law_first_signs pm__law_first_signs an__law_first_signs cd__law_first_signs ct__law_first_signs), sl__law_first_signs⟩)
    (c__law_first_signs : PySem.W.codeIn K cd__law_first_signs "_law_first_signs" = true)
    (k__law_first_signs : PySem.W.keepIn K (.ref f__law_first_signs) = true)
    (a__law_compared : PySem.W.nsIn K mainGlobals "_law_compared" = some (some (.ref f__law_compared)))
    (l__law_compared : K.lookup f__law_compared = some ⟨oc__law_compared, od__law_compared, .func (PySem.W.fnOf "_law_compared" "_law_compared" (defArgs s__law_compared) (defBody s__law_compared) (defScope s__law_compared) .none kV__law_compared dc__law_compared pm__law_compared an__law_compared cd__law_compared ct__law_compared), sl__law_compared⟩)
    (c__law_compared : PySem.W.codeIn K cd__law_compared "_law_compared" = true)
    (k__law_compared : PySem.W.keepIn K (.ref f__law_compared) = true)
    (a__law_spec : PySem.W.nsIn K mainGlobals "_law_spec" = some (some (.ref f__law_spec)))
    (l__law_spec : K.lookup f__law_spec = some ⟨oc__law_spec, od__law_spec, .func (PySem.W.fnOf "_law_spec" "_law_spec" (defArgs s__law_spec) (defBody s__law_spec) (defScope s__law_spec) .none kV__law_spec dc__law_spec pm__law_spec an__law_spec cd__law_spec ct__law_spec), sl__law_spec⟩)
    (c__law_spec : PySem.W.codeIn K cd__law_spec "_law_spec" = true)
    (k__law_spec : PySem.W.keepIn K (.ref f__law_spec) = true)
    (a_is_integer : PySem.W.nsIn K mainGlobals "is_integer" = some (some (.ref f_is_integer)))
    (l_is_integer : K.lookup f_is_integer = some ⟨oc_is_integer, od_is_integer, .func (PySem.W.fnOf "is_integer" "is_integer" (defArgs s_is_integer) (defBody s_is_integer) (defScope s_is_integer) .none kV_is_integer dc_is_integer pm_is_integer an_is_integer cd_is_integer ct_is_integer), sl_is_integer⟩)
    (c_is_integer : PySem.W.codeIn K cd_is_integer "is_integer" = true)
    (k_is_integer : PySem.W.keepIn K (.ref f_is_integer) = true)
    (a_is_between : PySem.W.nsIn K mainGlobals "is_between" = some (some (.ref f_is_between)))
    (l_is_between : K.lookup f_is_between = some ⟨oc_is_between, od_is_between, .func (PySem.W.fnOf "is_between" "is_between" (defArgs s_is_between) (defBody s_is_between) (defScope s_is_between) .none kV_is_between dc_is_between pm_is_between an_is_between cd_is_between ct_is_between), sl_is_between⟩)
    (c_is_between : PySem.W.codeIn K cd_is_between "is_between" = true)
    (k_is_between : PySem.W.keepIn K (.ref f_is_between) = true)
    (a_Readings_M___init__ : PySem.W.findIn K (.ref A_Readings) "__init__" = some (some (.ref f_Readings_M___init__)))
    (isf_Readings_M___init__ : PySem.W.isFn K (.ref f_Readings_M___init__) = true)
    (l_Readings_M___init__ : K.lookup f_Readings_M___init__ = some ⟨oc_Readings_M___init__, od_Readings_M___init__, .func (PySem.W.fnOf "__init__" "Readings.__init__" (defArgs s_Readings_M___init__) (defBody s_Readings_M___init__) (defScope s_Readings_M___init__) .none kV_Readings_M___init__ dc_Readings_M___init__ pm_Readings_M___init__ an_Readings_M___init__ cd_Readings_M___init__ ct_Readings_M___init__), sl_Readings_M___init__⟩)
    (c_Readings_M___init__ : PySem.W.codeIn K cd_Readings_M___init__ "Readings.__init__" = true)
    (k_Readings_M___init__ : PySem.W.keepIn K (.ref f_Readings_M___init__) = true)
    (a_many_readings : PySem.W.nsIn K mainGlobals "many_readings" = some (some (.ref f_many_readings)))
    (l_many_readings : K.lookup f_many_readings = some ⟨oc_many_readings, od_many_readings, .func (PySem.W.fnOf "many_readings" "many_readings" (defArgs s_many_readings) (defBody s_many_readings) (defScope s_many_readings) .none kV_many_readings dc_many_readings pm_many_readings an_many_readings cd_many_readings ct_many_readings), sl_many_readings⟩)
    (c_many_readings : PySem.W.codeIn K cd_many_readings "many_readings" = true)
    (k_many_readings : PySem.W.keepIn K (.ref f_many_readings) = true)
    (a_is_table : PySem.W.nsIn K mainGlobals "is_table" = some (some (.ref f_is_table)))
    (l_is_table : K.lookup f_is_table = some ⟨oc_is_table, od_is_table, .func (PySem.W.fnOf "is_table" "is_table" (defArgs s_is_table) (defBody s_is_table) (defScope s_is_table) .none kV_is_table dc_is_table pm_is_table an_is_table cd_is_table ct_is_table), sl_is_table⟩)
    (c_is_table : PySem.W.codeIn K cd_is_table "is_table" = true)
    (k_is_table : PySem.W.keepIn K (.ref f_is_table) = true)
    (a_is_tuple_of : PySem.W.nsIn K mainGlobals "is_tuple_of" = some (some (.ref f_is_tuple_of)))
    (l_is_tuple_of : K.lookup f_is_tuple_of = some ⟨oc_is_tuple_of, od_is_tuple_of, .func (PySem.W.fnOf "is_tuple_of" "is_tuple_of" (defArgs s_is_tuple_of) (defBody s_is_tuple_of) (defScope s_is_tuple_of) .none kV_is_tuple_of dc_is_tuple_of pm_is_tuple_of an_is_tuple_of cd_is_tuple_of ct_is_tuple_of), sl_is_tuple_of⟩)
    (c_is_tuple_of : PySem.W.codeIn K cd_is_tuple_of "is_tuple_of" = true)
    (k_is_tuple_of : PySem.W.keepIn K (.ref f_is_tuple_of) = true)
    (a_is_way : PySem.W.nsIn K mainGlobals "is_way" = some (some (.ref f_is_way)))
    (l_is_way : K.lookup f_is_way = some ⟨oc_is_way, od_is_way, .func (PySem.W.fnOf "is_way" "is_way" (defArgs s_is_way) (defBody s_is_way) (defScope s_is_way) .none kV_is_way dc_is_way pm_is_way an_is_way cd_is_way ct_is_way), sl_is_way⟩)
    (c_is_way : PySem.W.codeIn K cd_is_way "is_way" = true)
    (k_is_way : PySem.W.keepIn K (.ref f_is_way) = true)
    (a_is_question_table : PySem.W.nsIn K mainGlobals "is_question_table" = some (some (.ref f_is_question_table)))
    (l_is_question_table : K.lookup f_is_question_table = some ⟨oc_is_question_table, od_is_question_table, .func (PySem.W.fnOf "is_question_table" "is_question_table" (defArgs s_is_question_table) (defBody s_is_question_table) (defScope s_is_question_table) .none kV_is_question_table dc_is_question_table pm_is_question_table an_is_question_table cd_is_question_table ct_is_question_table), sl_is_question_table⟩)
    (c_is_question_table : PySem.W.codeIn K cd_is_question_table "is_question_table" = true)
    (k_is_question_table : PySem.W.keepIn K (.ref f_is_question_table) = true)
    (a_Question_M___init__ : PySem.W.findIn K (.ref A_Question) "__init__" = some (some (.ref f_Question_M___init__)))
    (isf_Question_M___init__ : PySem.W.isFn K (.ref f_Question_M___init__) = true)
    (l_Question_M___init__ : K.lookup f_Question_M___init__ = some ⟨oc_Question_M___init__, od_Question_M___init__, .func (PySem.W.fnOf "__init__" "Question.__init__" (defArgs s_Question_M___init__) (defBody s_Question_M___init__) (defScope s_Question_M___init__) .none kV_Question_M___init__ dc_Question_M___init__ pm_Question_M___init__ an_Question_M___init__ cd_Question_M___init__ ct_Question_M___init__), sl_Question_M___init__⟩)
    (c_Question_M___init__ : PySem.W.codeIn K cd_Question_M___init__ "Question.__init__" = true)
    (k_Question_M___init__ : PySem.W.keepIn K (.ref f_Question_M___init__) = true)
    (a__law_question : PySem.W.nsIn K mainGlobals "_law_question" = some (some (.ref f__law_question)))
    (l__law_question : K.lookup f__law_question = some ⟨oc__law_question, od__law_question, .func (PySem.W.fnOf "_law_question" "_law_question" (defArgs s__law_question) (defBody s__law_question) (defScope s__law_question) .none kV__law_question dc__law_question pm__law_question an__law_question cd__law_question ct__law_question), sl__law_question⟩)
    (c__law_question : PySem.W.codeIn K cd__law_question "_law_question" = true)
    (k__law_question : PySem.W.keepIn K (.ref f__law_question) = true)
    (a_is_lettered : PySem.W.nsIn K mainGlobals "is_lettered" = some (some (.ref f_is_lettered)))
    (l_is_lettered : K.lookup f_is_lettered = some ⟨oc_is_lettered, od_is_lettered, .func (PySem.W.fnOf "is_lettered" "is_lettered" (defArgs s_is_lettered) (defBody s_is_lettered) (defScope s_is_lettered) .none kV_is_lettered dc_is_lettered pm_is_lettered an_is_lettered cd_is_lettered ct_is_lettered), sl_is_lettered⟩)
    (c_is_lettered : PySem.W.codeIn K cd_is_lettered "is_lettered" = true)
    (k_is_lettered : PySem.W.keepIn K (.ref f_is_lettered) = true)
    (a_is_words : PySem.W.nsIn K mainGlobals "is_words" = some (some (.ref f_is_words)))
    (l_is_words : K.lookup f_is_words = some ⟨oc_is_words, od_is_words, .func (PySem.W.fnOf "is_words" "is_words" (defArgs s_is_words) (defBody s_is_words) (defScope s_is_words) .none kV_is_words dc_is_words pm_is_words an_is_words cd_is_words ct_is_words), sl_is_words⟩)
    (c_is_words : PySem.W.codeIn K cd_is_words "is_words" = true)
    (k_is_words : PySem.W.keepIn K (.ref f_is_words) = true)
    (a_need_words : PySem.W.nsIn K mainGlobals "need_words" = some (some (.ref f_need_words)))
    (l_need_words : K.lookup f_need_words = some ⟨oc_need_words, od_need_words, .func (PySem.W.fnOf "need_words" "need_words" (defArgs s_need_words) (defBody s_need_words) (defScope s_need_words) .none kV_need_words dc_need_words pm_need_words an_need_words cd_need_words ct_need_words), sl_need_words⟩)
    (c_need_words : PySem.W.codeIn K cd_need_words "need_words" = true)
    (k_need_words : PySem.W.keepIn K (.ref f_need_words) = true)
    (a_reading_at : PySem.W.nsIn K mainGlobals "reading_at" = some (some (.ref f_reading_at)))
    (l_reading_at : K.lookup f_reading_at = some ⟨oc_reading_at, od_reading_at, .func (PySem.W.fnOf "reading_at" "reading_at" (defArgs s_reading_at) (defBody s_reading_at) (defScope s_reading_at) .none kV_reading_at dc_reading_at pm_reading_at an_reading_at cd_reading_at ct_reading_at), sl_reading_at⟩)
    (c_reading_at : PySem.W.codeIn K cd_reading_at "reading_at" = true)
    (k_reading_at : PySem.W.keepIn K (.ref f_reading_at) = true)
    (a_readings_of : PySem.W.nsIn K mainGlobals "readings_of" = some (some (.ref f_readings_of)))
    (l_readings_of : K.lookup f_readings_of = some ⟨oc_readings_of, od_readings_of, .func (PySem.W.fnOf "readings_of" "readings_of" (defArgs s_readings_of) (defBody s_readings_of) (defScope s_readings_of) .none kV_readings_of dc_readings_of pm_readings_of an_readings_of cd_readings_of ct_readings_of), sl_readings_of⟩)
    (c_readings_of : PySem.W.codeIn K cd_readings_of "readings_of" = true)
    (k_readings_of : PySem.W.keepIn K (.ref f_readings_of) = true)
    (a_answer : PySem.W.nsIn K mainGlobals "answer" = some (some (.ref f_answer)))
    (l_answer : K.lookup f_answer = some ⟨oc_answer, od_answer, .func (PySem.W.fnOf "answer" "answer" (defArgs s_answer) (defBody s_answer) (defScope s_answer) .none kV_answer dc_answer pm_answer an_answer cd_answer ct_answer), sl_answer⟩)
    (c_answer : PySem.W.codeIn K cd_answer "answer" = true)
    (k_answer : PySem.W.keepIn K (.ref f_answer) = true)
    (a__law_drawn_words : PySem.W.nsIn K mainGlobals "_law_drawn_words" = some (some (.ref f__law_drawn_words)))
    (l__law_drawn_words : K.lookup f__law_drawn_words = some ⟨oc__law_drawn_words, od__law_drawn_words, .func (PySem.W.fnOf "_law_drawn_words" "_law_drawn_words" (defArgs s__law_drawn_words) (defBody s__law_drawn_words) (defScope s__law_drawn_words) .none kV__law_drawn_words dc__law_drawn_words pm__law_drawn_words an__law_drawn_words cd__law_drawn_words ct__law_drawn_words), sl__law_drawn_words⟩)
    (c__law_drawn_words : PySem.W.codeIn K cd__law_drawn_words "_law_drawn_words" = true)
    (k__law_drawn_words : PySem.W.keepIn K (.ref f__law_drawn_words) = true)
    (a__law_lead : PySem.W.nsIn K mainGlobals "_law_lead" = some (some (.ref f__law_lead)))
    (l__law_lead : K.lookup f__law_lead = some ⟨oc__law_lead, od__law_lead, .func (PySem.W.fnOf "_law_lead" "_law_lead" (defArgs s__law_lead) (defBody s__law_lead) (defScope s__law_lead) .none kV__law_lead dc__law_lead pm__law_lead an__law_lead cd__law_lead ct__law_lead), sl__law_lead⟩)
    (c__law_lead : PySem.W.codeIn K cd__law_lead "_law_lead" = true)
    (k__law_lead : PySem.W.keepIn K (.ref f__law_lead) = true)
    (a__law_column_at : PySem.W.nsIn K mainGlobals "_law_column_at" = some (some (.ref f__law_column_at)))
    (l__law_column_at : K.lookup f__law_column_at = some ⟨oc__law_column_at, od__law_column_at, .func (PySem.W.fnOf "_law_column_at" "_law_column_at" (defArgs s__law_column_at) (defBody s__law_column_at) (defScope s__law_column_at) .none kV__law_column_at dc__law_column_at pm__law_column_at an__law_column_at cd__law_column_at ct__law_column_at), sl__law_column_at⟩)
    (c__law_column_at : PySem.W.codeIn K cd__law_column_at "_law_column_at" = true)
    (k__law_column_at : PySem.W.keepIn K (.ref f__law_column_at) = true)
    (a__law_answer : PySem.W.nsIn K mainGlobals "_law_answer" = some (some (.ref f__law_answer)))
    (l__law_answer : K.lookup f__law_answer = some ⟨oc__law_answer, od__law_answer, .func (PySem.W.fnOf "_law_answer" "_law_answer" (defArgs s__law_answer) (defBody s__law_answer) (defScope s__law_answer) .none kV__law_answer dc__law_answer pm__law_answer an__law_answer cd__law_answer ct__law_answer), sl__law_answer⟩)
    (c__law_answer : PySem.W.codeIn K cd__law_answer "_law_answer" = true)
    (k__law_answer : PySem.W.keepIn K (.ref f__law_answer) = true)
    (a_law : PySem.W.nsIn K mainGlobals "law" = some (some (.ref f_law)))
    (l_law : K.lookup f_law = some ⟨oc_law, od_law, .func (PySem.W.fnOf "law" "law" (defArgs s_law) (defBody s_law) (defScope s_law) .none kV_law dc_law pm_law an_law cd_law ct_law), sl_law⟩)
    (c_law : PySem.W.codeIn K cd_law "law" = true)
    (k_law : PySem.W.keepIn K (.ref f_law) = true)
    : ∃ fd : FuncData, (∀ (s : Shared) (v : Value), BindsTo s fd ⟨[v], []⟩ [("script", v)]) ∧ ∀ base : Heap, K.In base → base.Ns mainGlobals mg → FnOk l.prog w K mg base (L2.CX l.prog w) 8 fa fd ["script"] (spLawD K w) := by
  rw [hP]
  have e := hfa.symm.trans (PySem.W.mg_of X G a_law)
  cases e
  have T : Txt PySem.Challenge.pw_wholewalks_k75_whole_answers K mg ⟨A_WalkError, A_NoWords, A_BadQuestion, A_Readings, A_Question, 0⟩ := ⟨PySem.W.mg_none_of X G z_abs,
    PySem.W.mg_none_of X G z_bool,
    PySem.W.mg_none_of X G z_enumerate,
    PySem.W.mg_none_of X G z_int,
    PySem.W.mg_none_of X G z_isinstance,
    PySem.W.mg_none_of X G z_len,
    PySem.W.mg_none_of X G z_max,
    PySem.W.mg_none_of X G z_range,
    PySem.W.mg_none_of X G z_str,
    PySem.W.mg_none_of X G z_sum,
    PySem.W.mg_none_of X G z_tuple,
    PySem.W.mg_of X G n_WalkError,
    PySem.W.mg_of X G n_Readings,
    PySem.W.mg_of X G n_Question,
    ⟨PySem.W.mg_of X G n_NoWords, ⟨_, _, _, _, _, _, _, _, _, _, _, _, _, _, _, x_NoWords, r_NoWords⟩, kp_NoWords, ex_NoWords, ty_NoWords, su_NoWords, ve_NoWords, mr_NoWords, PySem.W.mg_none_of X G z_super, by decide +kernel, stat, ⟨fI_NoWords, _, _, _, _, _, _, _, _, _, _, _, _, _, _, _, _, _, i_NoWords, it_NoWords, il_NoWords, icd_NoWords, ⟨_, _, _, _, _, _, co_NoWords, cv_NoWords, cf_NoWords⟩, ⟨_, _, _, ce_NoWords⟩, se_NoWords⟩⟩,
    ⟨pg_Readings, hd_Readings, po_Readings, sa_Readings⟩,
    ⟨pg_Question, hd_Question, po_Question, sa_Question⟩,
    na_Readings_rows,
    na_Readings_letters,
    na_Readings_figures,
    na_Readings_ended,
    na_Question_rows,
    na_Question_letters,
    na_Question_table,
    ⟨_, PySem.W.mg_of X G g_LETTERS⟩,
    ⟨_, PySem.W.mg_of X G g_FEWEST_ROWS⟩,
    ⟨_, PySem.W.mg_of X G g_MOST_ROWS⟩,
    ⟨_, PySem.W.mg_of X G g_MOST_LETTERS⟩,
    ⟨_, PySem.W.mg_of X G g_MOST_STANDINGS⟩⟩
  have PT : PureT K ⟨A_WalkError, A_NoWords, A_BadQuestion, A_Readings, A_Question, 0⟩ := ⟨fun z => by have z : A_BadQuestion = A_NoWords := z; rw [z] at p_BadQuestion_NoWords; rw [p_NoWords_NoWords] at p_BadQuestion_NoWords; cases p_BadQuestion_NoWords⟩
  have F__law_pool := fun_mk (st := s__law_pool) l__law_pool c__law_pool k__law_pool
  have b__law_pool := F__law_pool.binds (ps := ["script"]) fun _ _ _ _ _ _ us hl => match us, hl with | [_], _ => rfl
  have F__law_draw := fun_mk (st := s__law_draw) l__law_draw c__law_draw k__law_draw
  have b__law_draw := F__law_draw.binds (ps := ["pool", "many"]) fun _ _ _ _ _ _ us hl => match us, hl with | [_, _], _ => rfl
  have F__law_pick := fun_mk (st := s__law_pick) l__law_pick c__law_pick k__law_pick
  have b__law_pick := F__law_pick.binds (ps := ["pool", "things"]) fun _ _ _ _ _ _ us hl => match us, hl with | [_, _], _ => rfl
  have F__law_columns := fun_mk (st := s__law_columns) l__law_columns c__law_columns k__law_columns
  have b__law_columns := F__law_columns.binds (ps := ["rows", "letters"]) fun _ _ _ _ _ _ us hl => match us, hl with | [_, _], _ => rfl
  have F__law_drawn_table := fun_mk (st := s__law_drawn_table) l__law_drawn_table c__law_drawn_table k__law_drawn_table
  have b__law_drawn_table := F__law_drawn_table.binds (ps := ["pool", "rows", "letters", "many", "plain"]) fun _ _ _ _ _ _ us hl => match us, hl with | [_, _, _, _, _], _ => rfl
  have F__law_by_rows := fun_mk (st := s__law_by_rows) l__law_by_rows c__law_by_rows k__law_by_rows
  have b__law_by_rows := F__law_by_rows.binds (ps := ["pool", "rows", "letters"]) fun _ _ _ _ _ _ us hl => match us, hl with | [_, _, _], _ => rfl
  have F__law_first_signs := fun_mk (st := s__law_first_signs) l__law_first_signs c__law_first_signs k__law_first_signs
  have b__law_first_signs := F__law_first_signs.binds (ps := ["pool", "rows", "letters"]) fun _ _ _ _ _ _ us hl => match us, hl with | [_, _, _], _ => rfl
  have F__law_compared := fun_mk (st := s__law_compared) l__law_compared c__law_compared k__law_compared
  have b__law_compared := F__law_compared.binds (ps := ["pool", "rows", "letters"]) fun _ _ _ _ _ _ us hl => match us, hl with | [_, _, _], _ => rfl
  have F__law_spec := fun_mk (st := s__law_spec) l__law_spec c__law_spec k__law_spec
  have b__law_spec := F__law_spec.binds (ps := ["pool", "most_rows"]) fun _ _ _ _ _ _ us hl => match us, hl with | [_, _], _ => rfl
  have F_is_integer := fun_mk (st := s_is_integer) l_is_integer c_is_integer k_is_integer
  have b_is_integer := F_is_integer.binds (ps := ["thing"]) fun _ _ _ _ _ _ us hl => match us, hl with | [_], _ => rfl
  have F_is_between := fun_mk (st := s_is_between) l_is_between c_is_between k_is_between
  have b_is_between := F_is_between.binds (ps := ["low", "high", "thing"]) fun _ _ _ _ _ _ us hl => match us, hl with | [_, _, _], _ => rfl
  have F_Readings_M___init__ := fun_mk (st := s_Readings_M___init__) l_Readings_M___init__ c_Readings_M___init__ k_Readings_M___init__
  have b_Readings_M___init__ := F_Readings_M___init__.binds (ps := ["self", "rows", "letters"]) fun _ _ _ _ _ _ us hl => match us, hl with | [_, _, _], _ => rfl
  have F_many_readings := fun_mk (st := s_many_readings) l_many_readings c_many_readings k_many_readings
  have b_many_readings := F_many_readings.binds (ps := ["rows", "letters"]) fun _ _ _ _ _ _ us hl => match us, hl with | [_, _], _ => rfl
  have F_is_table := fun_mk (st := s_is_table) l_is_table c_is_table k_is_table
  have b_is_table := F_is_table.binds (ps := ["most", "thing"]) fun _ _ _ _ _ _ us hl => match us, hl with | [_, _], _ => rfl
  have F_is_tuple_of := fun_mk (st := s_is_tuple_of) l_is_tuple_of c_is_tuple_of k_is_tuple_of
  have b_is_tuple_of := F_is_tuple_of.binds (ps := ["many", "thing"]) fun _ _ _ _ _ _ us hl => match us, hl with | [_, _], _ => rfl
  have F_is_way := fun_mk (st := s_is_way) l_is_way c_is_way k_is_way
  have b_is_way := F_is_way.binds (ps := ["size", "many", "thing"]) fun _ _ _ _ _ _ us hl => match us, hl with | [_, _, _], _ => rfl
  have F_is_question_table := fun_mk (st := s_is_question_table) l_is_question_table c_is_question_table k_is_question_table
  have b_is_question_table := F_is_question_table.binds (ps := ["rows", "letters", "thing"]) fun _ _ _ _ _ _ us hl => match us, hl with | [_, _, _], _ => rfl
  have F_Question_M___init__ := fun_mk (st := s_Question_M___init__) l_Question_M___init__ c_Question_M___init__ k_Question_M___init__
  have b_Question_M___init__ := F_Question_M___init__.binds (ps := ["self", "rows", "letters", "table"]) fun _ _ _ _ _ _ us hl => match us, hl with | [_, _, _, _], _ => rfl
  have F__law_question := fun_mk (st := s__law_question) l__law_question c__law_question k__law_question
  have b__law_question := F__law_question.binds (ps := ["spec"]) fun _ _ _ _ _ _ us hl => match us, hl with | [_], _ => rfl
  have F_is_lettered := fun_mk (st := s_is_lettered) l_is_lettered c_is_lettered k_is_lettered
  have b_is_lettered := F_is_lettered.binds (ps := ["letters", "thing"]) fun _ _ _ _ _ _ us hl => match us, hl with | [_, _], _ => rfl
  have F_is_words := fun_mk (st := s_is_words) l_is_words c_is_words k_is_words
  have b_is_words := F_is_words.binds (ps := ["letters", "rows", "thing"]) fun _ _ _ _ _ _ us hl => match us, hl with | [_, _, _], _ => rfl
  have F_need_words := fun_mk (st := s_need_words) l_need_words c_need_words k_need_words
  have b_need_words := F_need_words.binds (ps := ["question", "rows", "thing"]) fun _ _ _ _ _ _ us hl => match us, hl with | [_, _, _], _ => rfl
  have F_reading_at := fun_mk (st := s_reading_at) l_reading_at c_reading_at k_reading_at
  have b_reading_at := F_reading_at.binds (ps := ["letters", "words", "place"]) fun _ _ _ _ _ _ us hl => match us, hl with | [_, _, _], _ => rfl
  have F_readings_of := fun_mk (st := s_readings_of) l_readings_of c_readings_of k_readings_of
  have b_readings_of := F_readings_of.binds (ps := ["letters", "words"]) fun _ _ _ _ _ _ us hl => match us, hl with | [_, _], _ => rfl
  have F_answer := fun_mk (st := s_answer) l_answer c_answer k_answer
  have b_answer := F_answer.binds (ps := ["question", "words"]) fun _ _ _ _ _ _ us hl => match us, hl with | [_, _], _ => rfl
  have F__law_drawn_words := fun_mk (st := s__law_drawn_words) l__law_drawn_words c__law_drawn_words k__law_drawn_words
  have b__law_drawn_words := F__law_drawn_words.binds (ps := ["pool", "rows", "letters", "most"]) fun _ _ _ _ _ _ us hl => match us, hl with | [_, _, _, _], _ => rfl
  have F__law_lead := fun_mk (st := s__law_lead) l__law_lead c__law_lead k__law_lead
  have b__law_lead := F__law_lead.binds (ps := ["spec", "standing", "column"]) fun _ _ _ _ _ _ us hl => match us, hl with | [_, _, _], _ => rfl
  have F__law_column_at := fun_mk (st := s__law_column_at) l__law_column_at c__law_column_at k__law_column_at
  have b__law_column_at := F__law_column_at.binds (ps := ["words", "place"]) fun _ _ _ _ _ _ us hl => match us, hl with | [_, _], _ => rfl
  have F__law_answer := fun_mk (st := s__law_answer) l__law_answer c__law_answer k__law_answer
  have b__law_answer := F__law_answer.binds (ps := ["spec", "words"]) fun _ _ _ _ _ _ us hl => match us, hl with | [_, _], _ => rfl
  have F_law := fun_mk (st := s_law) l_law c_law k_law
  have FI_BadQuestion := fun_mk (st := s_BadQuestion_init) il_BadQuestion icd_BadQuestion ikp_BadQuestion
  have bI_BadQuestion := FI_BadQuestion.binds (ps := ["self", "part"]) fun _ _ _ _ _ _ us hl => match us, hl with | [_, _], _ => rfl
  refine ⟨PySem.W.fnOf "law" "law" (defArgs s_law) (defBody s_law) (defScope s_law) .none kV_law dc_law pm_law an_law cd_law ct_law, fun s v => .of_eq rfl, fun base _ _ => ?_⟩
  have X_BadQuestion : FexOk PySem.Challenge.pw_wholewalks_k75_whole_answers w K mg base "BadQuestion" A_BadQuestion "part" := ⟨⟨PySem.W.mg_of X G n_BadQuestion, ⟨⟨_, _, _, _, _, _, _, _, _, _, _, _, _, _, _, x_BadQuestion, r_BadQuestion⟩, sa_BadQuestion, ex_BadQuestion, ty_BadQuestion, kp_BadQuestion⟩, fl_BadQuestion, ⟨fI_BadQuestion, _, "part", i_BadQuestion, it_BadQuestion, bI_BadQuestion, ok_BadQuestion_init FI_BadQuestion⟩⟩, ⟨ga_BadQuestion, gg_BadQuestion, ex_BadQuestion, hd_BadQuestion⟩⟩
  have G__law_pool := defOk_of (base := base) (w := w) (PySem.W.mg_of X G a__law_pool) k__law_pool b__law_pool (ok__law_pool F__law_pool T)
  have G__law_draw := defOk_of (base := base) (w := w) (PySem.W.mg_of X G a__law_draw) k__law_draw b__law_draw (ok__law_draw F__law_draw T)
  have G__law_pick := defOk_of (base := base) (w := w) (PySem.W.mg_of X G a__law_pick) k__law_pick b__law_pick (ok__law_pick F__law_pick T G__law_draw)
  have G__law_columns := defOk_of (base := base) (w := w) (PySem.W.mg_of X G a__law_columns) k__law_columns b__law_columns (ok__law_columns F__law_columns T)
  have G__law_drawn_table := defOk_of (base := base) (w := w) (PySem.W.mg_of X G a__law_drawn_table) k__law_drawn_table b__law_drawn_table (ok__law_drawn_table F__law_drawn_table T G__law_draw G__law_columns)
  have G__law_by_rows := defOk_of (base := base) (w := w) (PySem.W.mg_of X G a__law_by_rows) k__law_by_rows b__law_by_rows (ok__law_by_rows F__law_by_rows T G__law_pick G__law_columns G__law_draw)
  have G__law_first_signs := defOk_of (base := base) (w := w) (PySem.W.mg_of X G a__law_first_signs) k__law_first_signs b__law_first_signs (ok__law_first_signs F__law_first_signs T G__law_draw G__law_columns)
  have G__law_compared := defOk_of (base := base) (w := w) (PySem.W.mg_of X G a__law_compared) k__law_compared b__law_compared (ok__law_compared F__law_compared T G__law_draw G__law_columns)
  have G__law_spec := defOk_of (base := base) (w := w) (PySem.W.mg_of X G a__law_spec) k__law_spec b__law_spec (ok__law_spec F__law_spec T G__law_pick G__law_draw G__law_drawn_table G__law_by_rows G__law_first_signs G__law_compared)
  have G_is_integer := defOk_of (base := base) (w := w) (PySem.W.mg_of X G a_is_integer) k_is_integer b_is_integer (ok_is_integer F_is_integer T)
  have G_is_between := defOk_of (base := base) (w := w) (PySem.W.mg_of X G a_is_between) k_is_between b_is_between (ok_is_between F_is_between T G_is_integer)
  have M_Readings : MakeOk PySem.Challenge.pw_wholewalks_k75_whole_answers w K mg base "Readings" A_Readings 1 _ _ := ⟨f_Readings_M___init__, _, PySem.W.mg_of X G n_Readings, ⟨mk_Readings, a_Readings_M___init__, isf_Readings_M___init__, kp_Readings⟩, b_Readings_M___init__, ok_Readings_M___init__ F_Readings_M___init__ T⟩
  have G_many_readings := defOk_of (base := base) (w := w) (PySem.W.mg_of X G a_many_readings) k_many_readings b_many_readings (ok_many_readings F_many_readings T M_Readings)
  have G_is_table := defOk_of (base := base) (w := w) (PySem.W.mg_of X G a_is_table) k_is_table b_is_table (ok_is_table F_is_table T)
  have G_is_tuple_of := defOk_of (base := base) (w := w) (PySem.W.mg_of X G a_is_tuple_of) k_is_tuple_of b_is_tuple_of (ok_is_tuple_of F_is_tuple_of T)
  have G_is_way := defOk_of (base := base) (w := w) (PySem.W.mg_of X G a_is_way) k_is_way b_is_way (ok_is_way F_is_way T G_is_tuple_of G_is_between)
  have G_is_question_table := defOk_of (base := base) (w := w) (PySem.W.mg_of X G a_is_question_table) k_is_question_table b_is_question_table (ok_is_question_table F_is_question_table T G_many_readings G_is_table G_is_tuple_of G_is_way)
  have M_Question : MakeOk PySem.Challenge.pw_wholewalks_k75_whole_answers w K mg base "Question" A_Question 5 _ _ := ⟨f_Question_M___init__, _, PySem.W.mg_of X G n_Question, ⟨mk_Question, a_Question_M___init__, isf_Question_M___init__, kp_Question⟩, b_Question_M___init__, ok_Question_M___init__ F_Question_M___init__ T X_BadQuestion G_is_between G_is_question_table⟩
  have G__law_question := defOk_of (base := base) (w := w) (PySem.W.mg_of X G a__law_question) k__law_question b__law_question (ok__law_question F__law_question T M_Question)
  have G_is_lettered := defOk_of (base := base) (w := w) (PySem.W.mg_of X G a_is_lettered) k_is_lettered b_is_lettered (ok_is_lettered F_is_lettered T)
  have G_is_words := defOk_of (base := base) (w := w) (PySem.W.mg_of X G a_is_words) k_is_words b_is_words (ok_is_words F_is_words T G_is_tuple_of G_is_lettered)
  have G_need_words := defOk_of (base := base) (w := w) (PySem.W.mg_of X G a_need_words) k_need_words b_need_words (ok_need_words F_need_words T G_is_words)
  have G_reading_at := defOk_of (base := base) (w := w) (PySem.W.mg_of X G a_reading_at) k_reading_at b_reading_at (ok_reading_at F_reading_at T)
  have G_readings_of := defOk_of (base := base) (w := w) (PySem.W.mg_of X G a_readings_of) k_readings_of b_readings_of (ok_readings_of F_readings_of T G_reading_at)
  have G_answer := defOk_of (base := base) (w := w) (PySem.W.mg_of X G a_answer) k_answer b_answer (ok_answer F_answer T G_need_words G_readings_of)
  have G__law_drawn_words := defOk_of (base := base) (w := w) (PySem.W.mg_of X G a__law_drawn_words) k__law_drawn_words b__law_drawn_words (ok__law_drawn_words F__law_drawn_words T G__law_draw)
  have G__law_lead := defOk_of (base := base) (w := w) (PySem.W.mg_of X G a__law_lead) k__law_lead b__law_lead (ok__law_lead F__law_lead T)
  have G__law_column_at := defOk_of (base := base) (w := w) (PySem.W.mg_of X G a__law_column_at) k__law_column_at b__law_column_at (ok__law_column_at F__law_column_at T)
  have G__law_answer := defOk_of (base := base) (w := w) (PySem.W.mg_of X G a__law_answer) k__law_answer b__law_answer (ok__law_answer F__law_answer T G__law_lead G__law_column_at)
  exact (ok_law F_law T G__law_pool G__law_spec G__law_question G_answer G__law_drawn_words G__law_pick G__law_draw G__law_answer).imp (law_imp (main PT))
end Law
open PySem PySem.W PyProof.Rows
set_option maxRecDepth 100000 in
set_option maxHeartbeats 0 in
theorem PySem.Challenge.cw_wholewalks_k75_whole_answers_holds : PySem.Challenge.rw_wholewalks_k75_whole_answers.Holds := by
  w_on; o_law; k_head; (case hw => w_witness2)
  k_fill
  refine L2.walk_of (l := PySem.Challenge.rw_wholewalks_k75_whole_answers) (n := 63) (k := 8) (x := "script") (CX := fun w => L2.CX PySem.Challenge.rw_wholewalks_k75_whole_answers.prog w) (sp := fun w => Dv.spLawD _ w) rfl (by decide) rfl ⟨rfl, by decide, by decide⟩ (fun w h Y => PySem.W.kIn_of Y) ?F (fun _ _ a ns hl hO hS => ⟨a, ns, rfl, Dv.fz_of hO hS, hl, fun _ => rfl⟩) (fun _ _ _ _ _ z => by obtain ⟨_, _, _, _, _, _, _, _, _, _, _, _, z⟩ := z; exact z.elim)
  case F =>
    intro w mg fa h KX G hmg
    refine' Law.all_mk (l := PySem.Challenge.rw_wholewalks_k75_whole_answers) rfl KX G hmg ?z_abs ?z_bool ?z_enumerate ?z_int ?z_isinstance ?z_len ?z_max ?z_range ?z_str ?z_sum ?z_tuple ?z_super ?g_LETTERS ?g_FEWEST_ROWS ?g_MOST_ROWS ?g_MOST_LETTERS ?g_MOST_STANDINGS ?stat ?n_WalkError ?ex_WalkError ?ty_WalkError ?ic_WalkError ?n_NoWords ?x_NoWords ?r_NoWords ?kp_NoWords ?ex_NoWords ?ty_NoWords ?ve_NoWords ?ic_NoWords ?n_BadQuestion ?x_BadQuestion ?r_BadQuestion ?kp_BadQuestion ?ex_BadQuestion ?ty_BadQuestion ?ve_BadQuestion ?ic_BadQuestion ?ga_BadQuestion ?gg_BadQuestion ?hd_BadQuestion ?su_NoWords ?mr_NoWords ?i_NoWords ?it_NoWords ?il_NoWords ?icd_NoWords ?co_NoWords ?cv_NoWords ?cf_NoWords ?ce_NoWords ?se_NoWords ?sa_BadQuestion ?fl_BadQuestion ?i_BadQuestion ?it_BadQuestion ?il_BadQuestion ?icd_BadQuestion ?ikp_BadQuestion ?p_NoWords_NoWords ?p_BadQuestion_NoWords ?p_BadQuestion_BadQuestion ?n_Readings ?pg_Readings ?hd_Readings ?po_Readings ?sa_Readings ?mk_Readings ?kp_Readings ?n_Question ?pg_Question ?hd_Question ?po_Question ?sa_Question ?mk_Question ?kp_Question ?na_Readings_rows ?na_Readings_letters ?na_Readings_figures ?na_Readings_ended ?na_Question_rows ?na_Question_letters ?na_Question_table ?a__law_pool ?l__law_pool ?c__law_pool ?k__law_pool ?a__law_draw ?l__law_draw ?c__law_draw ?k__law_draw ?a__law_pick ?l__law_pick ?c__law_pick ?k__law_pick ?a__law_columns ?l__law_columns ?c__law_columns ?k__law_columns ?a__law_drawn_table ?l__law_drawn_table ?c__law_drawn_table ?k__law_drawn_table ?a__law_by_rows ?l__law_by_rows ?c__law_by_rows ?k__law_by_rows ?a__law_first_signs ?l__law_first_signs ?c__law_first_signs ?k__law_first_signs ?a__law_compared ?l__law_compared ?c__law_compared ?k__law_compared ?a__law_spec ?l__law_spec ?c__law_spec ?k__law_spec ?a_is_integer ?l_is_integer ?c_is_integer ?k_is_integer ?a_is_between ?l_is_between ?c_is_between ?k_is_between ?a_Readings_M___init__ ?isf_Readings_M___init__ ?l_Readings_M___init__ ?c_Readings_M___init__ ?k_Readings_M___init__ ?a_many_readings ?l_many_readings ?c_many_readings ?k_many_readings ?a_is_table ?l_is_table ?c_is_table ?k_is_table ?a_is_tuple_of ?l_is_tuple_of ?c_is_tuple_of ?k_is_tuple_of ?a_is_way ?l_is_way ?c_is_way ?k_is_way ?a_is_question_table ?l_is_question_table ?c_is_question_table ?k_is_question_table ?a_Question_M___init__ ?isf_Question_M___init__ ?l_Question_M___init__ ?c_Question_M___init__ ?k_Question_M___init__ ?a__law_question ?l__law_question ?c__law_question ?k__law_question ?a_is_lettered ?l_is_lettered ?c_is_lettered ?k_is_lettered ?a_is_words ?l_is_words ?c_is_words ?k_is_words ?a_need_words ?l_need_words ?c_need_words ?k_need_words ?a_reading_at ?l_reading_at ?c_reading_at ?k_reading_at ?a_readings_of ?l_readings_of ?c_readings_of ?k_readings_of ?a_answer ?l_answer ?c_answer ?k_answer ?a__law_drawn_words ?l__law_drawn_words ?c__law_drawn_words ?k__law_drawn_words ?a__law_lead ?l__law_lead ?c__law_lead ?k__law_lead ?a__law_column_at ?l__law_column_at ?c__law_column_at ?k__law_column_at ?a__law_answer ?l__law_answer ?c__law_answer ?k__law_answer ?a_law ?l_law ?c_law ?k_law
    (case z_abs => k_is)
    (case z_bool => k_is)
    (case z_enumerate => k_is)
    (case z_int => k_is)
    (case z_isinstance => k_is)
    (case z_len => k_is)
    (case z_max => k_is)
    (case z_range => k_is)
    (case z_str => k_is)
    (case z_sum => k_is)
    (case z_tuple => k_is)
    (case z_super => k_is)
    (case g_LETTERS => k_is)
    (case g_FEWEST_ROWS => k_is)
    (case g_MOST_ROWS => k_is)
    (case g_MOST_LETTERS => k_is)
    (case g_MOST_STANDINGS => k_is)
    (case stat => k_is)
    (case n_WalkError => k_is)
    (case ex_WalkError => k_is)
    (case ty_WalkError => k_is)
    (case ic_WalkError => k_is)
    (case n_NoWords => k_is)
    (case x_NoWords => k_is)
    (case r_NoWords => decide +kernel)
    (case kp_NoWords => k_is)
    (case ex_NoWords => k_is)
    (case ty_NoWords => k_is)
    (case ve_NoWords => k_is)
    (case ic_NoWords => k_is)
    (case n_BadQuestion => k_is)
    (case x_BadQuestion => k_is)
    (case r_BadQuestion => decide +kernel)
    (case kp_BadQuestion => k_is)
    (case ex_BadQuestion => k_is)
    (case ty_BadQuestion => k_is)
    (case ve_BadQuestion => k_is)
    (case ic_BadQuestion => k_is)
    (case ga_BadQuestion => k_is)
    (case gg_BadQuestion => k_is)
    (case hd_BadQuestion => k_is)
    (case su_NoWords => first | k_is | ks_is)
    (case mr_NoWords => k_is)
    (case i_NoWords => k_is)
    (case it_NoWords => k_is)
    (case il_NoWords => k_is)
    (case icd_NoWords => k_is)
    (case co_NoWords => k_is)
    (case cv_NoWords => rfl)
    (case cf_NoWords => decide +kernel)
    (case ce_NoWords => k_is)
    (case se_NoWords => exact ⟨_, fun _ => rfl⟩)
    (case sa_BadQuestion => k_is)
    (case fl_BadQuestion => k_is)
    (case i_BadQuestion => k_is)
    (case it_BadQuestion => k_is)
    (case il_BadQuestion => k_is)
    (case icd_BadQuestion => k_is)
    (case ikp_BadQuestion => k_is)
    (case p_NoWords_NoWords => first | rfl | k_is)
    (case p_BadQuestion_NoWords => first | rfl | k_is)
    (case p_BadQuestion_BadQuestion => first | rfl | k_is)
    (case n_Readings => k_is)
    (case pg_Readings => k_is)
    (case hd_Readings => k_is)
    (case po_Readings => k_is)
    (case sa_Readings => k_is)
    (case mk_Readings => k_is)
    (case kp_Readings => k_is)
    (case n_Question => k_is)
    (case pg_Question => k_is)
    (case hd_Question => k_is)
    (case po_Question => k_is)
    (case sa_Question => k_is)
    (case mk_Question => k_is)
    (case kp_Question => k_is)
    (case na_Readings_rows => k_is)
    (case na_Readings_letters => k_is)
    (case na_Readings_figures => k_is)
    (case na_Readings_ended => k_is)
    (case na_Question_rows => k_is)
    (case na_Question_letters => k_is)
    (case na_Question_table => k_is)
    (case a__law_pool => k_is)
    (case l__law_pool => k_is)
    (case c__law_pool => k_is)
    (case k__law_pool => k_is)
    (case a__law_draw => k_is)
    (case l__law_draw => k_is)
    (case c__law_draw => k_is)
    (case k__law_draw => k_is)
    (case a__law_pick => k_is)
    (case l__law_pick => k_is)
    (case c__law_pick => k_is)
    (case k__law_pick => k_is)
    (case a__law_columns => k_is)
    (case l__law_columns => k_is)
    (case c__law_columns => k_is)
    (case k__law_columns => k_is)
    (case a__law_drawn_table => k_is)
    (case l__law_drawn_table => k_is)
    (case c__law_drawn_table => k_is)
    (case k__law_drawn_table => k_is)
    (case a__law_by_rows => k_is)
    (case l__law_by_rows => k_is)
    (case c__law_by_rows => k_is)
    (case k__law_by_rows => k_is)
    (case a__law_first_signs => k_is)
    (case l__law_first_signs => k_is)
    (case c__law_first_signs => k_is)
    (case k__law_first_signs => k_is)
    (case a__law_compared => k_is)
    (case l__law_compared => k_is)
    (case c__law_compared => k_is)
    (case k__law_compared => k_is)
    (case a__law_spec => k_is)
    (case l__law_spec => k_is)
    (case c__law_spec => k_is)
    (case k__law_spec => k_is)
    (case a_is_integer => k_is)
    (case l_is_integer => k_is)
    (case c_is_integer => k_is)
    (case k_is_integer => k_is)
    (case a_is_between => k_is)
    (case l_is_between => k_is)
    (case c_is_between => k_is)
    (case k_is_between => k_is)
    (case a_Readings_M___init__ => k_is)
    (case isf_Readings_M___init__ => k_is)
    (case l_Readings_M___init__ => k_is)
    (case c_Readings_M___init__ => k_is)
    (case k_Readings_M___init__ => k_is)
    (case a_many_readings => k_is)
    (case l_many_readings => k_is)
    (case c_many_readings => k_is)
    (case k_many_readings => k_is)
    (case a_is_table => k_is)
    (case l_is_table => k_is)
    (case c_is_table => k_is)
    (case k_is_table => k_is)
    (case a_is_tuple_of => k_is)
    (case l_is_tuple_of => k_is)
    (case c_is_tuple_of => k_is)
    (case k_is_tuple_of => k_is)
    (case a_is_way => k_is)
    (case l_is_way => k_is)
    (case c_is_way => k_is)
    (case k_is_way => k_is)
    (case a_is_question_table => k_is)
    (case l_is_question_table => k_is)
    (case c_is_question_table => k_is)
    (case k_is_question_table => k_is)
    (case a_Question_M___init__ => k_is)
    (case isf_Question_M___init__ => k_is)
    (case l_Question_M___init__ => k_is)
    (case c_Question_M___init__ => k_is)
    (case k_Question_M___init__ => k_is)
    (case a__law_question => k_is)
    (case l__law_question => k_is)
    (case c__law_question => k_is)
    (case k__law_question => k_is)
    (case a_is_lettered => k_is)
    (case l_is_lettered => k_is)
    (case c_is_lettered => k_is)
    (case k_is_lettered => k_is)
    (case a_is_words => k_is)
    (case l_is_words => k_is)
    (case c_is_words => k_is)
    (case k_is_words => k_is)
    (case a_need_words => k_is)
    (case l_need_words => k_is)
    (case c_need_words => k_is)
    (case k_need_words => k_is)
    (case a_reading_at => k_is)
    (case l_reading_at => k_is)
    (case c_reading_at => k_is)
    (case k_reading_at => k_is)
    (case a_readings_of => k_is)
    (case l_readings_of => k_is)
    (case c_readings_of => k_is)
    (case k_readings_of => k_is)
    (case a_answer => k_is)
    (case l_answer => k_is)
    (case c_answer => k_is)
    (case k_answer => k_is)
    (case a__law_drawn_words => k_is)
    (case l__law_drawn_words => k_is)
    (case c__law_drawn_words => k_is)
    (case k__law_drawn_words => k_is)
    (case a__law_lead => k_is)
    (case l__law_lead => k_is)
    (case c__law_lead => k_is)
    (case k__law_lead => k_is)
    (case a__law_column_at => k_is)
    (case l__law_column_at => k_is)
    (case c__law_column_at => k_is)
    (case k__law_column_at => k_is)
    (case a__law_answer => k_is)
    (case l__law_answer => k_is)
    (case c__law_answer => k_is)
    (case k__law_answer => k_is)
    (case a_law => k_is)
    (case l_law => k_is)
    (case c_law => k_is)
    (case k_law => k_is)

