import PyProof.Rows.All
import Wide.All
import OpenK.AllK
import Wide.FinOn
import HandS.ForSpec
import HandS.TryMany
import HandS.ExcBuiltin
import KE.KExcSuper
import HandS.ForMost
import HandS.ForExc
import HandS.IsInst
import HandS.StrMore
import HandS.TupAny
import PySem.Challenge.RW_wholewalks_k01_whole_signs_of_contents
set_option Elab.async false
set_option linter.all false
set_option maxRecDepth 100000
set_option maxHeartbeats 4000000
/-! ### an own exception over ValueError whose __init__ takes nothing and says super().__init__() -/
namespace PySem
namespace NoX
open PySem.W PySem.Calls PyProof.Rows PySem.HandSPX
def nA (p : Pos) : Arguments := { posonlyargs := [], args := [{ arg := "self", annotation := none, pos := p }], vararg := none, kwonlyargs := [], kw_defaults := [], kwarg := none, defaults := [] }
def nB (q1 q2 q3 q4 q5 : Pos) : List Stmt := [.Expr (.Call (.Attribute (.Call (.Name "super" q1) [] [] q2) "__init__" q3) [] [] q4) q5]
def nS : Scope := { kind := .function, names := [(PySem.Str.ofString "self", .local), (PySem.Str.ofString "__class__", .free), (PySem.Str.ofString "super", .globalImplicit)], isGenerator := false, isCoroutine := false, more := [] }
/-- super().__init__() is a method's call (at its written places) -/
def SupEq (q1 q2 q3 q4 : Pos) : Prop := ∃ pl : Env → Sem Bool, ∀ env : Env, eval (.Call (.Attribute (.Call (.Name "super" q1) [] [] q2) "__init__" q3) [] [] q4) env = (do
      let ov ← attributeBase (.Call (.Name "super" q1) [] [] q2) "__init__" env (eval (.Call (.Name "super" q1) [] [] q2) env)
      standAt q3.atName
      let (f, first) ← holding [ov] (getMethod ov "__init__" (pl env))
      callWith q4 f first (backTo q4 (starEach [] env)) [])
structure NoTxt (P : Program) (K : Frag) (mg : Str → Option Value) (x : Str) (C : Addr) : Prop where
  gC : mg x = some (.ref C)
  cls : ∃ nm q N bs bm sn sub ab col dd k0 k1 k2 k3 k5, K.lookup C = some (excClassObj nm q C N bs bm true sn sub ab col dd k0 k1 k2 k3 k5 "ValueError.__new__") ∧ refsVE bm = true
  kC : keepIn K (.ref C) = true
  exC : subIn K (.ref C) (.type "BaseException") = some true
  tyC : typeIn K (.ref C) = some (.type "type")
  hm : ks_superIn K C C "__init__" = some (some (.builtin "ValueError.__init__"))
  veC : subIn K (.ref C) (.type "ValueError") = some true
  sub : mroIn K C (.ref C) = some true
  sup : mg "super" = none
  top : (P.main.scope.names.lookup ("super" : Str)).isSome = false
  any : nsIn K cStatics "thirdparty.any" = some none
  fn : ∃ (fI : Addr) (oc : Value) (od : Option Addr) (qn : Str) (kV doc pm : Value) (an : Option Addr) (cda : Addr) (ct : Value) (cc : Addr) (osl : Array (Option Value)) (p0 q1 q2 q3 q4 q5 : Pos),
    findIn K (.ref C) "__init__" = some (some (.ref fI)) ∧ typeIn K (.ref fI) = some (.type "function") ∧
    K.lookup fI = some ⟨oc, od, .func (ksFn "__init__" qn (nA p0) (nB q1 q2 q3 q4 q5) nS .none kV doc pm an (.ref cda) ct cc), osl⟩ ∧ codeIn K (.ref cda) qn = true ∧
    (∃ (ccl : Value) (cdd : Option Addr) (vs : Array Value) (ccs : Array (Option Value)) (file : Str) (tf : Tok), K.lookup cda = some ⟨ccl, cdd, .fields vs, ccs⟩ ∧ vs[2]? = some (.str file tf) ∧ ((P.main.file : Str) == file) = true) ∧
    (∃ (cl : Value) (cld : Option Addr) (csl : Array (Option Value)), K.lookup cc = some ⟨cl, cld, .cell (some (.ref C)), csl⟩) ∧ SupEq q1 q2 q3 q4
section
variable {prog : Program} {w : World} {M : Model} {A : Around} {E : Value → Shared → Prop} {h : Heap} {g : Array GenState} {d : Drawn} {t : Nat} {os : OsState}
variable {nm q : Str} {C N : Addr} {bs bm : List Value} {hdct : Bool} {sn : List Str} {sub : List Value} {ab : Bool} {col : Option Bool} {dd : Option Addr} {k0 k1 k2 k3 k5 : Option Value}
theorem call_bwV {u e t0 : Addr} {Q : Value → Shared → Prop}
    (hC : h.get? C = some (excClassObj nm q C N bs bm hdct sn sub ab col dd k0 k1 k2 k3 k5 "ValueError.__new__")) (he : h.get? e = some (excO C t0)) (hu : h.get? u = some (kxs_mw "ValueError.__init__" e))
    (hq : ∀ h' t1, (∀ b o, b ≠ e → h.get? b = some o → h'.get? b = some o) → h'.get? e = some (excO C t1) → Q .none ⟨h', g, d, t, os⟩) :
    wpAny (model prog w) A (call (.ref u) []) Q E ⟨h, g, d, t, os⟩ := by
  refine wpAny_call (codeAny_of_tree ?_)
  show wpAny _ A.in1 (callAny (.ref u) ⟨[], []⟩) _ _ _
  simp only [callAny]
  refine wpAny_bind (wpAny_load hu ?_)
  simp only [kxs_mw, show (Value.type "method-wrapper" == Value.type "method" || Value.type "method-wrapper" == Value.type "builtin_function_or_method" || Value.type "method-wrapper" == Value.type "method-wrapper") = true by decide, if_true]
  refine W.KFB.if_so (by decide) ?_
  refine wpAny_bind (check_bound_init F.excBase_ValueError.toExcCallFacts hC he rfl ?_)
  refine wpAny_bind (wpAny_pure (wpAny_pure ?_))
  refine ⟨Code.quiet_builtin _ (by decide +kernel), codeAny_builtin F.excBase_ValueError.initEntry ?_⟩
  rw [Around.under_plainId F.excBase_ValueError.init.plain _]
  wp_walk
  refine hq _ h.objs.size (fun b o hb ho => ?_) ?_
  · rw [Heap.get?_update_other _ _ (Ne.symm hb)]
    exact Heap.get?_push_of_some _ ho
  · rw [Heap.get?_update_self _ (Heap.get?_push_of_some _ he) rfl]
    rfl
end
section
variable {prog : Program} {w : World} {A : Around} {E : Value → Shared → Prop} {R : Result → Shared → Prop} {s : Shared} {K : Frag} {mg : Str → Option Value} {base : Heap} {x : Str} {C : Addr}
theorem no_init (T : NoTxt prog K mg x C) (hM : L2.Mod K mg base) (kb : ∀ b o, base.get? b = some o → s.heap.get? b = some o) {fI e t0 : Addr} (hi : findIn K (.ref C) "__init__" = some (some (.ref fI))) (hx : s.heap.get? e = some (excO C t0)) (hroom : A.depth < recursionLimit)
    (hq : ∀ h' tk t1, (∀ b o, b ≠ e → s.heap.get? b = some o → h'.get? b = some o) → h'.get? e = some (excO C t1) → R (.ok (.ret .none)) { s with heap := h', toks := tk }) :
    codeAny (model prog w) A (.call (.ref fI) ⟨[.ref e], []⟩) R s := by
  obtain ⟨nm, q, N, bs, bm, sn, sub, ab, col, dd, k0, k1, k2, k3, k5, hC, hbm⟩ := T.cls
  obtain ⟨fI', oc, od, qn, kV, doc, pm, an, cda, ct, cc, osl, p0, q1, q2, q3, q4, q5, hi', tI, lk, hcd, ⟨ccl, cdd, vs, ccs, file, tf, hcode, hvs, hfile⟩, ⟨cl, cld, csl, hcell⟩, pl, hpl⟩ := T.fn
  have e1 : fI' = fI := by
    rw [hi'] at hi
    injection hi with hi
    injection hi with hi
    injection hi
  subst e1
  have X : K.In s.heap := hM.kin.keeps kb
  have hcl : clsIn K C = some { name := nm, bases := bs, mro := .ref C :: bm, ns := N, qualname := q, hasDict := true, slotNames := sn, subclasses := sub, abstract := ab, collection := col, hasDel := false } := by unfold clsIn; rw [hC] <;> rfl
  refine ks_codeAny_call_defAt (fd := ksFn "__init__" qn (nA p0) (nB q1 q2 q3 q4 q5) nS .none kV doc pm an (.ref cda) ct cc) (body := nB q1 q2 q3 q4 q5) (binds := [("self", .ref e)]) hroom (X _ _ lk) rfl (hM.nolimit.keeps kb) (codeRec_of X hcd) rfl (BindsTo.of_eq rfl) (show ∀ x ∈ nS.names, x.2 ≠ .cell by decide) (locs rfl) (fun h₁ hns hk₁ => ?_) rfl rfl rfl
  have X₁ : K.In h₁ := X.keeps hk₁
  have kb₁ : ∀ b o, base.get? b = some o → h₁.get? b = some o := fun b o z => hk₁ b o (kb b o z)
  have hx₁ := hk₁ _ _ hx
  obtain ⟨oD, hD1, hD2⟩ : ∃ oD, h₁.get? C = some oD ∧ oD.data = .cls { name := nm, bases := bs, mro := .ref C :: bm, ns := N, qualname := q, hasDict := true, slotNames := sn, subclasses := sub, abstract := ab, collection := col, hasDel := false } := ⟨_, X₁ _ _ hC, rfl⟩
  obtain ⟨mb, hb1, hb2⟩ := hM.blt
  have I : InstAt h₁ e (excO C t0) C none := ⟨hx₁, rfl, rfl, trivial⟩
  refine ks_wpAt_execs_cons (ks_wpAt_Expr_any (ks_wpAt_MethodCall ?_ (hpl _)))
  refine ks_wpAt_super_base (env := callEnv (ksFn "__init__" qn (nA p0) (nB q1 q2 q3 q4 q5) nS .none kV doc pm an (.ref cda) ct cc) s.heap.objs.size fI') rfl rfl rfl rfl (X₁ _ _ lk) rfl rfl rfl (X₁ _ _ hcode) rfl hvs hfile T.top ?_
  refine ks_loadName_global rfl rfl (loadGlobal_builtin (hM.glob.keeps kb₁) T.sup (hb1.keeps kb₁) ((hb2 _ (by decide +kernel)).trans (by first | boot_by_name | rfl | kernel_rfl)) ⟨rfl, ?_⟩)
  refine wpAny_loadName_free rfl rfl rfl ⟨_, X₁ _ _ hcell, rfl⟩ ?_
  refine wpAny_loadName_local rfl rfl hns (v := .ref e) rfl ?_
  refine ks_wpAny_isType_cls hD1 hD2 ⟨rfl, ?_⟩
  refine ks_wpAny_call_super hD1 hD2 I.at_ I.cls (fun c z => ?_) (looks_mroIn X₁ T.sub) (fun h₂ e₂ k₂ => ?_)
  · have := I.no
    unfold notCls at this
    rw [z] at this
    exact Bool.noConfusion this
  have X₂ : K.In h₂ := X₁.keeps k₂
  have hx₂ := k₂ _ _ hx₁
  have I₂ : InstAt h₂ e (excO C t0) C none := ⟨hx₂, rfl, rfl, trivial⟩
  have hm := T.hm
  unfold ks_superIn at hm
  rw [hcl] at hm
  refine kxs_getMethod kxs_ValueError e₂ (looks_opaque X₂ T.any) (l₀ := .ref C :: bm) ?_ rfl X₂ hm (I₂.type.andThen (looks_subIn X₂ T.veC)) (ks_ne X₂ I₂ hcl) rfl ?_
  · exact fun A Q E s k q => wpAny_bind ((looks_clsIn X₂ hcl) A _ E s k (wpAny_pure q))
  have k₃ : ∀ b o, h₂.get? b = some o → (h₂.push (kxs_mw "ValueError.__init__" e)).get? b = some o := fun b o z => Heap.get?_push_of_some _ z
  refine kxs_callWith (i := "ValueError.__init__") (x := e) rfl (evalArgs_empty ⟨Heap.get?_push_at rfl rfl, ?_⟩)
  refine call_bwV (k₃ _ _ (X₂ _ _ hC)) (k₃ _ _ hx₂) (Heap.get?_push_at rfl rfl) fun h' t1 k' hx' => ?_
  refine wpAt_of_wpAny (wpAny_execs_nil ?_)
  exact hq h' _ t1 (fun b o hb z => k' b o hb (k₃ b o (k₂ b o (hk₁ b o z)))) hx'
end
end NoX
end PySem

set_option Elab.async false
set_option linter.all false
set_option maxRecDepth 100000
set_option maxHeartbeats 4000000
namespace L2
open PySem PySem.Spec PyProof.Rows
section
variable {X : Cx} {x : Str} {C : Addr}
/-- X() of a class of NoX -/
theorem pmk_no {p pos : Pos} {k : Nat} (T : PySem.NoX.NoTxt X.prog X.K X.mg x C) (hr : Room k X.A) (hg : Gl X x := by rfl) (hd : (x == ("__debug__" : Str)) = false := by decide) :
    PMk X (.Call (.Name x p) [] [] pos) (fun _ H Q => Q (.ref C) none H) := by
  intro pins s σ H Q I h
  obtain ⟨nm, q, N, bs, bm, sn, sub, ab, col, dd, k0, k1, k2, k3, k5, hC, hbm⟩ := T.cls
  obtain ⟨fI, _, _, _, _, _, _, _, _, _, _, _, _, _, _, _, _, _, hi, tI, _⟩ := T.fn
  refine wpAny_Call_Name_kw (ld_glob I hg T.gC ?_ hd)
  refine PySem.W.callWith_K0 I.kIn T.kC ?_
  show wpAny _ _ (call (.ref C) []) _ _ _
  have kb := I.bk
  have X0 := I.kIn
  obtain ⟨hp, g, dr, tk, os⟩ := s
  have kk : ∀ b o, hp.get? b = some o → ((hp.push (PySem.W.kdv_tup [])).push (PySem.HandSPX.excO C hp.objs.size)).get? b = some o := fun b o e => Heap.get?_push_of_some _ (Heap.get?_push_of_some _ e)
  have hget : ((hp.push (PySem.W.kdv_tup [])).push (PySem.HandSPX.excO C hp.objs.size)).get? (hp.objs.size + 1) = some (PySem.HandSPX.excO C hp.objs.size) := by heap_get
  refine wpAny_call (PySem.HandSPX.call_own F.excBase_ValueError (fun Y => PySem.HandSPX.refsVE_contains Y bm hbm) (X0 _ _ hC) (PySem.W.looks_findIn X0 hi) (fun self => PySem.W.bind_fn X0 self tI) (Nat.zero_le _) ?_)
  refine PySem.NoX.no_init (s := ⟨(hp.push (PySem.W.kdv_tup [])).push (PySem.HandSPX.excO C hp.objs.size), g, dr, tk, os⟩) T I.ok.mod (fun b o z => kk b o (kb b o z)) hi hget ?_ fun h' tk' t1 k' hx => ⟨rfl, ?_⟩
  · have := hr.dp
    show X.A.depth + 1 < recursionLimit
    omega
  · obtain ⟨G', g1, g2⟩ := restrict h' fun b => decide (b ≠ hp.objs.size + 1)
    have gk : ∀ b, b ≠ hp.objs.size + 1 → G'.get? b = h'.get? b := fun b hb => g1 b (decide_eq_true hb)
    have ge : G'.get? (hp.objs.size + 1) = none := g2 _ (by simp)
    have old : ∀ b o, hp.get? b = some o → G'.get? b = some o := fun b o z => by
      have hb : b ≠ hp.objs.size + 1 := Nat.ne_of_lt (Nat.lt_succ_of_lt (Heap.lt_size z))
      exact (gk b hb).trans (k' b o hb (kk b o z))
    have J : Inv X pins σ H ⟨G', g, dr, tk', os⟩ := I.kept (t' := tk') old
    refine ⟨hp.objs.size + 1, _, _, ⟨G', g, dr, tk', os⟩, H, .ref C, none, rfl, J, fun b o z => ?_, ge, hx, ⟨rfl, rfl⟩, rfl, rfl, I.hok.fresh (Nat.le_succ _), rfl, I.bare, raises_own T.exC T.tyC, h⟩
    by_cases hb : b = hp.objs.size + 1
    · have z' : G'.get? b = some o := z
      rw [hb, ge] at z'; cases z'
    · exact (gk b hb).symm.trans z
/-- raise X() -/
theorem ps_no {W : WX} {p pos pos' : Pos} {k : Nat} (hc : X.calm = true) (tk : Takes X W) (T : PySem.NoX.NoTxt X.prog X.K X.mg x C) (hr : Room k X.A) (hg : Gl X x := by rfl) (hd : (x == ("__debug__" : Str)) = false := by decide) :
    PS X (.Raise (some (.Call (.Name x p) [] [] pos)) none pos') (fun _ σ H => W (.ref C) none σ H) := ps_raise hc tk (pmk_no T hr hg hd)
end

/-! ### defs, bundled -/
structure DefOk (P : Program) (w : World) (K : PySem.W.Frag) (mg : Str → Option Value) (base : Heap) (x : Str) (k : Nat) (ps : List Str) (sp : Sp) : Prop where
  ex : ∃ (f : Addr) (fd : FuncData), mg x = some (.ref f) ∧ PySem.W.keepIn K (.ref f) = true ∧ Binds K fd ps [] ∧ FnOk P w K mg base (L2.CX P w) k f fd ps sp
theorem pass0S {X : Cx} (σ : St) : PassesAt (L2.CX X.prog X.w) X σ E0 := fun _ _ _ _ _ _ h => by
  obtain ⟨_, _, _, _, _, _, _, _, _, _, _, _, z⟩ := h
  exact z.elim
def tD (sp : Sp) (t : TA) : TE := fun σ H Q => t σ H fun vs H1 => sp vs H1 Q E0
theorem pe_d {X : Cx} {x : Str} {k j : Nat} {ps : List Str} {sp : Sp} {e : Expr} {es : List Expr} {p pos : Pos} {ta : TA} (G : DefOk X.prog X.w X.K X.mg X.base x k ps sp) (hr : Room j X.A) (hg : Gl X x) (ha : PA X (e :: es) ta) (hj : k ≤ j := by decide)
    (hdb : (x == ("__debug__" : Str)) = false := by decide) (he : starEach (e :: es) X.env = (false, eval e X.env) :: starEach es X.env := by rfl) (hpl : (backTo pos (starEach es X.env)).any (·.1) = false := by rfl) :
    PE X (.Call (.Name x p) (e :: es) [] pos) (tD sp ta) := by
  obtain ⟨f, fd, hm, hk, hb, F⟩ := G.ex
  exact pe_callS F (hr.mono hj) hg hm hk hb (fun σ => pass0S σ) ha hdb he hpl
def tDX (sp : Sp) (W : WX) (t : TA) : TE := fun σ H Q => t σ H fun vs H1 => sp vs H1 Q fun cls d H2 => W cls d σ H2
theorem pe_dX {X : Cx} {x : Str} {k j : Nat} {ps : List Str} {sp : Sp} {e : Expr} {es : List Expr} {p pos : Pos} {ta : TA} {W : WX} (tk : Takes X W) (G : DefOk X.prog X.w X.K X.mg X.base x k ps sp) (hr : Room j X.A) (hg : Gl X x) (ha : PA X (e :: es) ta) (hj : k ≤ j := by decide)
    (hdb : (x == ("__debug__" : Str)) = false := by decide) (he : starEach (e :: es) X.env = (false, eval e X.env) :: starEach es X.env := by rfl) (hpl : (backTo pos (starEach es X.env)).any (·.1) = false := by rfl) :
    PE X (.Call (.Name x p) (e :: es) [] pos) (tDX sp W ta) := by
  obtain ⟨f, fd, hm, hk, hb, F⟩ := G.ex
  exact pe_callS F (hr.mono hj) hg hm hk hb (fun σ => passAt tk σ) ha hdb he hpl
/-- from what the head finds of a def -/
theorem defOk_of {P : Program} {w : World} {K : PySem.W.Frag} {mg : Str → Option Value} {base : Heap} {x : Str} {f : Addr} {fd : FuncData} {k : Nat} {ps : List Str} {sp : Sp} (g : mg x = some (.ref f)) (kp : PySem.W.keepIn K (.ref f) = true) (b : Binds K fd ps []) (F : FnOk P w K mg base (L2.CX P w) k f fd ps sp) : DefOk P w K mg base x k ps sp := ⟨f, fd, g, kp, b, F⟩

/-! ### what stays -/
/-- all that was tracked, but at p and g, is as it was -/
def Sb (p g : Addr) (H H' : Hp) : Prop := ∀ b o, H b = some o → b ≠ p → b ≠ g → H' b = some o
theorem Sb.refl {p g : Addr} (H : Hp) : Sb p g H H := fun _ _ h _ _ => h
theorem Sb.trans {p g : Addr} {H H1 H2 : Hp} (a : Sb p g H H1) (b : Sb p g H1 H2) : Sb p g H H2 := fun c o h h1 h2 => b c o (a c o h h1 h2) h1 h2
theorem Same.sb {p g : Addr} {H H' : Hp} (a : Same H H') : Sb p g H H' := fun b o h _ _ => a b o h
theorem Sb.new {p g : Addr} {H : Hp} {a : Addr} {o : HO} (h : H a = none) : Sb p g H (upd H a o) := fun b u e _ _ => by
  rw [upd_ne (ne_of_none e h)]
  exact e
/-- an address that was free ahead of all this may be written -/
theorem Sb.mut {p g : Addr} {H H' : Hp} {a : Addr} {o : HO} (e : Sb p g H H') (h : H a = none) : Sb p g H (upd H' a o) := fun b u z h1 h2 => by
  rw [upd_ne (ne_of_none z h)]
  exact e b u z h1 h2
theorem Same.new {H : Hp} {a : Addr} {o : HO} (h : H a = none) : Same H (upd H a o) := fun b u e => by
  rw [upd_ne (ne_of_none e h)]
  exact e
theorem Same.mut {H H' : Hp} {a : Addr} {o : HO} (e : Same H H') (h : H a = none) : Same H (upd H' a o) := fun b u z => by
  rw [upd_ne (ne_of_none z h)]
  exact e b u z
end L2

set_option Elab.async false
set_option linter.all false
set_option maxRecDepth 100000
set_option maxHeartbeats 4000000
namespace L2
open PySem PySem.Spec PyProof.Rows
/-! ### what the laws draw from -/
def potL (g s : Addr) (t c : Int) : List V := [.ref g, .ref s, .int t, .int c]
structure PotAt (H : Hp) (p g s : Addr) : Prop where
  ex : ∃ (t c : Int) (gs ss : List Int), H p = some (.lst (potL g s t c)) ∧ H g = some (.lst (gs.map V.int)) ∧ H s = some (.lst (ss.map V.int)) ∧ ss ≠ [] ∧ p ≠ g ∧ p ≠ s ∧ g ≠ s ∧ ss.length ≤ 100
theorem PotAt.same {H H' : Hp} {p g s : Addr} (P : PotAt H p g s) (e1 : ∀ o, H p = some o → H' p = some o) (e2 : ∀ o, H g = some o → H' g = some o) (e3 : ∀ o, H s = some o → H' s = some o) : PotAt H' p g s := by
  obtain ⟨t, c, gs, ss, h1, h2, h3, r⟩ := P.ex
  exact ⟨t, c, gs, ss, e1 _ h1, e2 _ h2, e3 _ h3, r⟩
theorem PotAt.keep {H H' : Hp} {p g s : Addr} (P : PotAt H p g s) (e : Same H H') : PotAt H' p g s := P.same (fun _ h => e _ _ h) (fun _ h => e _ _ h) (fun _ h => e _ _ h)
/-- an object that is not the pot's may change -/
theorem PotAt.upd {H : Hp} {p g s a : Addr} {o : HO} (P : PotAt H p g s) (ha : H a = none) : PotAt (upd H a o) p g s := P.keep (Same.new ha)
theorem PotAt.put {H : Hp} {p g s a : Addr} {o : HO} (P : PotAt H p g s) (ha : p ≠ a ∧ g ≠ a ∧ s ≠ a) : PotAt (L2.upd H a o) p g s :=
  P.same (fun _ h => by rw [upd_ne ha.1]; exact h) (fun _ h => by rw [upd_ne ha.2.1]; exact h) (fun _ h => by rw [upd_ne ha.2.2]; exact h)
theorem PotAt.ne {H : Hp} {p g s a : Addr} (P : PotAt H p g s) (ha : H a = none) : p ≠ a ∧ g ≠ a ∧ s ≠ a := by
  obtain ⟨t, c, gs, ss, h1, h2, h3, r⟩ := P.ex
  exact ⟨ne_of_none h1 ha, ne_of_none h2 ha, ne_of_none h3 ha⟩
theorem PotAt.tup {H : Hp} {p g s a : Addr} {xs : List V} (P : PotAt H p g s) (ha : H a = some (.tup xs)) : a ≠ p ∧ a ≠ g := by
  obtain ⟨t, c, gs, ss, h1, h2, h3, r⟩ := P.ex
  exact ⟨ne_of ha h1 (by intro z; cases z), ne_of ha h2 (by intro z; cases z)⟩
theorem Sb.tup {H H' : Hp} {p g s a : Addr} {xs : List V} (e : Sb p g H H') (P : PotAt H p g s) (ha : H a = some (.tup xs)) : H' a = some (.tup xs) := e a _ ha (P.tup ha).1 (P.tup ha).2
/-- what was free behind is free ahead -/
theorem Sb.free {H H' : Hp} {p g s a : Addr} (e : Sb p g H H') (P' : PotAt H' p g s) (h : H' a = none) : H a = none := by
  cases q : H a with
  | none => rfl
  | some o =>
    have := e a o q (P'.ne h).1.symm (P'.ne h).2.1.symm
    rw [h] at this; cases this
theorem pot_set {g s : Addr} {t c t' : Int} : (potL g s t c).set 2 (.int t') = potL g s t' c := rfl
theorem fmod_lt {x m : Int} (h : 0 < m) : 0 ≤ x.fmod m ∧ x.fmod m < m := ⟨Int.fmod_nonneg_of_pos _ h, Int.fmod_lt_of_pos _ h⟩
theorem at_mod {α : Type} {xs : List α} (x : Int) (h : xs ≠ []) : ∃ v, atI xs (x.fmod xs.length) = some v ∧ v ∈ xs := by
  have hl : 0 < xs.length := List.length_pos_iff.mpr h
  obtain ⟨h0, h1⟩ := fmod_lt (x := x) (m := (xs.length : Int)) (by omega)
  obtain ⟨j, hj⟩ : ∃ j : Nat, x.fmod xs.length = (j : Int) := ⟨(x.fmod xs.length).toNat, by omega⟩
  have hj2 : j < xs.length := by omega
  refine ⟨xs[j], ?_, List.getElem_mem hj2⟩
  rw [hj]
  exact atI_nat (List.getElem?_eq_getElem hj2)
theorem at0 {α : Type} {v : α} {r : List α} : atI (v :: r) 0 = some v := atI_nat (xs := v :: r) (j := 0) rfl
theorem ixN0 {n : Nat} (h : 0 < n) : ixN n 0 = some 0 := by
  unfold ixN
  rw [if_pos (by decide), if_pos (by omega)]; rfl
theorem seqIx0 {n : Nat} (h : 0 < n) : seqIndex? 0 n = some 0 := (ixN_seq (ixN0 h)).1
theorem mem_int {ss : List Int} {v : V} (h : v ∈ ss.map V.int) : ∃ z, v = V.int z := by
  obtain ⟨z, _, e⟩ := List.mem_map.mp h
  exact ⟨z, e.symm⟩
/-- the pot is made of the script -/
def spPot (K : PySem.W.Frag) : Sp := fun vs H Q _ => ∃ (a : Addr) (ns : List Int), vs = [.ref a] ∧ SqL K H a (ns.map V.int) ∧ ns.length ≤ 63 ∧ ∀ p g s H', H p = none → H g = none → H s = none → PotAt H' p g s → Same H H' → Q (.ref p) H'
/-- a number is drawn -/
def spDraw : Sp := fun vs H Q _ => ∃ (p g s : Addr) (many : Int), vs = [.ref p, .int many] ∧ PotAt H p g s ∧ 0 < many ∧ many < 1073741824 ∧ ∀ r H', 0 ≤ r → r < many → PotAt H' p g s → Sb p g H H' → Q (.int r) H'
end L2

set_option Elab.async false
set_option linter.all false
set_option maxRecDepth 100000
set_option maxHeartbeats 4000000
namespace L2
open PySem PySem.Spec PyProof.Rows
/-! ### strings stripped -/
theorem str_eq {a b : Str} : a = b ↔ a.cps.toList = b.cps.toList := by
  obtain ⟨a⟩ := a
  obtain ⟨b⟩ := b
  constructor
  · intro h; rw [h]
  · intro h
    have : a = b := Array.toList_inj.mp h
    rw [this]
theorem takeWhile_lt {α : Type} {p : α → Bool} : ∀ {l : List α}, l.all p = false → (l.takeWhile p).length < l.length
  | [], h => by simp at h
  | a :: r, h => by
    cases q : p a with
    | true =>
      rw [List.takeWhile_cons_of_pos q]
      have h' : r.all p = false := by simpa [q] using h
      have := takeWhile_lt h'
      simp only [List.length_cons]
      omega
    | false =>
      rw [List.takeWhile_cons_of_neg (by simp [q])]
      simp
theorem drop_not_all {α : Type} {p : α → Bool} : ∀ {l : List α}, l.all p = false → (l.drop (l.takeWhile p).length).all p = false
  | [], h => by simp at h
  | a :: r, h => by
    cases q : p a with
    | true =>
      rw [List.takeWhile_cons_of_pos q]
      have h' : r.all p = false := by simpa [q] using h
      simpa using drop_not_all h'
    | false =>
      rw [List.takeWhile_cons_of_neg (by simp [q])]
      simpa using h
theorem strip_empty (p : Nat → Bool) (x : Str) : Txt.stripBy p true true x = ("" : Str) ↔ x.cps.toList.all p = true := by
  have e0 : (("" : Str)).cps.toList = [] := by decide +kernel
  constructor
  · intro h
    cases q : x.cps.toList.all p with
    | true => rfl
    | false =>
      exfalso
      unfold Txt.stripBy at h
      have hlo := takeWhile_lt q
      have hd := drop_not_all q
      have hrev : ((x.cps.toList.drop (x.cps.toList.takeWhile p).length).reverse).all p = false := by rw [List.all_reverse]; exact hd
      have hk := takeWhile_lt hrev
      rw [List.length_reverse, List.length_drop] at hk
      split at h
      · rw [h, e0] at q
        simp at q
      · rw [str_eq, e0] at h
        have h2 := congrArg List.length h
        unfold PySem.stripped Builtin.Str.strSub PySem.stripHi PySem.stripLo at h2
        simp only [if_true, Array.toList_extract, List.extract_eq_drop_take, List.length_take, List.length_drop, List.length_nil, Str.length] at h2
        simp only [Array.length_toList] at *
        omega
  · intro h
    unfold Txt.stripBy
    have hlo : x.cps.toList.takeWhile p = x.cps.toList := by
      have key : ∀ l : List Nat, l.all p = true → l.takeWhile p = l := by
        intro l
        induction l with
        | nil => intro _; rfl
        | cons a r ih =>
          intro h
          simp only [List.all_cons, Bool.and_eq_true] at h
          rw [List.takeWhile_cons_of_pos h.1, ih h.2]
      exact key _ h
    split
    · rename_i hs
      unfold PySem.stripSame PySem.stripLo at hs
      simp only [if_true, hlo, Bool.and_eq_true, beq_iff_eq] at hs
      rw [str_eq, e0]
      exact List.length_eq_zero_iff.mp hs.1
    · rw [str_eq, e0]
      unfold PySem.stripped Builtin.Str.strSub PySem.stripHi PySem.stripLo
      simp only [if_true, hlo, Array.toList_extract, List.extract_eq_drop_take, Str.length]
      apply List.length_eq_zero_iff.mp
      simp only [List.length_take, List.length_drop, Array.length_toList]
      omega
end L2

set_option Elab.async false
set_option linter.all false
set_option maxRecDepth 100000
set_option maxHeartbeats 4000000
namespace L2
open PySem PySem.Spec PyProof.Rows
/-! ### what kind a thing is -/
def TyIs (K : PySem.W.Frag) (H : Hp) (x : V) (s : String) (b : Bool) : Prop := ∃ t, TyX K H x (.type t) ∧ kitB t s = some b
section
variable {K : PySem.W.Frag} {H H' : Hp} {s : String} {b : Bool}
theorem tyis_non (h : kitB "NoneType" s = some b := by decide +kernel) : TyIs K H .non s b := ⟨_, .base .non, h⟩
theorem tyis_bl {c : Bool} (h : kitB "bool" s = some b := by decide +kernel) : TyIs K H (.bl c) s b := ⟨_, .base (.bl c), h⟩
theorem tyis_int {i : Int} (h : kitB "int" s = some b := by decide +kernel) : TyIs K H (.int i) s b := ⟨_, .base (.int i), h⟩
theorem tyis_str {x : Str} (h : kitB "str" s = some b := by decide +kernel) : TyIs K H (.str x) s b := ⟨_, .base (.str x), h⟩
theorem tyis_lst {a : Addr} {xs : List V} (e : H a = some (.lst xs)) (h : kitB "list" s = some b := by decide +kernel) : TyIs K H (.ref a) s b := ⟨_, .base (.lst e), h⟩
theorem tyis_tup {a : Addr} {xs : List V} (e : H a = some (.tup xs)) (h : kitB "tuple" s = some b := by decide +kernel) : TyIs K H (.ref a) s b := ⟨_, .base (.tup e), h⟩
theorem tyis_dK {a : Addr} {kvs : List (Key × V)} (e : H a = some (.dK kvs)) (h : kitB "dict" s = some b := by decide +kernel) : TyIs K H (.ref a) s b := ⟨_, .base (.dK e), h⟩
def IntIs (K : PySem.W.Frag) (H : Hp) (x : V) : Option Int → Prop
  | some i => x = .int i
  | none => ∃ b, TyIs K H x "int" b ∧ (b = true → TyIs K H x "bool" true)
def StrIs (K : PySem.W.Frag) (H : Hp) (x : V) : Option Str → Prop
  | some y => x = .str y ∧ y.length ≤ sizeLine
  | none => TyIs K H x "str" false
def TupIs (K : PySem.W.Frag) (H : Hp) (x : V) : Option (List V) → Prop
  | some xs => ∃ a, x = .ref a ∧ H a = some (.tup xs)
  | none => TyIs K H x "tuple" false
end
/-- letters of the first so many alone -/
def lettB (n : Int) (s : Str) : Bool := s.cps.toList.all fun c => decide (97 ≤ c ∧ (c : Int) < 97 + n)
def lettO (n : Int) : Option Str → Bool
  | some s => lettB n s
  | none => false
theorem cut_abc {n : Int} (h0 : 0 ≤ n) (h3 : n ≤ 3) (c : Nat) : (cutS ("abc" : Str) none (some n)).cps.contains c = decide (97 ≤ c ∧ (c : Int) < 97 + n) := by
  have q : n = 0 ∨ n = 1 ∨ n = 2 ∨ n = 3 := by omega
  rcases q with rfl | rfl | rfl | rfl
  · have e : cutS ("abc" : Str) none (some 0) = ⟨#[]⟩ := by decide +kernel
    rw [e]
    have : ¬ (97 ≤ c ∧ (c : Int) < 97 + 0) := by omega
    simp
    omega
  · have e : cutS ("abc" : Str) none (some 1) = ⟨#[97]⟩ := by decide +kernel
    rw [e]
    rw [Bool.eq_iff_iff]
    simp
    omega
  · have e : cutS ("abc" : Str) none (some 2) = ⟨#[97, 98]⟩ := by decide +kernel
    rw [e]
    rw [Bool.eq_iff_iff]
    simp
    omega
  · have e : cutS ("abc" : Str) none (some 3) = ⟨#[97, 98, 99]⟩ := by decide +kernel
    rw [e]
    rw [Bool.eq_iff_iff]
    simp
    omega
theorem strip_abc {n : Int} (h0 : 0 ≤ n) (h3 : n ≤ 3) (s : Str) : decide (V.str (Txt.stripChars s (cutS ("abc" : Str) none (some n))) = V.str "") = lettB n s := by
  unfold Txt.stripChars lettB
  rw [Bool.eq_iff_iff, decide_eq_true_iff]
  rw [show (V.str (Txt.stripBy (cutS ("abc" : Str) none (some n)).cps.contains true true s) = V.str "") ↔ Txt.stripBy (cutS ("abc" : Str) none (some n)).cps.contains true true s = "" from ⟨fun h => V.str.inj h, fun h => by rw [h]⟩]
  rw [strip_empty, List.all_eq_true, List.all_eq_true]
  constructor
  · intro h c hc
    rw [← cut_abc h0 h3]
    exact h c hc
  · intro h c hc
    rw [cut_abc h0 h3]
    exact h c hc
/-- a content's shape: b tells whether it is one of the first n letters -/
def ConIs (K : PySem.W.Frag) (H : Hp) (n : Int) (x : V) (b : Bool) : Prop :=
  ∃ o, TupIs K H x o ∧ match o with
    | none => b = false
    | some [y, z] => ∃ oy oz, StrIs K H y oy ∧ StrIs K H z oz ∧ b = (lettO n oy && lettO n oz)
    | some _ => b = false
/-! ### the sign at a place -/
def signS (h r : Str) (p : Int) : Str :=
  if p < (h.length : Int) then ⟨#[h.cps.toList.getD p.toNat 0]⟩ else if r.length = 0 then "end" else ⟨#[r.cps.toList.getD ((p - (h.length : Int)).fmod (r.length : Int)).toNat 0]⟩

/-! ### error classes by name in except clauses -/
theorem exm_by {K : PySem.W.Frag} {S : Value} {C : Addr} {b : Bool} (h1 : PySem.W.subIn K (.ref C) (.type "BaseException") = some true) (h2 : PySem.W.isClsIn K C = true) (h3 : PySem.W.typeIn K (.ref C) = some (.type "type")) (h4 : PySem.W.subIn K S (.ref C) = some b) :
    PySem.W.exmOne K S (.ref C) = some b := by
  have e1 : (PySem.W.subIn K (.ref C) (.type "BaseException") == some true) = true := by rw [h1] <;> rfl
  have e2 : ((PySem.W.clsIn K C).isSome && PySem.W.typeIn K (.ref C) == some (.type "type")) = true := by
    have h2' : (PySem.W.clsIn K C).isSome = true := h2
    rw [h2', h3] <;> rfl
  show (if (PySem.W.subIn K (.ref C) (.type "BaseException") == some true) = true then (if ((PySem.W.clsIn K C).isSome && PySem.W.typeIn K (.ref C) == some (.type "type")) = true then PySem.W.subIn K S (.ref C) else none) else none) = some b
  rw [if_pos e1, if_pos e2]
  exact h4
end L2

set_option Elab.async false
set_option linter.all false
set_option maxRecDepth 100000
set_option maxHeartbeats 4000000
namespace L2
open PySem PySem.Spec PyProof.Rows
theorem decI {a b : Int} : decide (V.int a = V.int b) = decide (a = b) := by
  rw [dec_int, Bool.eq_iff_iff]
  simp
theorem decS {a b : Str} : decide (V.str a = V.str b) = decide (a = b) := by
  rw [dec_str, Bool.eq_iff_iff]
  simp
theorem getD_app {l r : List Nat} {i : Nat} (h : i < l.length) : (l ++ r).getD i 0 = l.getD i 0 := by
  rw [List.getD_eq_getElem?_getD, List.getD_eq_getElem?_getD, List.getElem?_append_left h]
theorem getD_app2 {l r : List Nat} {i : Nat} (h : l.length ≤ i) : (l ++ r).getD i 0 = r.getD (i - l.length) 0 := by
  rw [List.getD_eq_getElem?_getD, List.getD_eq_getElem?_getD, List.getElem?_append_right h]
theorem at_some {α : Type} {xs : List α} {i : Int} (h0 : 0 ≤ i) (h1 : i < (xs.length : Int)) : ∃ v, atI xs i = some v ∧ v ∈ xs := by
  obtain ⟨j, rfl⟩ : ∃ j : Nat, i = (j : Int) := ⟨i.toNat, by omega⟩
  have hj : j < xs.length := by omega
  exact ⟨xs[j], atI_nat (List.getElem?_eq_getElem hj), List.getElem_mem hj⟩
theorem at_getD {z : Str} {i : Int} (h0 : 0 ≤ i) (h1 : i < (z.length : Int)) : atI z.cps.toList i = some (z.cps.toList.getD i.toNat 0) := by
  obtain ⟨j, rfl⟩ : ∃ j : Nat, i = (j : Int) := ⟨i.toNat, by omega⟩
  have hl : z.length = z.cps.toList.length := by simp [Str.length]
  have hj : j < z.cps.toList.length := by omega
  refine atI_nat ?_
  rw [List.getElem?_eq_getElem hj, Int.toNat_natCast, List.getD_eq_getElem?_getD, List.getElem?_eq_getElem hj]
  rfl
theorem str_len (z : Str) : z.length = z.cps.toList.length := by simp [Str.length]
theorem str_empty {r : Str} : V.str r = V.str "" ↔ r.length = 0 := by
  have e0 : (("" : Str)).cps.toList = [] := by decide +kernel
  constructor
  · intro h
    have := V.str.inj h
    rw [str_len, this, e0]
    rfl
  · intro h
    rw [str_len] at h
    have : r = "" := str_eq.mpr (by rw [e0]; exact List.length_eq_zero_iff.mp h)
    rw [this]
section
variable {X : Cx}
/-- a text times a number -/
theorem op_mulS : OpR X (binaryOp .Mult) (fun x y H Q => ∃ (z : Str) (n : Int), x = .str z ∧ y = .int n ∧ MulOk z n ∧ Q (.str (Txt.mul z n)) H) := by
  intro pins s σ H x y v u Q I rx ry h
  obtain ⟨z, n, rfl, rfl, hz, q⟩ := h
  obtain ⟨t, rfl⟩ := rx
  obtain ⟨t', rfl⟩ := ry
  exact SB.mul hz fun t' k => ⟨.str _, H, I.tok _, ⟨_, rfl⟩, q⟩
end
theorem mulOk_small {z : Str} {n : Int} (h0 : 0 ≤ n) (h1 : n ≤ 1000) (hz : z.length ≤ 10000) : MulOk z n := by
  refine ⟨?_, fun h _ => ?_, fun h _ => ?_⟩
  · rw [Bool.or_eq_false_iff]
    exact ⟨decide_eq_false (by omega), decide_eq_false (by omega)⟩
  · have e : (2 ^ 63 - 1 : Int) = 9223372036854775807 := by decide
    rw [e]
    have hn : 0 < n := by omega
    have : (10000 : Int) ≤ 9223372036854775807 / n := (Int.le_ediv_iff_mul_le hn).mpr (by have : 10000 * n ≤ 10000 * 1000 := Int.mul_le_mul_of_nonneg_left h1 (by decide); omega)
    omega
  · have q : z.length * n.toNat ≤ 10000 * 1000 := Nat.mul_le_mul hz (by omega)
    unfold Builtin.Str.tooLong
    rw [decide_eq_false_iff_not, sizeLine_eq]
    omega
theorem tl_mul (z : Str) {n : Int} (h : 0 ≤ n) : (Txt.mul z n).cps.toList = (List.replicate n.toNat z.cps.toList).flatten := by
  have key : ∀ (k : Nat) (acc : Array Nat), ((List.replicate k z.cps).foldl (· ++ ·) acc).toList = acc.toList ++ (List.replicate k z.cps.toList).flatten := by
    intro k
    induction k with
    | zero => intro acc; simp
    | succ k ih =>
      intro acc
      rw [List.replicate_succ, List.foldl_cons, ih, List.replicate_succ, List.flatten_cons, Array.toList_append, List.append_assoc]
  unfold Txt.mul
  split
  · have : n.toNat = 0 := by omega
    rw [this]; rfl
  split
  · rename_i h1 h2
    rw [Bool.or_eq_true] at h2
    rcases h2 with h2 | h2
    · have : n = 1 := by simpa using h2
      subst this
      simp
    · have : z.length = 0 := by simpa using h2
      rw [str_len] at this
      have e := List.length_eq_zero_iff.mp this
      rw [e]
      simp
  · rw [key]; simp
/-- an item of a list again and again -/
theorem get_rep {l : List Nat} (hl : 0 < l.length) : ∀ (k i : Nat), i < k * l.length → ((List.replicate k l).flatten).getD i 0 = l.getD (i % l.length) 0
  | 0, i, h => by omega
  | k + 1, i, h => by
    rw [List.replicate_succ, List.flatten_cons]
    by_cases hi : i < l.length
    · rw [getD_app hi, Nat.mod_eq_of_lt hi]
    · have hi : l.length ≤ i := by omega
      rw [getD_app2 hi, get_rep hl k (i - l.length) (by rw [Nat.add_mul] at h; omega), Nat.mod_eq_sub_mod hi]
theorem len_rep (l : List Nat) (k : Nat) : ((List.replicate k l).flatten).length = k * l.length := by
  simp
theorem tl_app (a b : Str) : (a ++ b).cps.toList = a.cps.toList ++ b.cps.toList := by
  obtain ⟨a⟩ := a; obtain ⟨b⟩ := b
  show (a ++ b).toList = _
  simp
/-- the head, and the round twelve times -/
theorem sign_whole {u r : Str} {p : Int} {n : Nat} (hp : 0 ≤ p) (h : p < ((u ++ Txt.mul r (n : Int)).length : Int)) : (⟨#[(u ++ Txt.mul r (n : Int)).cps.toList.getD p.toNat 0]⟩ : Str) = signS u r p := by
  rw [str_len, tl_app, List.length_append, tl_mul r (by omega), len_rep, Int.toNat_natCast] at h
  rw [tl_app, tl_mul r (by omega), Int.toNat_natCast]
  unfold signS
  split
  · rename_i h1
    rw [str_len] at h1
    rw [getD_app (by omega)]
  · rename_i h1
    rw [str_len] at h1
    have h1 : u.cps.toList.length ≤ p.toNat := by omega
    have hr : ¬ r.length = 0 := by
      rw [str_len]
      intro z
      rw [z] at h
      omega
    rw [if_neg hr, getD_app2 h1]
    rw [str_len] at hr
    have hr2 : 0 < r.cps.toList.length := by omega
    rw [get_rep hr2 n _ (by omega)]
    have e : ((p - (u.length : Int)).fmod (r.length : Int)).toNat = (p.toNat - u.cps.toList.length) % r.cps.toList.length := by
      rw [str_len, str_len, Int.fmod_eq_emod_of_nonneg _ (by omega)]
      have e2 : p - (u.cps.toList.length : Int) = ((p.toNat - u.cps.toList.length : Nat) : Int) := by omega
      rw [e2]
      omega
    rw [e]
theorem tl_join0 (ys : List Str) : (Txt.join "" ys).cps.toList = (ys.map (·.cps.toList)).flatten := by
  have e0 : TL.tl ("" : Str) = [] := by decide +kernel
  have key : ∀ l : List (List Nat), TL.joinL [] l = l.flatten := by
    intro l
    induction l with
    | nil => rfl
    | cons a r ih =>
      cases r with
      | nil => simp [TL.joinL]
      | cons b q =>
        show a ++ ([] ++ TL.joinL [] (b :: q)) = _
        rw [ih]; simp
  show TL.tl (Txt.join "" ys) = _
  rw [TL.join_eq, TL.tl_join, e0, key]
/-- a right content at an address -/
def ConAt (H : Hp) (x : V) (h r : Str) : Prop := ∃ a, x = .ref a ∧ H a = some (.tup [.str h, .str r]) ∧ h.length ≤ 100000 ∧ r.length ≤ 100000 ∧ lettB 3 h = true ∧ lettB 3 r = true
theorem ConAt.is {K : PySem.W.Frag} {H : Hp} {x : V} {h r : Str} (c : ConAt H x h r) : ConIs K H 3 x true := by
  obtain ⟨a, rfl, ha, h1, h2, h3, h4⟩ := c
  exact ⟨some [.str h, .str r], ⟨a, rfl, ha⟩, some h, some r, ⟨rfl, Nat.le_trans h1 (by decide)⟩, ⟨rfl, Nat.le_trans h2 (by decide)⟩, by show true = (lettB 3 h && lettB 3 r); rw [h3, h4]; rfl⟩
section
variable {X : Cx}
/-- a word between an expression and what comes behind: shown once -/
def tMid (te : TE) : TE := fun σ H Q => ∃ Mid : V → Hp → Prop, te σ H Mid ∧ ∀ v H', Mid v H' → Q v H'
theorem pe_mid {e : Expr} {te : TE} (h : PE X e te) : PE X e (tMid te) := by
  refine ⟨fun pins s σ H Q I hq => ?_⟩
  obtain ⟨Mid, h1, h2⟩ := hq
  exact thn (h.run pins s σ H _ I h1) fun u s1 ⟨v, H', I', r, q⟩ => ⟨v, H', I', r, h2 v H' q⟩
/-- the same for a statement -/
def tMidS (t : TS) : TS := fun D σ H => ∃ Mid : St → Hp → Prop, t { D with nx := Mid } σ H ∧ ∀ σ' H', Mid σ' H' → D.nx σ' H'
theorem ps_mid {st : Stmt} {t : TS} (h : PS X st t) : PS X st (tMidS t) := by
  refine ⟨fun pins s σ H D I hq => ?_⟩
  obtain ⟨Mid, h1, h2⟩ := hq
  refine thn (h.run pins s σ H { D with nx := Mid } I h1) fun f s1 q => ?_
  cases f with
  | next =>
    obtain ⟨σ', H', I', q⟩ := q
    exact ⟨σ', H', I', h2 σ' H' q⟩
  | ret v => exact q
  | brk => exact q
  | cont => exact q
end
theorem signS_end {h r : Str} {p : Int} (h1 : (h.length : Int) ≤ p) (h2 : r.length = 0) : signS h r p = "end" := by
  unfold signS
  rw [if_neg (by omega), if_pos h2]
theorem lett_mono {n m : Int} {s : Str} (h : n ≤ m) (hs : lettB n s = true) : lettB m s = true := by
  unfold lettB at *
  rw [List.all_eq_true] at *
  intro c hc
  have := of_decide_eq_true (hs c hc)
  exact decide_eq_true ⟨this.1, by omega⟩
theorem lett_empty {n : Int} : lettB n "" = true := by
  have e0 : (("" : Str)).cps.toList = [] := by decide +kernel
  unfold lettB
  rw [e0]; rfl
end L2

namespace Law
open PySem PySem.Spec PyProof.Rows L2
def top (i : Nat) : Stmt := PySem.Challenge.pw_wholewalks_k01_whole_signs_of_contents.main.body.getD i (.Pass ⟨0, 0, 0, 0⟩)
/-- where the written classes stand -/
structure Adr where
  NoContent : Addr
  NoPlace : Addr
  none_ : Addr
structure Txt (P : Program) (K : PySem.W.Frag) (mg : Str → Option Value) (a : Adr) : Prop where
  «abs» : mg "abs" = none
  «bool» : mg "bool" = none
  «int» : mg "int" = none
  «isinstance» : mg "isinstance" = none
  «len» : mg "len" = none
  «range» : mg "range" = none
  «str» : mg "str" = none
  «sum» : mg "sum" = none
  «tuple» : mg "tuple" = none
  x_NoContent : PySem.NoX.NoTxt P K mg "NoContent" a.NoContent
  x_NoPlace : PySem.NoX.NoTxt P K mg "NoPlace" a.NoPlace
  e_NoContent_NoContent : PySem.W.exmOne K (.ref a.NoContent) (.ref a.NoContent) = some true
  e_NoPlace_NoContent : PySem.W.exmOne K (.ref a.NoPlace) (.ref a.NoContent) = some false
  e_NoContent_NoPlace : PySem.W.exmOne K (.ref a.NoContent) (.ref a.NoPlace) = some false
  e_NoPlace_NoPlace : PySem.W.exmOne K (.ref a.NoPlace) (.ref a.NoPlace) = some true
  g_LETTERS : ∃ t, mg "LETTERS" = some (.str "abc" t)
abbrev s_is_integer : Stmt := top 6
abbrev s_is_tuple_of : Stmt := top 7
abbrev s_is_lettered : Stmt := top 8
abbrev s_is_content_of : Stmt := top 11
abbrev s_is_content : Stmt := top 10
abbrev s_need_content : Stmt := top 12
abbrev s_sign_at : Stmt := top 14
abbrev s_sign : Stmt := top 13
abbrev s__law_pot : Stmt := top 16
abbrev s__law_draw : Stmt := top 17
abbrev s__law_any : Stmt := top 18
abbrev s__law_string : Stmt := top 19
abbrev s__law_word : Stmt := top 20
abbrev s_law : Stmt := top 21
abbrev N_is_integer : List Str := ["thing"]
abbrev N_is_tuple_of : List Str := ["many", "thing"]
abbrev N_is_lettered : List Str := ["letters", "thing"]
abbrev N_is_content_of : List Str := ["letters", "thing"]
abbrev N_is_content : List Str := ["thing"]
abbrev N_need_content : List Str := ["thing"]
abbrev N_sign_at : List Str := ["content", "place", "head", "ring"]
abbrev N_sign : List Str := ["content", "place"]
abbrev N__law_pot : List Str := ["script", "cells", "greats", "smalls", "item"]
abbrev N__law_draw : List Str := ["pot", "many", "turn", "number", "seed"]
abbrev N__law_any : List Str := ["pot", "items"]
abbrev N__law_string : List Str := ["pot", "letters", "most", "k"]
abbrev N__law_word : List Str := ["content", "place", "word"]
abbrev N_law : List Str := ["script", "pot", "turn", "letters", "content", "head", "again", "whole", "place", "due", "far", "odd", "bad", "words"]
section
variable {P : Program} {w : World} {K : PySem.W.Frag} {mg : Str → Option Value} {base : Heap} {a : Adr}
def spIsInteger (K : PySem.W.Frag) : Sp := fun vs H Q _ => ∃ (x : V) (o : Option Int), vs = [x] ∧ IntIs K H x o ∧ Q (.bl o.isSome) H
theorem sc_is_integer : FnScope N_is_integer ["thing"] (defScope s_is_integer) := ⟨rfl, rfl, rfl, by decide +kernel, rfl, by decide +kernel, by decide +kernel⟩
theorem ok_is_integer {f : Addr} {fd : FuncData} (F : Fun K "is_integer" "is_integer" s_is_integer f fd) (T : Txt P K mg a) : FnOk P w K mg base (L2.CX P w) 1 f fd ["thing"] (spIsInteger K) := by
  have S := sc_is_integer
  refine F.okX S (fun vs H Q E h => ?_) (fun cdv A outer s H vs Q E hr h => ?_)
  · obtain ⟨x, o, rfl, _⟩ := h; rfl
  have hu := hu_of hr
  obtain ⟨x, o, rfl, hI, k⟩ := h
  refine ⟨_, ((pss_one (ps_ret (pe_and (pe_callB call_isi (by rfl) T.isinstance (by decide +kernel) (pa_cons (pv 0) (pa_cons (pe_bltn (v := .ty "int") (by rfl) T.int (by decide +kernel) rfl) pa_nil))) (pe_one (pe_not (pe_callB call_isi (by rfl) T.isinstance (by decide +kernel) (pa_cons (pv 0) (pa_cons (pe_bltn (v := .ty "bool") (by rfl) T.bool (by decide +kernel) rfl) pa_nil))))))))), ?_⟩
  cases o with
  | some i =>
    obtain rfl : x = .int i := hI
    refine ⟨_, rfl, _, _, _, _, true, rfl, .ty _, .base (.int i), kit_ty (by decide +kernel), _, rfl, iteT ?_⟩
    exact ⟨_, rfl, _, _, _, _, false, rfl, .ty _, .base (.int i), kit_ty (by decide +kernel), _, rfl, k⟩
  | none =>
    obtain ⟨b, ⟨t, ty, kt⟩, hb⟩ := hI
    refine ⟨_, rfl, _, _, _, _, b, rfl, .ty _, ty, kit_ty kt, _, rfl, ?_⟩
    cases b with
    | false => exact iteF k
    | true =>
      obtain ⟨t2, ty2, kt2⟩ := hb rfl
      exact iteT ⟨_, rfl, _, _, _, _, true, rfl, .ty _, ty2, kit_ty kt2, _, rfl, k⟩
def tupB (m : Int) : Option (List V) → Bool
  | some xs => decide ((xs.length : Int) = m)
  | none => false
def spIsTupleOf (K : PySem.W.Frag) : Sp := fun vs H Q _ => ∃ (m : Int) (x : V) (o : Option (List V)), vs = [.int m, x] ∧ TupIs K H x o ∧ Q (.bl (tupB m o)) H
theorem sc_is_tuple_of : FnScope N_is_tuple_of ["many", "thing"] (defScope s_is_tuple_of) := ⟨rfl, rfl, rfl, by decide +kernel, rfl, by decide +kernel, by decide +kernel⟩
theorem ok_is_tuple_of {f : Addr} {fd : FuncData} (F : Fun K "is_tuple_of" "is_tuple_of" s_is_tuple_of f fd) (T : Txt P K mg a) : FnOk P w K mg base (L2.CX P w) 1 f fd ["many", "thing"] (spIsTupleOf K) := by
  have S := sc_is_tuple_of
  refine F.okX S (fun vs H Q E h => ?_) (fun cdv A outer s H vs Q E hr h => ?_)
  · obtain ⟨m, x, o, rfl, _⟩ := h; rfl
  have hu := hu_of hr
  obtain ⟨m, x, o, rfl, hI, k⟩ := h
  refine ⟨_, ((pss_one (ps_ret (pe_and (pe_callB call_isi (by rfl) T.isinstance (by decide +kernel) (pa_cons (pv 1) (pa_cons (pe_bltn (v := .ty "tuple") (by rfl) T.tuple (by decide +kernel) rfl) pa_nil))) (pe_one (pe_cmpR op_eq (pe_callB call_len (by rfl) T.len (by decide +kernel) (pa_cons (pv 1) pa_nil)) (pv 0) (nomark _))))))), ?_⟩
  cases o with
  | some xs =>
    obtain ⟨a, rfl, ha⟩ := hI
    refine ⟨_, rfl, _, _, _, _, true, rfl, .ty _, .base (.tup ha), kit_ty (by decide +kernel), _, rfl, iteT ?_⟩
    refine ⟨_, rfl, _, _, rfl, .inr ⟨_, SqT.of ha, rfl⟩, _, rfl, rfl, ?_⟩
    rw [dec_int]
    exact k
  | none =>
    obtain ⟨t, ty, kt⟩ := hI
    exact ⟨_, rfl, _, _, _, _, false, rfl, .ty _, ty, kit_ty kt, _, rfl, iteF k⟩
def spIsLettered (K : PySem.W.Frag) : Sp := fun vs H Q _ => ∃ (n : Int) (x : V) (o : Option Str), vs = [.int n, x] ∧ 0 ≤ n ∧ n ≤ 3 ∧ StrIs K H x o ∧ Q (.bl (lettO n o)) H
theorem sc_is_lettered : FnScope N_is_lettered ["letters", "thing"] (defScope s_is_lettered) := ⟨rfl, rfl, rfl, by decide +kernel, rfl, by decide +kernel, by decide +kernel⟩
theorem ok_is_lettered {f : Addr} {fd : FuncData} (F : Fun K "is_lettered" "is_lettered" s_is_lettered f fd) (T : Txt P K mg a) : FnOk P w K mg base (L2.CX P w) 1 f fd ["letters", "thing"] (spIsLettered K) := by
  have S := sc_is_lettered
  obtain ⟨t_LETTERS, g_LETTERS⟩ := T.g_LETTERS
  refine F.okX S (fun vs H Q E h => ?_) (fun cdv A outer s H vs Q E hr h => ?_)
  · obtain ⟨m, x, o, rfl, _⟩ := h; rfl
  have hu := hu_of hr
  obtain ⟨n, x, o, rfl, h0, h3, hI, k⟩ := h
  refine ⟨_, ((pss_one (ps_ret (pe_and (pe_callB call_isi (by rfl) T.isinstance (by decide +kernel) (pa_cons (pv 1) (pa_cons (pe_bltn (v := .ty "str") (by rfl) T.str (by decide +kernel) rfl) pa_nil))) (pe_one (pe_cmpR op_eq (pe_bm PySem.F.plainAttrs_str PySem.F.slot_str_strip PySem.F.type_str_strip mt_stripChars (pv 1) (pa_cons (pe_slice sl_str (pe_glob (v := .str "abc") rfl g_LETTERS ⟨_, rfl⟩) po_none (po_some (pv 0))) pa_nil)) pe_str (nomark _))))))), ?_⟩
  cases o with
  | some y =>
    obtain ⟨rfl, hy⟩ := hI
    refine ⟨_, rfl, _, _, _, _, true, rfl, .ty _, .base (.str y), kit_ty (by decide +kernel), _, rfl, iteT ?_⟩
    refine ⟨_, rfl, rfl, _, rfl, _, rfl, _, rfl, by decide, _, _, rfl, rfl, hy, rfl, ?_⟩
    rw [strip_abc h0 h3]
    exact k
  | none =>
    obtain ⟨t, ty, kt⟩ := hI
    exact ⟨_, rfl, _, _, _, _, false, rfl, .ty _, ty, kit_ty kt, _, rfl, iteF k⟩
def spIsContentOf (K : PySem.W.Frag) : Sp := fun vs H Q _ => ∃ (n : Int) (x : V) (b : Bool), vs = [.int n, x] ∧ 0 ≤ n ∧ n ≤ 3 ∧ ConIs K H n x b ∧ Q (.bl b) H
theorem sc_is_content_of : FnScope N_is_content_of ["letters", "thing"] (defScope s_is_content_of) := ⟨rfl, rfl, rfl, by decide +kernel, rfl, by decide +kernel, by decide +kernel⟩
theorem ok_is_content_of {f : Addr} {fd : FuncData} (F : Fun K "is_content_of" "is_content_of" s_is_content_of f fd) (T : Txt P K mg a) (G_is_tuple_of : DefOk P w K mg base "is_tuple_of" 1 ["many", "thing"] (spIsTupleOf K)) (G_is_lettered : DefOk P w K mg base "is_lettered" 1 ["letters", "thing"] (spIsLettered K)) : FnOk P w K mg base (L2.CX P w) 2 f fd ["letters", "thing"] (spIsContentOf K) := by
  have S := sc_is_content_of
  refine F.okX S (fun vs H Q E h => ?_) (fun cdv A outer s H vs Q E hr h => ?_)
  · obtain ⟨m, x, o, rfl, _⟩ := h; rfl
  have hu := hu_of hr
  obtain ⟨n, x, b, rfl, h0, h3, ⟨o, hI, ho⟩, k⟩ := h
  refine ⟨_, ((pss_one (ps_ret (pe_and (pe_d G_is_tuple_of hr rfl (pa_cons pe_int (pa_cons (pv 1) pa_nil))) (pe_and (pe_d G_is_lettered hr rfl (pa_cons (pv 0) (pa_cons (pe_ix ix_tup (pv 1) pe_int (fun _ _ => rfl)) pa_nil))) (pe_one (pe_d G_is_lettered hr rfl (pa_cons (pv 0) (pa_cons (pe_ix ix_tup (pv 1) pe_int (fun _ _ => rfl)) pa_nil))))))))), ?_⟩
  refine ⟨_, rfl, 2, x, o, rfl, hI, _, rfl, ?_⟩
  match o, hI, ho with
  | none, hI, ho => exact iteF (by rw [ho] at k; exact k)
  | some [], hI, ho => exact iteF (by rw [ho] at k; exact k)
  | some [y], hI, ho => exact iteF (by rw [ho] at k; exact k)
  | some (_ :: _ :: _ :: r), hI, ho =>
    have e : tupB 2 (some (‹V› :: ‹V› :: ‹V› :: r)) = false := by
      show decide (((r.length + 1 + 1 + 1 : Nat) : Int) = 2) = false
      exact decide_eq_false (by omega)
    refine ite2 (fun hc => ?_) (fun _ => by rw [ho] at k; exact k)
    exact absurd hc (by show ¬ (decide (((r.length + 1 + 1 + 1 : Nat) : Int) = 2) = true); rw [decide_eq_true_iff]; omega)
  | some [y, z], hI, ho =>
    obtain ⟨oy, oz, hy, hz, rfl⟩ := ho
    obtain ⟨a, rfl, ha⟩ := hI
    refine iteT ⟨_, rfl, _, rfl, a, _, _, y, rfl, rfl, SqT.of ha, rfl, n, y, oy, rfl, h0, h3, hy, _, rfl, ?_⟩
    cases e : lettO n oy with
    | false => exact iteF (by rw [e] at k; exact k)
    | true =>
      rw [e] at k
      exact iteT ⟨_, rfl, _, rfl, a, _, _, z, rfl, rfl, SqT.of ha, rfl, n, z, oz, rfl, h0, h3, hz, k⟩
def spIsContent (K : PySem.W.Frag) : Sp := fun vs H Q _ => ∃ (x : V) (b : Bool), vs = [x] ∧ ConIs K H 3 x b ∧ Q (.bl b) H
theorem sc_is_content : FnScope N_is_content ["thing"] (defScope s_is_content) := ⟨rfl, rfl, rfl, by decide +kernel, rfl, by decide +kernel, by decide +kernel⟩
theorem ok_is_content {f : Addr} {fd : FuncData} (F : Fun K "is_content" "is_content" s_is_content f fd) (T : Txt P K mg a) (G_is_content_of : DefOk P w K mg base "is_content_of" 2 ["letters", "thing"] (spIsContentOf K)) : FnOk P w K mg base (L2.CX P w) 3 f fd ["thing"] (spIsContent K) := by
  have S := sc_is_content
  obtain ⟨t_LETTERS, g_LETTERS⟩ := T.g_LETTERS
  refine F.okX S (fun vs H Q E h => ?_) (fun cdv A outer s H vs Q E hr h => ?_)
  · obtain ⟨x, o, rfl, _⟩ := h; rfl
  have hu := hu_of hr
  obtain ⟨x, b, rfl, hI, k⟩ := h
  refine ⟨_, ((pss_one (ps_ret (pe_d G_is_content_of hr rfl (pa_cons (pe_callB call_len_str (by rfl) T.len (by decide +kernel) (pa_cons (pe_glob (v := .str "abc") rfl g_LETTERS ⟨_, rfl⟩) pa_nil)) (pa_cons (pv 0) pa_nil)))))), ?_⟩
  exact ⟨_, rfl, by decide, _, rfl, 3, x, b, rfl, by decide, by decide, hI, k⟩
def spNeedContent (K : PySem.W.Frag) (a : Adr) : Sp := fun vs H Q E => ∃ (x : V) (b : Bool), vs = [x] ∧ ConIs K H 3 x b ∧ (b = true → Q .non H) ∧ (b = false → E (.ref a.NoContent) none H)
theorem sc_need_content : FnScope N_need_content ["thing"] (defScope s_need_content) := ⟨rfl, rfl, rfl, by decide +kernel, rfl, by decide +kernel, by decide +kernel⟩
theorem ok_need_content {f : Addr} {fd : FuncData} (F : Fun K "need_content" "need_content" s_need_content f fd) (T : Txt P K mg a) (G_is_content : DefOk P w K mg base "is_content" 3 ["thing"] (spIsContent K)) : FnOk P w K mg base (L2.CX P w) 4 f fd ["thing"] (spNeedContent K a) := by
  have S := sc_need_content
  refine F.okX S (fun vs H Q E h => ?_) (fun cdv A outer s H vs Q E hr h => ?_)
  · obtain ⟨x, o, rfl, _⟩ := h; rfl
  have hu := hu_of hr
  obtain ⟨x, b, rfl, hI, k1, k2⟩ := h
  refine ⟨_, ((pss_one (ps_if (pt_not (pt_val (pe_d G_is_content hr rfl (pa_cons (pv 0) pa_nil)))) (pss_one (ps_no rfl (takes_of rfl rfl rfl rfl) T.x_NoContent hr)) pss_nil))), ?_⟩
  refine ⟨_, rfl, x, b, rfl, hI, _, rfl, ?_⟩
  cases b with
  | true => exact iteF (k1 rfl)
  | false => exact iteT (k2 rfl)
def spSignAt : Sp := fun vs H Q _ => ∃ (x : V) (h r : Str) (p : Int), vs = [x, .int p] ∧ ConAt H x h r ∧ 0 ≤ p ∧ Q (.str (signS h r p)) H
theorem sc_sign_at : FnScope N_sign_at ["content", "place"] (defScope s_sign_at) := ⟨rfl, rfl, rfl, by decide +kernel, rfl, by decide +kernel, by decide +kernel⟩
theorem ok_sign_at {f : Addr} {fd : FuncData} (F : Fun K "sign_at" "sign_at" s_sign_at f fd) (T : Txt P K mg a) : FnOk P w K mg base (L2.CX P w) 1 f fd ["content", "place"] (spSignAt) := by
  have S := sc_sign_at
  refine F.okX S (fun vs H Q E h => ?_) (fun cdv A outer s H vs Q E hr h => ?_)
  · obtain ⟨x, h', r, p, rfl, _⟩ := h; rfl
  have hu := hu_of hr
  obtain ⟨x, u, r, p, rfl, ⟨a, rfl, ha, hu, hr', _⟩, hp, k⟩ := h
  refine ⟨_, ((pss_cons (ps_asg (pv 0) (pg_tup rfl (pgs_cons (pg_name (i := 2) S.nd rfl (by first | exact Or.inl rfl | exact Or.inr rfl)) (pgs_cons (pg_name (i := 3) S.nd rfl (by first | exact Or.inl rfl | exact Or.inr rfl)) pgs_nil))))
      (pss_cons (ps_if (pt_cmpR op_lt (pv 1) (pe_callB call_len_str (by rfl) T.len (by decide +kernel) (pa_cons (pv 2) pa_nil)) (nomark _)) (pss_one (ps_ret (pe_ix ix_str (pv 2) (pv 1) (fun _ _ => rfl)))) pss_nil)
      (pss_cons (ps_if (pt_cmpR op_eq (pv 3) pe_str (nomark _)) (pss_one (ps_ret pe_str)) pss_nil)
      (pss_one (ps_ret (pe_ix ix_str (pv 3) (pe_op op_modN (pe_op op_sub (pv 1) (pe_callB call_len_str (by rfl) T.len (by decide +kernel) (pa_cons (pv 2) pa_nil))) (pe_callB call_len_str (by rfl) T.len (by decide +kernel) (pa_cons (pv 3) pa_nil))) (fun _ _ => rfl)))))))), ?_⟩
  refine ⟨_, rfl, a, _, rfl, SqT.of ha, rfl, _, _, rfl, _, _, rfl, rfl, ?_⟩
  refine ⟨_, rfl, _, rfl, _, rfl, Nat.le_trans hu (by decide), _, _, rfl, rfl, _, rfl, ?_⟩
  unfold signS at k
  refine ite2 (fun hc => ?_) (fun hc => ?_)
  · have hc : p < (u.length : Int) := of_decide_eq_true hc
    rw [if_pos hc] at k
    exact ⟨_, rfl, _, rfl, _, _, _, rfl, rfl, Nat.le_trans hu (by decide), at_getD hp hc, k⟩
  · have hc : ¬ p < (u.length : Int) := by simpa using hc
    rw [if_neg hc] at k
    refine ⟨_, rfl, rfl, _, rfl, ?_⟩
    refine ite2 (fun hd => ?_) (fun hd => ?_)
    · rw [if_pos (str_empty.mp (of_decide_eq_true hd))] at k
      exact k
    · have hd : ¬ r.length = 0 := fun z => hd (decide_eq_true (str_empty.mpr z))
      rw [if_neg hd] at k
      have q := fmod_lt (x := p - (u.length : Int)) (m := (r.length : Int)) (by omega)
      exact ⟨_, rfl, _, rfl, _, rfl, _, rfl, Nat.le_trans hu (by decide), _, _, rfl, rfl, _, rfl, _, rfl, Nat.le_trans hr' (by decide), _, _, rfl, rfl, (by show (r.length : Int) ≠ 0; omega), _, _, _, rfl, rfl, Nat.le_trans hr' (by decide), at_getD q.1 q.2, k⟩
def spSign (K : PySem.W.Frag) (a : Adr) : Sp := fun vs H Q E => ∃ (x y : V) (b : Bool) (o : Option Int), vs = [x, y] ∧ ConIs K H 3 x b ∧ IntIs K H y o ∧ (b = false → E (.ref a.NoContent) none H) ∧
  (b = true → match o with
    | none => E (.ref a.NoPlace) none H
    | some p => (p < 0 → E (.ref a.NoPlace) none H) ∧ (0 ≤ p → ∃ h r, ConAt H x h r ∧ Q (.str (signS h r p)) H))
theorem sc_sign : FnScope N_sign ["content", "place"] (defScope s_sign) := ⟨rfl, rfl, rfl, by decide +kernel, rfl, by decide +kernel, by decide +kernel⟩
theorem ok_sign {f : Addr} {fd : FuncData} (F : Fun K "sign" "sign" s_sign f fd) (T : Txt P K mg a) (G_need_content : DefOk P w K mg base "need_content" 4 ["thing"] (spNeedContent K a)) (G_sign_at : DefOk P w K mg base "sign_at" 1 ["content", "place"] (spSignAt)) (G_is_integer : DefOk P w K mg base "is_integer" 1 ["thing"] (spIsInteger K)) : FnOk P w K mg base (L2.CX P w) 5 f fd ["content", "place"] (spSign K a) := by
  have S := sc_sign
  refine F.okX S (fun vs H Q E h => ?_) (fun cdv A outer s H vs Q E hr h => ?_)
  · obtain ⟨x, y, b, o, rfl, _⟩ := h; rfl
  have hu := hu_of hr
  obtain ⟨x, y, b, o, rfl, hI, hO, k1, k2⟩ := h
  refine ⟨_, ((pss_cons (ps_expr (pe_dX (takes_of rfl rfl rfl rfl) G_need_content hr rfl (pa_cons (pv 0) pa_nil)))
      (pss_cons (ps_if (PW.pt (pw_or (pt_not (pt_val (pe_d G_is_integer hr rfl (pa_cons (pv 1) pa_nil)))) (pw_or1 (pt_cmpR op_lt (pv 1) pe_int (nomark _))))) (pss_one (ps_no rfl (takes_of rfl rfl rfl rfl) T.x_NoPlace hr)) pss_nil)
      (pss_one (ps_ret (pe_d G_sign_at hr rfl (pa_cons (pv 0) (pa_cons (pv 1) pa_nil)))))))), ?_⟩
  refine ⟨_, rfl, x, b, rfl, hI, fun hb => ?_, k1⟩
  have k3 := k2 hb
  match o, hO, k3 with
  | none, hO, k3 => exact ⟨_, rfl, y, none, rfl, hO, _, rfl, iteT (iteT k3)⟩
  | some p, hO, k3 =>
    obtain rfl : y = .int p := hO
    refine ⟨_, rfl, .int p, some p, rfl, rfl, _, rfl, iteF ⟨_, rfl, _, _, rfl, rfl, _, rfl, ?_⟩⟩
    refine ite2 (fun hp => k3.1 (of_decide_eq_true hp)) (fun hp => ?_)
    have hp : 0 ≤ p := by simpa using hp
    obtain ⟨h, r, hc, q⟩ := k3.2 hp
    exact ⟨_, rfl, _, rfl, x, h, r, p, rfl, hc, hp, q⟩
theorem sc__law_pot : FnScope N__law_pot ["script"] (defScope s__law_pot) := ⟨rfl, rfl, rfl, by decide +kernel, rfl, by decide +kernel, by decide +kernel⟩
theorem ok__law_pot {f : Addr} {fd : FuncData} (F : Fun K "_law_pot" "_law_pot" s__law_pot f fd) (T : Txt P K mg a) : FnOk P w K mg base (L2.CX P w) 1 f fd ["script"] (spPot K) := by
  have S := sc__law_pot
  refine F.okX S (fun vs H Q E h => ?_) (fun cdv A outer s H vs Q E hr h => ?_)
  · obtain ⟨a, ns, rfl, _⟩ := h; rfl
  have hu := hu_of hr
  obtain ⟨ad, ns, rfl, hS, hl, k⟩ := h
  refine ⟨_, ((pss_cons (ps_setLc (i := 1) (own := [("item", 4)]) (g := gName 4) rfl S.nd rfl rfl (sw_true rfl rfl rfl (by decide +kernel)) (pi_list (pe_slice sl_list (pv 0) po_none (po_some pe_int))) (blkOk_by (own := [("item", 4)]) (N := N__law_pot) (sc := defScope s__law_pot) (by decide +kernel)) (fun _ _ _ _ _ => (pg_name (i := 4) S.nd rfl (by first | exact Or.inl rfl | exact Or.inr rfl))) (fun _ _ _ _ _ => pts_nil) (fun _ _ _ _ _ => (pe_callTy call_int1 (by rfl) T.int (by decide +kernel) (pa_cons (pv 4) pa_nil))))
      (pss_cons (ps_setLc (i := 2) (own := [("item", 4)]) (g := gName 4) rfl S.nd rfl rfl (sw_true rfl rfl rfl (by decide +kernel)) (pi_list (pv 1)) (blkOk_by (own := [("item", 4)]) (N := N__law_pot) (sc := defScope s__law_pot) (by decide +kernel)) (fun _ _ _ _ _ => (pg_name (i := 4) S.nd rfl (by first | exact Or.inl rfl | exact Or.inr rfl))) (fun _ _ _ _ _ => (pts_one (pt_cmpR op_ge (pe_callB call_abs (by rfl) T.abs (by decide +kernel) (pa_cons (pv 4) pa_nil)) (pe_op op_pow pe_int pe_int) (nomark _)))) (fun _ _ _ _ _ => (pe_callB call_abs (by rfl) T.abs (by decide +kernel) (pa_cons (pv 4) pa_nil))))
      (pss_cons (ps_set (i := 3) S.nd rfl (Or.inl rfl) (pe_op op_cat (pe_lc (own := [("item", 4)]) (g := gName 4) rfl S.nd (pi_list (pv 1)) (blkOk_by (own := [("item", 4)]) (N := N__law_pot) (sc := defScope s__law_pot) (by decide +kernel)) (fun _ _ _ _ _ => (pg_name (i := 4) S.nd rfl (by first | exact Or.inl rfl | exact Or.inr rfl))) (fun _ _ _ _ _ => (pts_one (pt_cmpR op_lt (pe_callB call_abs (by rfl) T.abs (by decide +kernel) (pa_cons (pv 4) pa_nil)) (pe_op op_pow pe_int pe_int) (nomark _)))) (fun _ _ _ _ _ => (pe_op op_modN (pe_callTy call_int1 (by rfl) T.int (by decide +kernel) (pa_cons (pv 4) pa_nil)) pe_int))) (pe_lst (pa_cons (pe_op op_add (pe_callB call_len_seq (by rfl) T.len (by decide +kernel) (pa_cons (pv 1) pa_nil)) pe_int) pa_nil))))
      (pss_one (ps_ret (pe_lst (pa_cons (pv 2) (pa_cons (pv 3) (pa_cons pe_int (pa_cons (pe_op op_modN (pe_callTy call_int1 (by rfl) T.int (by decide +kernel) (pa_cons (pe_callB (cr_sum rfl) (by rfl) T.sum (by decide +kernel) (pa_cons (pv 3) pa_nil)) pa_nil)) pe_int) pa_nil))))))))))), ?_⟩
  -- cells
  refine ⟨_, rfl, _, rfl, ad, _, rfl, hS, fun p1 n1 => ⟨p1, rfl, ⟨_, SqL.of upd_same⟩, fun D nD => ?_⟩⟩
  have cv : cutV (ns.map V.int) none (some 63) = ns.map V.int := by
    unfold cutV
    rw [HT.sIx_none, show (63 : Int) = ((63 : Nat) : Int) from rfl, HT.sIx_nat, List.length_map, List.drop_zero, Nat.min_eq_right hl, Nat.sub_zero]
    exact List.take_of_length_le (by rw [List.length_map]; exact Nat.le_refl _)
  rw [cv] at nD ⊢
  have s1 : Same H (upd H p1 (.lst (ns.map V.int))) := Same.new n1
  refine lc_list (xs := ns.map V.int) (fun i H' => Same (upd H p1 (.lst (ns.map V.int))) H' ∧ ∃ ms : List Int, ms.length = i ∧ H' D = some (.lst (ms.map V.int))) ⟨Same.new nD, [], rfl, upd_same⟩ (fun i H' _ q => SqL.of (q.1 _ _ upd_same)) ?_ ?_
  · rintro i x H' hi ⟨e1, ms, hm, hD⟩
    obtain ⟨z, rfl⟩ := mem_int (List.mem_of_getElem? hi)
    have hi2 := (List.getElem?_eq_some_iff.mp hi).1
    rw [List.length_map] at hi2
    refine ⟨rfl, _, rfl, .inl ⟨_, rfl, _, hD, ?_, e1.mut nD, ms ++ [z], by simp [hm], ?_⟩⟩
    · rw [List.length_map]; exact small1000 (by omega)
    · rw [upd_same, List.map_append]; rfl
  rintro H2 ⟨e2, cells, hc, hD2⟩
  rw [List.length_map] at hc
  have hcl : cells.length ≤ 63 := by omega
  -- greats
  refine ⟨_, rfl, D, rfl, ⟨_, SqL.of hD2⟩, fun D3 nD3 => ?_⟩
  refine lc_list (xs := cells.map V.int) (fun i H' => Same H2 H' ∧ ∃ ms : List Int, ms.length ≤ i ∧ H' D3 = some (.lst (ms.map V.int))) ⟨Same.new nD3, [], Nat.le_refl _, upd_same⟩ (fun i H' _ q => SqL.of (q.1 _ _ hD2)) ?_ ?_
  · rintro i x H' hi ⟨e3, ms, hm, hD⟩
    obtain ⟨z, rfl⟩ := mem_int (List.mem_of_getElem? hi)
    have hi2 := (List.getElem?_eq_some_iff.mp hi).1
    rw [List.length_map] at hi2
    refine ⟨rfl, _, rfl, _, rfl, _, _, rfl, rfl, ⟨by decide, by decide, by decide⟩, _, _, rfl, rfl, _, rfl, ?_⟩
    refine ite2 (fun _ => ?_) (fun _ => ⟨e3, ms, by omega, hD⟩)
    refine ⟨_, rfl, _, rfl, _, hD, ?_, e3.mut nD3, ms ++ [if z < 0 then -z else z], by simp; omega, ?_⟩
    · rw [List.length_map]; exact small1000 (by omega)
    · rw [upd_same, List.map_append]; rfl
  rintro H3 ⟨e3, gs, hg, hD3⟩
  rw [List.length_map] at hg
  -- smalls
  refine ⟨_, rfl, D, rfl, ⟨_, SqL.of (e3 _ _ hD2)⟩, fun D4 nD4 => ?_⟩
  refine lc_list (xs := cells.map V.int) (fun i H' => Same H3 H' ∧ ∃ ms : List Int, ms.length ≤ i ∧ H' D4 = some (.lst (ms.map V.int))) ⟨Same.new nD4, [], Nat.le_refl _, upd_same⟩ (fun i H' _ q => SqL.of (q.1 _ _ (e3 _ _ hD2))) ?_ ?_
  · rintro i x H' hi ⟨e4, ms, hm, hD⟩
    obtain ⟨z, rfl⟩ := mem_int (List.mem_of_getElem? hi)
    have hi2 := (List.getElem?_eq_some_iff.mp hi).1
    rw [List.length_map] at hi2
    refine ⟨rfl, _, rfl, _, rfl, _, _, rfl, rfl, ⟨by decide, by decide, by decide⟩, _, _, rfl, rfl, _, rfl, ?_⟩
    refine ite2 (fun _ => ?_) (fun _ => ⟨e4, ms, by omega, hD⟩)
    refine ⟨_, rfl, .inl ⟨_, rfl, _, _, rfl, rfl, (by show (1000000007 : Int) ≠ 0; decide), _, hD, ?_, e4.mut nD4, ms ++ [z.fmod 1000000007], by simp; omega, ?_⟩⟩
    · rw [List.length_map]; exact small1000 (by omega)
    · rw [upd_same, List.map_append]; rfl
  rintro H4 ⟨e4, ss, hs, hD4⟩
  rw [List.length_map] at hs
  refine ⟨_, rfl, _, _, rfl, .inl (SqL.of (e4 _ _ (e3 _ _ hD2))), _, _, rfl, rfl, (by show 1 ≤ sizeLine; decide), fun D5 nD5 => ?_⟩
  have d45 : D4 ≠ D5 := ne_of_none hD4 nD5
  refine ⟨D4, D5, _, _, rfl, rfl, (by rw [upd_ne d45]; exact hD4), upd_same, ?_, fun D6 nD6 => ?_⟩
  · rw [List.length_map]; show _ + 1 ≤ _; exact Nat.le_trans (by omega : _ ≤ 100) (by decide)
  have e5 : Same H4 (upd H4 D5 (.lst [V.int (((cells.map V.int).length : Int) + 1)])) := Same.new nD5
  have eqs : ss.map V.int ++ [V.int (((cells.map V.int).length : Int) + 1)] = (ss ++ [((cells.map V.int).length : Int) + 1]).map V.int := by rw [List.map_append]; rfl
  rw [eqs]
  have e6 : Same (upd H4 D5 (.lst [V.int (((cells.map V.int).length : Int) + 1)])) (upd (upd H4 D5 (.lst [V.int (((cells.map V.int).length : Int) + 1)])) D6 (.lst ((ss ++ [((cells.map V.int).length : Int) + 1]).map V.int))) := Same.new nD6
  have all : Same H3 (upd (upd H4 D5 (.lst [V.int (((cells.map V.int).length : Int) + 1)])) D6 (.lst ((ss ++ [((cells.map V.int).length : Int) + 1]).map V.int))) := (e4.trans e5).trans e6
  refine ⟨_, rfl, _, rfl, _, rfl, D6, _, rfl, SqL.of upd_same, .inl ⟨_, rfl, _, _, rfl, rfl, (by show (999983 : Int) ≠ 0; decide), (by show 4 ≤ sizeLine; decide), fun P nP => ?_⟩⟩
  have g3 : D3 ≠ D6 := ne_of_none (e5 _ _ (e4 _ _ hD3)) nD6
  have p6 : P ≠ D6 := (ne_of_none upd_same nP).symm
  have p3 : P ≠ D3 := (ne_of_none (all _ _ hD3) nP).symm
  have a0 : Same H H3 := (s1.trans e2).trans e3
  have a1 : Same H (upd (upd H4 D5 (.lst [V.int (((cells.map V.int).length : Int) + 1)])) D6 (.lst ((ss ++ [((cells.map V.int).length : Int) + 1]).map V.int))) := a0.trans all
  refine k P D3 D6 _ (a1.free nP) ((s1.trans e2).free nD3) ((a0.trans (e4.trans e5)).free nD6) ⟨0, _, gs, ss ++ [((cells.map V.int).length : Int) + 1], upd_same, ?_, ?_, by simp, p3, p6, g3, by simp; omega⟩ (a1.trans (Same.new nP))
  · rw [upd_ne p3.symm]; exact all _ _ hD3
  · rw [upd_ne p6.symm]; exact upd_same
theorem sc__law_draw : FnScope N__law_draw ["pot", "many"] (defScope s__law_draw) := ⟨rfl, rfl, rfl, by decide +kernel, rfl, by decide +kernel, by decide +kernel⟩
theorem ok__law_draw {f : Addr} {fd : FuncData} (F : Fun K "_law_draw" "_law_draw" s__law_draw f fd) (T : Txt P K mg a) : FnOk P w K mg base (L2.CX P w) 1 f fd ["pot", "many"] (spDraw) := by
  have S := sc__law_draw
  refine F.okX S (fun vs H Q E h => ?_) (fun cdv A outer s H vs Q E hr h => ?_)
  · obtain ⟨p, g, sa, m, rfl, _⟩ := h; rfl
  have hu := hu_of hr
  obtain ⟨p, g, sa, m, rfl, PA0, hm0, hm1, k⟩ := h
  obtain ⟨t, c, gs, ss, h1, h2, h3, hne, npg, nps, ngs, hss⟩ := PA0.ex
  refine ⟨_, ((pss_cons (ps_set (i := 2) S.nd rfl (Or.inl rfl) (pe_ix ix_list (pv 0) pe_int (fun _ _ => rfl)))
      (pss_cons (ps_asg (pe_op op_add (pv 2) pe_int) (pg_sub (pv 0) pe_int set_list))
      (pss_cons (ps_if (pt_cmpR op_gt (pe_callB call_len_seq (by rfl) T.len (by decide +kernel) (pa_cons (pe_ix ix_list (pv 0) pe_int (fun _ _ => rfl)) pa_nil)) pe_int (nomark _)) (pss_cons (ps_set (i := 3) S.nd rfl (Or.inl rfl) (pe_ix ix_list (pe_ix ix_list (pv 0) pe_int (fun _ _ => rfl)) pe_int (fun _ _ => rfl)))
          (pss_cons (ps_asg (pe_op op_fdivN (pv 3) (pv 1)) (pg_sub (pe_ix ix_list (pv 0) pe_int (fun _ _ => rfl)) pe_int set_list))
          (pss_cons (ps_if (pt_cmpR op_lt (pv 3) (pv 1) (nomark _)) (pss_one (ps_expr (pe_bm PySem.F.plainAttrs_list PySem.F.slot_list_pop PySem.F.type_list_pop mt_popAt (pe_ix ix_list (pv 0) pe_int (fun _ _ => rfl)) (pa_cons pe_int pa_nil)))) pss_nil)
          (pss_one (ps_ret (pe_op op_modN (pe_callTy call_int1 (by rfl) T.int (by decide +kernel) (pa_cons (pv 3) pa_nil)) (pv 1))))))) pss_nil)
      (pss_cons (ps_set (i := 4) S.nd rfl (Or.inl rfl) (pe_op op_add (pe_op op_add (pe_op op_mul (pe_ix ix_list (pe_ix ix_list (pv 0) pe_int (fun _ _ => rfl)) (pe_op op_modN (pe_callTy call_int1 (by rfl) T.int (by decide +kernel) (pa_cons (pv 2) pa_nil)) (pe_callB call_len_seq (by rfl) T.len (by decide +kernel) (pa_cons (pe_ix ix_list (pv 0) pe_int (fun _ _ => rfl)) pa_nil))) (fun _ _ => rfl)) pe_int) (pe_op op_mul pe_int (pv 2))) (pe_op op_mul (pe_ix ix_list (pv 0) pe_int (fun _ _ => rfl)) pe_int)))
      (pss_cons (ps_set (i := 3) S.nd rfl (Or.inl rfl) (pe_op op_modN (pe_callTy call_int1 (by rfl) T.int (by decide +kernel) (pa_cons (pe_op op_add (pe_op op_mul (pv 4) pe_int) pe_int) pa_nil)) pe_int))
      (pss_cons (ps_set (i := 3) S.nd rfl (Or.inl rfl) (pe_op op_modN (pe_callTy call_int1 (by rfl) T.int (by decide +kernel) (pa_cons (pe_op op_mul (pv 3) (pe_op op_add (pe_op op_fdivN (pv 3) pe_int) pe_int)) pa_nil)) pe_int))
      (pss_cons (ps_set (i := 3) S.nd rfl (Or.inl rfl) (pe_op op_modN (pe_callTy call_int1 (by rfl) T.int (by decide +kernel) (pa_cons (pe_op op_add (pe_op op_mul (pv 3) (pe_op op_add (pe_op op_fdivN (pv 3) pe_int) pe_int)) (pv 2)) pa_nil)) pe_int))
      (pss_one (ps_ret (pe_op op_modN (pe_callTy call_int1 (by rfl) T.int (by decide +kernel) (pa_cons (pe_op op_fdivN (pv 3) pe_int) pa_nil)) (pv 1)))))))))))), ?_⟩
  -- turn = pot[2]; pot[2] = turn + 1
  refine ⟨_, rfl, p, _, _, _, rfl, rfl, SqL.of h1, rfl, ?_⟩
  refine ⟨_, rfl, _, _, rfl, rfl, _, rfl, p, _, _, 2, rfl, rfl, h1, rfl, ?_⟩
  rw [pot_set]
  have e1 : ∀ (o : HO), (upd H p o) g = some (.lst (gs.map V.int)) := fun o => by rw [upd_ne npg.symm]; exact h2
  have e2 : ∀ (o : HO), (upd H p o) sa = some (.lst (ss.map V.int)) := fun o => by rw [upd_ne nps.symm]; exact h3
  -- if len(pot[0]) > 0
  refine ⟨_, rfl, p, _, _, _, rfl, rfl, SqL.of upd_same, rfl, g, _, rfl, .inl (SqL.of (e1 _)), _, _, rfl, rfl, _, rfl, ?_⟩
  refine ite2 (fun hc => ?_) (fun hc => ?_)
  · have hc : (0 : Int) < ((gs.map V.int).length : Int) := of_decide_eq_true hc
    obtain ⟨n, gr, rfl⟩ : ∃ n gr, gs = n :: gr := by
      cases gs with
      | nil => simp at hc
      | cons n gr => exact ⟨n, gr, rfl⟩
    refine ⟨_, rfl, p, _, _, _, rfl, rfl, SqL.of upd_same, rfl, g, _, _, _, rfl, rfl, SqL.of (e1 _), at0, ?_⟩
    refine ⟨_, rfl, _, rfl, _, _, rfl, rfl, ⟨by omega, by omega⟩, _, rfl, p, _, _, _, rfl, rfl, SqL.of upd_same, rfl, g, _, _, 0, rfl, rfl, e1 _, ixN0 (by simp), ?_⟩
    refine ⟨_, rfl, _, rfl, _, _, rfl, rfl, _, rfl, ?_⟩
    have e3 : ∀ (o o' : HO), (upd (upd H p o) g o') p = some o := fun o o' => by rw [upd_ne npg, upd_same]
    have e4 : ∀ (o o' : HO), (upd (upd H p o) g o') sa = some (.lst (ss.map V.int)) := fun o o' => by rw [upd_ne ngs.symm]; exact e2 _
    obtain ⟨m0, m1⟩ := fmod_lt (x := n) hm0
    refine ite2 (fun hd => ?_) (fun hd => ?_)
    · refine ⟨_, rfl, p, _, _, _, rfl, rfl, SqL.of (e3 _ _), rfl, .inl ⟨rfl, _, SqL.of upd_same⟩, g, _, _, 0, _, rfl, rfl, upd_same, by decide, by decide, seqIx0 (by simp), rfl, ?_⟩
      refine ⟨_, rfl, .inl ⟨_, rfl, _, rfl, _, _, rfl, rfl, by omega, ?_⟩⟩
      refine k _ _ m0 m1 ⟨t + 1, c, gr, ss, ?_, ?_, ?_, hne, npg, nps, ngs, hss⟩ fun b o hb b1 b2 => ?_
      · rw [upd_ne npg, e3]
      · rw [upd_same]; rfl
      · rw [upd_ne ngs.symm]; exact e4 _ _
      · rw [upd_ne b2, upd_ne b2, upd_ne b1]; exact hb
    · refine ⟨_, rfl, .inl ⟨_, rfl, _, rfl, _, _, rfl, rfl, by omega, ?_⟩⟩
      refine k _ _ m0 m1 ⟨t + 1, c, (n.fdiv m) :: gr, ss, e3 _ _, ?_, e4 _ _, hne, npg, nps, ngs, hss⟩ fun b o hb b1 b2 => ?_
      · rw [upd_same]; rfl
      · rw [upd_ne b2, upd_ne b1]; exact hb
  · -- the reckoned ones
    obtain ⟨v, hv, hvm⟩ := at_mod t (xs := ss.map V.int) (by simpa using hne)
    obtain ⟨z, rfl⟩ := mem_int hvm
    refine ⟨_, rfl, p, _, _, _, rfl, rfl, SqL.of upd_same, rfl, _, rfl, .inl ⟨_, rfl, _, rfl, p, _, _, _, rfl, rfl, SqL.of upd_same, rfl, sa, _, rfl, .inl (SqL.of (e2 _)), _, _, rfl, rfl, ?_, sa, _, _, _, rfl, rfl, SqL.of (e2 _), hv, ?_⟩⟩
    · simpa using hne
    refine ⟨_, _, rfl, rfl, .inr ⟨by decide, by decide⟩, _, rfl, _, _, rfl, rfl, .inl ⟨by decide, by decide⟩, _, _, rfl, rfl, _, rfl, p, _, _, _, rfl, rfl, SqL.of upd_same, rfl, _, _, rfl, rfl, .inr ⟨by decide, by decide⟩, _, _, rfl, rfl, ?_⟩
    have q1 := fmod_lt (x := (z * 7919 + 104729 * t + c * 31) * 48271 + 11) (m := 2147483647) (by decide)
    have q2 := fmod_lt (x := ((z * 7919 + 104729 * t + c * 31) * 48271 + 11).fmod 2147483647 * ((((z * 7919 + 104729 * t + c * 31) * 48271 + 11).fmod 2147483647).fdiv 1009 + 69621)) (m := 2147483629) (by decide)
    refine ⟨_, rfl, _, _, rfl, rfl, .inr ⟨by decide, by decide⟩, _, _, rfl, rfl, .inl ⟨_, rfl, _, _, rfl, rfl, (by show (2147483647 : Int) ≠ 0; decide), ?_⟩⟩
    refine ⟨_, rfl, _, rfl, _, _, rfl, rfl, ⟨by decide, by decide⟩, _, _, rfl, rfl, _, _, rfl, rfl, .inl ⟨by omega, by omega⟩, .inl ⟨_, rfl, _, _, rfl, rfl, (by show (2147483629 : Int) ≠ 0; decide), ?_⟩⟩
    refine ⟨_, rfl, _, rfl, _, _, rfl, rfl, ⟨by decide, by decide⟩, _, _, rfl, rfl, _, _, rfl, rfl, .inl ⟨by omega, by omega⟩, _, rfl, _, _, rfl, rfl, .inl ⟨_, rfl, _, _, rfl, rfl, (by show (2147483399 : Int) ≠ 0; decide), ?_⟩⟩
    refine ⟨_, rfl, _, _, rfl, rfl, ⟨by decide, by decide⟩, .inl ⟨_, rfl, _, rfl, _, _, rfl, rfl, by omega, ?_⟩⟩
    refine k _ _ (fmod_lt hm0).1 (fmod_lt hm0).2 ⟨t + 1, c, gs, ss, upd_same, e1 _, e2 _, hne, npg, nps, ngs, hss⟩ fun b o hb b1 b2 => ?_
    rw [upd_ne b1]; exact hb
def spAny (K : PySem.W.Frag) : Sp := fun vs H Q _ => ∃ (p g s a : Addr) (xs : List V), vs = [.ref p, .ref a] ∧ PotAt H p g s ∧ H a = some (.tup xs) ∧ xs ≠ [] ∧ xs.length ≤ 1000 ∧ ∀ v H', v ∈ xs → PotAt H' p g s → Sb p g H H' → Q v H'
theorem sc__law_any : FnScope N__law_any ["pot", "items"] (defScope s__law_any) := ⟨rfl, rfl, rfl, by decide +kernel, rfl, by decide +kernel, by decide +kernel⟩
theorem ok__law_any {f : Addr} {fd : FuncData} (F : Fun K "_law_any" "_law_any" s__law_any f fd) (T : Txt P K mg a) (G__law_draw : DefOk P w K mg base "_law_draw" 1 ["pot", "many"] (spDraw)) : FnOk P w K mg base (L2.CX P w) 2 f fd ["pot", "items"] (spAny K) := by
  have S := sc__law_any
  refine F.okX S (fun vs H Q E h => ?_) (fun cdv A outer s H vs Q E hr h => ?_)
  · obtain ⟨p, g, sa, a, xs, rfl, _⟩ := h; rfl
  have hu := hu_of hr
  obtain ⟨p, g, sa, a, xs, rfl, P0, ha, hne, hl, k⟩ := h
  have hl0 : 0 < xs.length := List.length_pos_iff.mpr hne
  refine ⟨_, ((pss_one (ps_ret (pe_ix ix_tup (pv 1) (pe_d G__law_draw hr rfl (pa_cons (pv 0) (pa_cons (pe_callB call_len_seq (by rfl) T.len (by decide +kernel) (pa_cons (pv 1) pa_nil)) pa_nil))) (fun _ _ => rfl))))), ?_⟩
  refine ⟨_, rfl, _, rfl, _, rfl, a, _, rfl, .inr (SqT.of ha), p, g, sa, _, rfl, P0, by omega, by omega, fun r H' h0 h1 P1 e1 => ?_⟩
  obtain ⟨v, hv, hm⟩ := at_some (xs := xs) h0 h1
  exact ⟨a, _, _, v, rfl, rfl, SqT.of (e1.tup P0 ha), hv, k v H' hm P1 e1⟩
def spString : Sp := fun vs H Q _ => ∃ (p g s : Addr) (n m : Int), vs = [.ref p, .int n, .int m] ∧ PotAt H p g s ∧ 1 ≤ n ∧ n ≤ 3 ∧ 0 ≤ m ∧ m ≤ 1000 ∧ ∀ x H', lettB n x = true → (x.length : Int) ≤ m → PotAt H' p g s → Sb p g H H' → Q (.str x) H'
theorem sc__law_string : FnScope N__law_string ["pot", "letters", "most"] (defScope s__law_string) := ⟨rfl, rfl, rfl, by decide +kernel, rfl, by decide +kernel, by decide +kernel⟩
theorem ok__law_string {f : Addr} {fd : FuncData} (F : Fun K "_law_string" "_law_string" s__law_string f fd) (T : Txt P K mg a) (G__law_draw : DefOk P w K mg base "_law_draw" 1 ["pot", "many"] (spDraw)) : FnOk P w K mg base (L2.CX P w) 2 f fd ["pot", "letters", "most"] (spString) := by
  have S := sc__law_string
  refine F.okX S (fun vs H Q E h => ?_) (fun cdv A outer s H vs Q E hr h => ?_)
  · obtain ⟨p, g, sa, n, m, rfl, _⟩ := h; rfl
  have hu := hu_of hr
  obtain ⟨p, g, sa, n, m, rfl, P0, n1, n3, m0, m1, k⟩ := h
  refine ⟨_, ((pss_one (ps_ret (pe_join pe_str (pe_lc (own := [("k", 3)]) (g := gName 3) rfl S.nd (pi_range1 rfl T.range (pa_cons (pe_d G__law_draw hr rfl (pa_cons (pv 0) (pa_cons (pe_op op_add (pv 2) pe_int) pa_nil))) pa_nil)) (blkOk_by (own := [("k", 3)]) (N := N__law_string) (sc := defScope s__law_string) (by decide +kernel)) (fun _ _ _ _ _ => (pg_name (i := 3) S.nd rfl (by first | exact Or.inl rfl | exact Or.inr rfl))) (fun _ _ _ _ _ => pts_nil) (fun _ _ _ _ _ => (pe_ix ix_str pe_str (pe_d G__law_draw hr rfl (pa_cons (pv 0) (pa_cons (pv 1) pa_nil))) (fun _ _ => rfl)))))))), ?_⟩
  refine ⟨⟨_, rfl⟩, _, rfl, _, rfl, _, _, rfl, rfl, p, g, sa, _, rfl, P0, by omega, by omega, fun r H1 r0 r1 P1 e1 => ⟨r, rfl, by omega, by omega, fun D nD => ?_⟩⟩
  refine lc_range (lo := 0) (n := r.toNat) (fun i H' => PotAt H' p g sa ∧ Sb p g H1 H' ∧ ∃ ys : List Str, ys.length = i ∧ (∀ y ∈ ys, y.length = 1 ∧ lettB n y = true) ∧ H' D = some (.lst (ys.map V.str))) ⟨P1.upd nD, Sb.new nD, [], rfl, (fun y hy => by cases hy), upd_same⟩ ?_ ?_
  · rintro i H' hi ⟨P2, e2, ys, hy, hys, hD⟩
    refine ⟨rfl, _, rfl, _, rfl, p, g, sa, n, rfl, P2, by omega, by omega, fun c H3 c0 c1 P3 e3 => ?_⟩
    have hD3 := e3 _ _ hD (P1.ne nD).1.symm (P1.ne nD).2.1.symm
    have hc : c = 0 ∨ c = 1 ∨ c = 2 := by omega
    have done : ∀ code : Nat, (97 ≤ code ∧ (code : Int) < 97 + n) → ∃ acc, H3 D = some (.lst acc) ∧ acc.length < sizeLine ∧ PotAt (upd H3 D (.lst (acc ++ [V.str ⟨#[code]⟩]))) p g sa ∧ Sb p g H1 (upd H3 D (.lst (acc ++ [V.str ⟨#[code]⟩]))) ∧ ∃ ys : List Str, ys.length = i + 1 ∧ (∀ y ∈ ys, y.length = 1 ∧ lettB n y = true) ∧ (upd H3 D (.lst (acc ++ [V.str ⟨#[code]⟩]))) D = some (.lst (ys.map V.str)) := by
      intro code hcode
      refine ⟨_, hD3, by rw [List.length_map]; exact small1000 (by omega), P3.put (P1.ne nD), (e2.trans e3).mut nD, ys ++ [⟨#[code]⟩], by simp [hy], ?_, by rw [upd_same, List.map_append]; rfl⟩
      · intro y hy
        rcases List.mem_append.mp hy with hy | hy
        · exact hys y hy
        · rw [List.mem_singleton.mp hy]
          exact ⟨rfl, by simp [lettB, hcode]⟩
    rcases hc with rfl | rfl | rfl
    · exact ⟨_, _, 97, rfl, rfl, by decide, rfl, done 97 (by omega)⟩
    · exact ⟨_, _, 98, rfl, rfl, by decide, rfl, done 98 (by omega)⟩
    · exact ⟨_, _, 99, rfl, rfl, by decide, rfl, done 99 (by omega)⟩
  rintro H2 ⟨P2, e2, ys, hy, hys, hD⟩
  have hlen : (Txt.join "" ys).cps.toList.length = ys.length := by
    rw [tl_join0]
    clear hy hD
    induction ys with
    | nil => rfl
    | cons y r ih =>
      have h1 := (hys y (List.mem_cons_self ..)).1
      rw [str_len] at h1
      rw [List.map_cons, List.flatten_cons, List.length_append, ih (fun z hz => hys z (List.mem_cons_of_mem _ hz)), h1, List.length_cons]
      omega
  refine ⟨_, D, ys, rfl, rfl, .inl (SqL.of hD), ?_, ?_⟩
  · have hs : (ys.map (·.length)).sum = ys.length := by
      clear hy hD hlen
      induction ys with
      | nil => rfl
      | cons y r ih => rw [List.map_cons, List.sum_cons, ih (fun z hz => hys z (List.mem_cons_of_mem _ hz)), (hys y (List.mem_cons_self ..)).1, List.length_cons]; omega
    rw [hs]
    show ys.length + ys.length * 0 ≤ 16777216
    omega
  · refine k _ H2 ?_ ?_ P2 (fun b o hb b1 b2 => e2 b o (e1 b o hb b1 b2) b1 b2)
    · unfold lettB
      rw [tl_join0, List.all_eq_true]
      intro c hc
      obtain ⟨l, hl, hcl⟩ := List.mem_flatten.mp hc
      obtain ⟨y, hy2, rfl⟩ := List.mem_map.mp hl
      have := (hys y hy2).2
      unfold lettB at this
      exact List.all_eq_true.mp this c hcl
    · rw [str_len, hlen]; omega
abbrev wordK (o : Option Int) (A B : Prop) : Prop := match o with
  | none => A
  | some p => (p < 0 → A) ∧ (0 ≤ p → B)
theorem wordK_of {o : Option Int} {A B : Prop} (h : ∀ i, o = some i → i < 0) (a : A) : wordK o A B := by
  cases o with
  | none => exact a
  | some i =>
    have := h i rfl
    exact ⟨fun _ => a, fun z => by omega⟩
/-- what becomes of sign(content, place) -/
def spWord (K : PySem.W.Frag) (a : Adr) : Sp := fun vs H Q _ => ∃ (x y : V) (b : Bool) (o : Option Int), vs = [x, y] ∧ ConIs K H 3 x b ∧ IntIs K H y o ∧ (b = false → Q (.str "content") H) ∧
  (b = true → wordK o (Q (.str "place") H) ((∃ h r, ConAt H x h r) ∧ Q (.str "told") H))
theorem sc__law_word : FnScope N__law_word ["content", "place"] (defScope s__law_word) := ⟨rfl, rfl, rfl, by decide +kernel, rfl, by decide +kernel, by decide +kernel⟩
theorem ok__law_word {f : Addr} {fd : FuncData} (F : Fun K "_law_word" "_law_word" s__law_word f fd) (T : Txt P K mg a) (G_sign : DefOk P w K mg base "sign" 5 ["content", "place"] (spSign K a)) : FnOk P w K mg base (L2.CX P w) 6 f fd ["content", "place"] (spWord K a) := by
  have S := sc__law_word
  refine F.okX S (fun vs H Q E h => ?_) (fun cdv A outer s H vs Q E hr h => ?_)
  · obtain ⟨x, y, b, o, rfl, _⟩ := h; rfl
  have hu := hu_of hr
  obtain ⟨x, y, b, o, rfl, hI, hO, k1, k2⟩ := h
  refine ⟨_, ((pss_cons (ps_set (i := 2) S.nd rfl (Or.inl rfl) pe_str)
      (pss_cons (ps_try_many (tb := _) (Wout := fun _ _ _ _ => False) rfl rfl takes0 (fun W pn xe tk po => (pss_one (ps_expr (pe_dX tk G_sign hr rfl (pa_cons (pv 0) (pa_cons (pv 1) pa_nil)))))) (HdsOk.cons (c := .ref a.NoContent) ⟨rfl, by decide, Or.inl T.x_NoContent.gC⟩ (fun a_ oe cls d pn hz hf => (pss_one (ps_set (i := 2) S.nd rfl (Or.inl rfl) pe_str))) (HdsOk.cons (c := .ref a.NoPlace) ⟨rfl, by decide, Or.inl T.x_NoPlace.gC⟩ (fun a_ oe cls d pn hz hf => (pss_one (ps_set (i := 2) S.nd rfl (Or.inl rfl) pe_str))) HdsOk.nil)))
      (pss_one (ps_ret (pv 2)))))), ?_⟩
  have nn : ∀ k : Q (.str "content") H, ∃ b, PySem.W.exmOne K (.ref a.NoContent) (.ref a.NoContent) = some b ∧ (b = true → ∀ a_ : Addr, H a_ = none → Q (.str "content") H) ∧ (b = false → False) := fun k => ⟨true, T.e_NoContent_NoContent, fun _ _ _ => k, (fun z => nomatch z)⟩
  refine ⟨_, rfl, _, rfl, x, y, b, o, rfl, hI, hO, fun hb => ?_, fun hb => ?_⟩
  · exact ⟨true, T.e_NoContent_NoContent, fun _ _ _ => ⟨_, rfl, k1 hb⟩, (fun z => nomatch z)⟩
  · have k3 := k2 hb
    match o, hO, k3 with
    | none, hO, k3 => exact ⟨false, T.e_NoPlace_NoContent, (fun z => nomatch z), fun _ => ⟨true, T.e_NoPlace_NoPlace, fun _ _ _ => ⟨_, rfl, k3⟩, (fun z => nomatch z)⟩⟩
    | some p, hO, k3 =>
      refine ⟨fun hp => ?_, fun hp => ?_⟩
      · exact ⟨false, T.e_NoPlace_NoContent, (fun z => nomatch z), fun _ => ⟨true, T.e_NoPlace_NoPlace, fun _ _ _ => ⟨_, rfl, k3.1 hp⟩, (fun z => nomatch z)⟩⟩
      · obtain ⟨⟨h, r, c⟩, q⟩ := k3.2 hp
        exact ⟨h, r, c, ⟨_, rfl, q⟩⟩
def spLaw (K : PySem.W.Frag) : Sp := fun vs H Q _ => ∃ (a : Addr) (ns : List Int), vs = [.ref a] ∧ SqL K H a (ns.map V.int) ∧ ns.length ≤ 63 ∧ ∀ H', Q (.bl true) H'
theorem con_lst {K : PySem.W.Frag} {H : Hp} {a : Addr} {xs : List V} (h : H a = some (.lst xs)) : ConIs K H 3 (.ref a) false := ⟨none, tyis_lst h, rfl⟩
theorem con_dict {K : PySem.W.Frag} {H : Hp} {a : Addr} {xs : List (Key × V)} (h : H a = some (.dK xs)) : ConIs K H 3 (.ref a) false := ⟨none, tyis_dK h, rfl⟩
theorem con_tup {K : PySem.W.Frag} {H : Hp} {a : Addr} {y z : V} {oy oz : Option Str} (h : H a = some (.tup [y, z])) (hy : StrIs K H y oy) (hz : StrIs K H z oz) (hb : (lettO 3 oy && lettO 3 oz) = false) : ConIs K H 3 (.ref a) false := ⟨some [y, z], ⟨a, rfl, h⟩, oy, oz, hy, hz, hb.symm⟩
theorem con_tup1 {K : PySem.W.Frag} {H : Hp} {a : Addr} {y : V} (h : H a = some (.tup [y])) : ConIs K H 3 (.ref a) false := ⟨some [y], ⟨a, rfl, h⟩, rfl⟩
theorem con_tup3 {K : PySem.W.Frag} {H : Hp} {a : Addr} {y z u : V} (h : H a = some (.tup [y, z, u])) : ConIs K H 3 (.ref a) false := ⟨some [y, z, u], ⟨a, rfl, h⟩, rfl⟩
theorem sc_law : FnScope N_law ["script"] (defScope s_law) := ⟨rfl, rfl, rfl, by decide +kernel, rfl, by decide +kernel, by decide +kernel⟩
theorem ok_law {f : Addr} {fd : FuncData} (F : Fun K "law" "law" s_law f fd) (T : Txt P K mg a) (G__law_pot : DefOk P w K mg base "_law_pot" 1 ["script"] (spPot K)) (G__law_any : DefOk P w K mg base "_law_any" 2 ["pot", "items"] (spAny K)) (G__law_draw : DefOk P w K mg base "_law_draw" 1 ["pot", "many"] (spDraw)) (G__law_string : DefOk P w K mg base "_law_string" 2 ["pot", "letters", "most"] (spString)) (G_sign : DefOk P w K mg base "sign" 5 ["content", "place"] (spSign K a)) (G__law_word : DefOk P w K mg base "_law_word" 6 ["content", "place"] (spWord K a)) : FnOk P w K mg base (L2.CX P w) 7 f fd ["script"] (spLaw K) := by
  have S := sc_law
  refine F.okX S (fun vs H Q E h => ?_) (fun cdv A outer s H vs Q E hr h => ?_)
  · obtain ⟨x, o, rfl, _⟩ := h; rfl
  have hu := hu_of hr
  obtain ⟨ad, ns, rfl, hS, hl, k⟩ := h
  refine ⟨_, ((pss_cons (ps_set (i := 1) S.nd rfl (Or.inl rfl) (pe_d G__law_pot hr rfl (pa_cons (pv 0) pa_nil)))
      (pss_cons (ps_for (passes_of rfl) rfl (pi_range1 rfl T.range (pa_cons pe_int pa_nil)) (pg_name (i := 2) S.nd rfl (by first | exact Or.inl rfl | exact Or.inr rfl)) (pss_cons (ps_set (i := 3) S.nd rfl (Or.inl rfl) (pe_op op_add pe_int (pe_d G__law_draw hr rfl (pa_cons (pv 1) (pa_cons pe_int pa_nil)))))
          (pss_cons (ps_set (i := 4) S.nd rfl (Or.inl rfl) (pe_tup (pa_cons (pe_d G__law_string hr rfl (pa_cons (pv 1) (pa_cons (pv 3) (pa_cons pe_int pa_nil)))) (pa_cons (pe_mid (pe_ifExp (pt_cmpR op_eq (pe_d G__law_draw hr rfl (pa_cons (pv 1) (pa_cons pe_int pa_nil))) pe_int (nomark _)) (pe_d G__law_string hr rfl (pa_cons (pv 1) (pa_cons (pv 3) (pa_cons pe_int pa_nil)))) pe_str)) pa_nil))))
          (pss_cons (ps_asg (pv 4) (pg_tup rfl (pgs_cons (pg_name (i := 5) S.nd rfl (by first | exact Or.inl rfl | exact Or.inr rfl)) (pgs_cons (pg_name (i := 6) S.nd rfl (by first | exact Or.inl rfl | exact Or.inr rfl)) pgs_nil))))
          (pss_cons (ps_set (i := 7) S.nd rfl (Or.inl rfl) (pe_op op_add_str (pv 5) (pe_op op_mulS (pv 6) pe_int)))
          (pss_cons (ps_for (passes_of rfl) rfl (pi_range1 rfl T.range (pa_cons (pe_mid (pe_ifExp (pt_cmpR op_ne (pv 6) pe_str (nomark _)) (pe_callB call_len_str (by rfl) T.len (by decide +kernel) (pa_cons (pv 7) pa_nil)) (pe_op op_add (pe_callB call_len_str (by rfl) T.len (by decide +kernel) (pa_cons (pv 7) pa_nil)) pe_int))) pa_nil)) (pg_name (i := 8) S.nd rfl (by first | exact Or.inl rfl | exact Or.inr rfl)) (pss_cons (ps_set (i := 9) S.nd rfl (Or.inl rfl) (pe_mid (pe_ifExp (pt_cmpR op_lt (pv 8) (pe_callB call_len_str (by rfl) T.len (by decide +kernel) (pa_cons (pv 7) pa_nil)) (nomark _)) (pe_ix ix_str (pv 7) (pv 8) (fun _ _ => rfl)) pe_str)))
              (pss_one (ps_if (pt_cmpR op_ne (pe_d G_sign hr rfl (pa_cons (pv 4) (pa_cons (pv 8) pa_nil))) (pv 9) (nomark _)) (pss_one (ps_ret pe_bl)) pss_nil))))
          (pss_cons (ps_set (i := 10) S.nd rfl (Or.inl rfl) (pe_op op_add (pe_op op_pow pe_int pe_int) (pe_d G__law_draw hr rfl (pa_cons (pv 1) (pa_cons pe_int pa_nil)))))
          (pss_cons (ps_set (i := 9) S.nd rfl (Or.inl rfl) (pe_mid (pe_ifExp (pt_cmpR op_eq (pv 6) pe_str (nomark _)) pe_str (pe_ix ix_str (pv 6) (pe_op op_modN (pe_callTy call_int1 (by rfl) T.int (by decide +kernel) (pa_cons (pe_op op_sub (pv 10) (pe_callB call_len_str (by rfl) T.len (by decide +kernel) (pa_cons (pv 5) pa_nil))) pa_nil)) (pe_callB call_len_str (by rfl) T.len (by decide +kernel) (pa_cons (pv 6) pa_nil))) (fun _ _ => rfl)))))
          (pss_cons (ps_if (pt_cmpR op_ne (pe_d G_sign hr rfl (pa_cons (pv 4) (pa_cons (pv 10) pa_nil))) (pv 9) (nomark _)) (pss_one (ps_ret pe_bl)) pss_nil)
          (pss_cons (ps_set (i := 11) S.nd rfl (Or.inl rfl) (pe_d G__law_any hr rfl (pa_cons (pv 1) (pa_cons (pe_tup (pa_cons pe_non (pa_cons (pe_un un_neg pe_int) (pa_cons pe_bl (pa_cons pe_str (pa_cons (pe_tup (pa_cons pe_int pa_nil)) (pa_cons (pe_lst pa_nil) (pa_cons (pe_op op_sub pe_int (pe_op op_pow pe_int pe_int)) pa_nil)))))))) pa_nil))))
          (pss_cons (ps_set (i := 12) S.nd rfl (Or.inl rfl) (pe_d G__law_any hr rfl (pa_cons (pv 1) (pa_cons (pe_tup (pa_cons pe_non (pa_cons (pv 5) (pa_cons (pe_tup (pa_cons (pv 5) pa_nil)) (pa_cons (pe_lst (pa_cons (pv 5) (pa_cons (pv 6) pa_nil))) (pa_cons (pe_tup (pa_cons (pv 5) (pa_cons (pv 6) (pa_cons pe_str pa_nil)))) (pa_cons (pe_tup (pa_cons (pv 5) (pa_cons pe_non pa_nil))) (pa_cons (pe_tup (pa_cons pe_int (pa_cons (pv 6) pa_nil))) (pa_cons (pe_tup (pa_cons (pe_op op_add_str (pv 5) pe_str) (pa_cons (pv 6) pa_nil))) (pa_cons (pe_tup (pa_cons pe_str (pa_cons pe_str pa_nil))) (pa_cons pe_dnewK pa_nil))))))))))) pa_nil))))
          (pss_cons (ps_set (i := 13) S.nd rfl (Or.inl rfl) (pe_lst (pa_cons (pe_d G__law_word hr rfl (pa_cons (pv 12) (pa_cons (pv 11) pa_nil))) (pa_cons (pe_d G__law_word hr rfl (pa_cons (pv 12) (pa_cons pe_int pa_nil))) (pa_cons (pe_d G__law_word hr rfl (pa_cons (pv 4) (pa_cons (pv 11) pa_nil))) (pa_cons (pe_d G__law_word hr rfl (pa_cons (pv 4) (pa_cons pe_int pa_nil))) pa_nil))))))
          (pss_one (ps_if (pt_cmpR (op_neD hr.units) (pv 13) (pe_lst (pa_cons pe_str (pa_cons pe_str (pa_cons pe_str (pa_cons pe_str pa_nil))))) (nomark _)) (pss_one (ps_ret pe_bl)) pss_nil))))))))))))))
      (pss_one (ps_ret pe_bl))))), ?_⟩
  refine ⟨_, rfl, ad, ns, rfl, hS, hl, fun p g sa H1 np ng nsa P1 s1 => ?_⟩
  refine ⟨4, rfl, by decide, by decide, ?_⟩
  refine for_range (lo := 0) (n := 4) (fun i σ H2 => PotAt H2 p g sa ∧ ∃ v2 v3 v4 v5 v6 v7 v8 v9 v10 v11 v12 v13, σ = [some (.ref ad), some (.ref p), v2, v3, v4, v5, v6, v7, v8, v9, v10, v11, v12, v13]) ⟨P1, _, _, _, _, _, _, _, _, _, _, _, _, rfl⟩ ?_ ?_
  · rintro i σ H2 hi ⟨P2, v2, v3, v4, v5, v6, v7, v8, v9, v10, v11, v12, v13, rfl⟩
    -- letters
    refine ⟨_, rfl, p, g, sa, 3, rfl, P2, by decide, by decide, fun l0 H3 l1 l2 P3 e3 => ⟨_, _, rfl, rfl, ?_⟩⟩
    -- content
    refine ⟨_, rfl, _, rfl, p, g, sa, 1 + l0, 8, rfl, P3, by omega, by omega, by decide, by decide, fun h H4 hh hh8 P4 e4 => ?_⟩
    refine ⟨fun v H' => ∃ r, v = .str r ∧ lettB (1 + l0) r = true ∧ (r.length : Int) ≤ 8 ∧ PotAt H' p g sa, ?_, ?_⟩
    · refine ⟨_, rfl, p, g, sa, 2, rfl, P4, by decide, by decide, fun d H5 d1 d2 P5 e5 => ⟨rfl, _, rfl, ?_⟩⟩
      refine ite2 (fun _ => ?_) (fun _ => ⟨"", rfl, lett_empty, by decide, P5⟩)
      exact ⟨_, rfl, _, rfl, p, g, sa, 1 + l0, 8, rfl, P5, by omega, by omega, by decide, by decide, fun r H6 hr hr8 P6 e6 => ⟨r, rfl, hr, hr8, P6⟩⟩
    rintro _ H5 ⟨r, rfl, hr, hr8, P5⟩
    have hh3 : lettB 3 h = true := lett_mono (by omega) hh
    have hr3 : lettB 3 r = true := lett_mono (by omega) hr
    refine ⟨by show 2 ≤ sizeLine; decide, fun ct nct => ?_⟩
    have P6 := P5.upd (o := .tup [.str h, .str r]) nct
    have hct : (upd H5 ct (.tup [.str h, .str r])) ct = some (.tup [.str h, .str r]) := upd_same
    generalize upd H5 ct (.tup [.str h, .str r]) = H6 at P6 hct ⊢
    have hcon : ∀ H', H' ct = some (.tup [.str h, .str r]) → ConAt H' (.ref ct) h r := fun H' z => ⟨ct, rfl, z, by omega, by omega, hh3, hr3⟩
    -- head, again; whole
    refine ⟨_, rfl, ct, _, rfl, SqT.of hct, rfl, _, _, rfl, _, _, rfl, rfl, ?_⟩
    refine ⟨_, rfl, _, rfl, _, _, rfl, rfl, mulOk_small (by decide) (by decide) (by omega), _, _, rfl, rfl, ?_, ?_⟩
    · have q : (Txt.mul r 12).length = 12 * r.length := by rw [str_len, tl_mul r (by decide), len_rep, ← str_len]; rfl
      rw [q]
      exact Nat.le_trans (by omega : _ ≤ 1000) (by decide)
    have hW : (h ++ Txt.mul r 12).length = h.length + 12 * r.length := by rw [str_len, tl_app, List.length_append, tl_mul r (by decide), len_rep, ← str_len, ← str_len]; rfl
    have hWs : ∀ q : Int, 0 ≤ q → q < ((h ++ Txt.mul r 12).length : Int) → (⟨#[(h ++ Txt.mul r 12).cps.toList.getD q.toNat 0]⟩ : Str) = signS h r q := fun q q0 q1 => sign_whole (n := 12) q0 q1
    generalize h ++ Txt.mul r 12 = W at hW hWs ⊢
    -- the places
    refine ⟨fun v H' => H6 = H' ∧ ∃ n : Int, v = .int n ∧ 0 ≤ n ∧ n ≤ 1000 ∧ (r.length = 0 ∨ n = (W.length : Int)), ?_, ?_⟩
    · refine ⟨_, rfl, rfl, _, rfl, ?_⟩
      refine ite2 (fun _ => ?_) (fun hc => ?_)
      · exact ⟨_, rfl, _, rfl, Nat.le_trans (by omega : _ ≤ 1000) (by decide), rfl, _, rfl, by omega, by omega, .inr rfl⟩
      · have hc : r.length = 0 := by
          apply str_empty.mp
          simpa using hc
        exact ⟨_, rfl, _, rfl, Nat.le_trans (by omega : _ ≤ 1000) (by decide), _, _, rfl, rfl, rfl, _, rfl, by omega, by omega, .inl hc⟩
    rintro _ _ ⟨rfl, n, rfl, n0, n1, hn⟩
    refine ⟨n, rfl, by omega, by omega, ?_⟩
    refine for_range (lo := 0) (n := n.toNat) (fun j σ H' => H6 = H' ∧ ∃ w8 w9, σ = [some (.ref ad), some (.ref p), some (.int (0 + (i : Int))), some (.int (1 + l0)), some (.ref ct), some (.str h), some (.str r), some (.str W), w8, w9, v10, v11, v12, v13]) ⟨rfl, _, _, rfl⟩ ?_ ?_
    · rintro j σ _ hj ⟨rfl, w8, w9, rfl⟩
      have hj0 : (0 : Int) + (j : Int) = (j : Int) := Int.zero_add _
      refine ⟨fun v H' => H6 = H' ∧ v = .str (signS h r (0 + (j : Int))), ?_, ?_⟩
      · refine ⟨_, rfl, _, rfl, _, rfl, Nat.le_trans (by omega : _ ≤ 1000) (by decide), _, _, rfl, rfl, _, rfl, ?_⟩
        refine ite2 (fun hc => ?_) (fun hc => ?_)
        · have hc : (0 : Int) + (j : Int) < (W.length : Int) := of_decide_eq_true hc
          exact ⟨_, rfl, _, rfl, _, _, _, rfl, rfl, Nat.le_trans (by omega : _ ≤ 1000) (by decide), at_getD (by omega) hc, rfl, by rw [hWs _ (by omega) hc]⟩
        · have hc : ¬ (0 : Int) + (j : Int) < (W.length : Int) := by simpa using hc
          have hr0 : r.length = 0 := by
            rcases hn with hn | hn
            · exact hn
            · omega
          exact ⟨rfl, by rw [signS_end (by omega) hr0]⟩
      rintro _ _ ⟨rfl, rfl⟩
      refine ⟨_, rfl, _, rfl, .ref ct, .int (0 + (j : Int)), true, some (0 + (j : Int)), rfl, (hcon _ hct).is, rfl, (fun z => nomatch z), fun _ => ⟨fun z => by omega, fun _ => ⟨h, r, hcon _ hct, ?_⟩⟩⟩
      exact ⟨_, rfl, rfl, _, rfl, iteNS rfl ⟨rfl, _, _, rfl⟩⟩
    rintro σ _ ⟨rfl, w8, w9, rfl⟩
    -- far
    refine ⟨_, _, rfl, rfl, ⟨by decide, by decide, by decide⟩, _, rfl, p, g, sa, 1000, rfl, P6, by decide, by decide, fun f0 H7 f1 f2 P7 e7 => ⟨_, _, rfl, rfl, ?_⟩⟩
    have hct7 := e7.tup P6 hct
    have hfar : (0 : Int) ≤ 10 ^ (30 : Int).toNat + f0 ∧ (h.length : Int) ≤ 10 ^ (30 : Int).toNat + f0 := by
      have e : (10 : Int) ^ (30 : Int).toNat = 1000000000000000000000000000000 := by decide
      rw [e]
      omega
    refine ⟨fun v H' => H7 = H' ∧ v = .str (signS h r (10 ^ (30 : Int).toNat + f0)), ?_, ?_⟩
    · refine ⟨_, rfl, rfl, _, rfl, ?_⟩
      refine ite2 (fun hc => ?_) (fun hc => ?_)
      · have hc : r.length = 0 := str_empty.mp (of_decide_eq_true hc)
        exact ⟨rfl, by rw [signS_end hfar.2 hc]⟩
      · have hc : ¬ r.length = 0 := fun z => hc (decide_eq_true (str_empty.mpr z))
        have q := fmod_lt (x := 10 ^ (30 : Int).toNat + f0 - (h.length : Int)) (m := (r.length : Int)) (by omega)
        refine ⟨_, rfl, _, rfl, _, rfl, _, rfl, Nat.le_trans (by omega : _ ≤ 1000) (by decide), _, _, rfl, rfl, .inl ⟨_, rfl, _, rfl, _, rfl, Nat.le_trans (by omega : _ ≤ 1000) (by decide), _, _, rfl, rfl, (by show (r.length : Int) ≠ 0; omega), _, _, _, rfl, rfl, Nat.le_trans (by omega : _ ≤ 1000) (by decide), at_getD q.1 q.2, rfl, ?_⟩⟩
        unfold signS
        rw [if_neg (by omega), if_neg hc]
    rintro _ _ ⟨rfl, rfl⟩
    refine ⟨_, rfl, _, rfl, .ref ct, .int (10 ^ (30 : Int).toNat + f0), true, some (10 ^ (30 : Int).toNat + f0), rfl, (hcon _ hct7).is, rfl, (fun z => nomatch z), fun _ => ⟨fun z => by omega, fun _ => ⟨h, r, hcon _ hct7, ?_⟩⟩⟩
    refine ⟨_, rfl, rfl, _, rfl, iteNS rfl ?_⟩
    -- odd
    refine ⟨_, rfl, _, rfl, (by show 1 ≤ sizeLine; decide), fun t1 nt1 => ⟨(by show 0 ≤ sizeLine; decide), fun l1 nl1 => ⟨_, _, rfl, rfl, ⟨by decide, by decide, by decide⟩, _, _, rfl, rfl, (by show 7 ≤ sizeLine; decide), fun t2 nt2 => ?_⟩⟩⟩
    have x1 := Same.new (o := .tup [.int 0]) nt1
    have x2 := Same.new (o := .lst []) nl1
    have y1 : (upd (upd H7 t1 (.tup [.int 0])) l1 (.lst [])) t1 = some (.tup [.int 0]) := x2 _ _ upd_same
    have y2 : (upd (upd H7 t1 (.tup [.int 0])) l1 (.lst [])) l1 = some (.lst []) := upd_same
    have y3 := x2 _ _ (x1 _ _ hct7)
    have P8 := (P7.upd (o := .tup [.int 0]) nt1).upd (o := .lst []) nl1
    have nl : l1 ≠ p ∧ l1 ≠ g := ⟨(P7.upd (o := .tup [.int 0]) nt1 |>.ne nl1).1.symm, (P7.upd (o := .tup [.int 0]) nt1 |>.ne nl1).2.1.symm⟩
    generalize upd (upd H7 t1 (.tup [.int 0])) l1 (.lst []) = H8 at y1 y2 y3 P8 nt2 ⊢
    have x3 := Same.new (o := .tup [.non, .int (-1), .bl true, .str "0", .ref t1, .ref l1, .int (0 - 10 ^ (20 : Int).toNat)]) nt2
    refine ⟨p, g, sa, t2, _, rfl, P8.upd nt2, upd_same, by simp, by show 7 ≤ 1000; decide, fun od H9 hod P9 e9 => ?_⟩
    have z1 := e9.tup (P8.upd nt2) (x3 _ _ y1)
    have z2 := e9 _ _ (x3 _ _ y2) nl.1 nl.2
    have z3 := e9.tup (P8.upd nt2) (x3 _ _ y3)
    clear e9 x3 x1 x2 y1 y2 y3 P8
    -- bad
    refine ⟨_, rfl, _, rfl, _, rfl, (by show 1 ≤ sizeLine; decide), fun b1 nb1 => ?_⟩
    generalize f1 : upd H9 b1 (.tup [.str h]) = h1 at ⊢
    have m1 : Same H9 h1 := by rw [← f1]; exact Same.new nb1
    have w1 : h1 b1 = some (.tup [.str h]) := by rw [← f1]; exact upd_same
    have R10 := P9.keep m1
    refine ⟨_, rfl, _, rfl, (by show 2 ≤ sizeLine; decide), fun b2 nb2 => ?_⟩
    generalize f2 : upd h1 b2 (.lst [.str h, .str r]) = h2 at ⊢
    have m2 : Same h1 h2 := by rw [← f2]; exact Same.new nb2
    have w2 : h2 b2 = some (.lst [.str h, .str r]) := by rw [← f2]; exact upd_same
    have R11 := R10.keep m2
    refine ⟨_, rfl, _, rfl, (by show 3 ≤ sizeLine; decide), fun b3 nb3 => ?_⟩
    generalize f3 : upd h2 b3 (.tup [.str h, .str r, .str ""]) = h3 at ⊢
    have m3 : Same h2 h3 := by rw [← f3]; exact Same.new nb3
    have w3 : h3 b3 = some (.tup [.str h, .str r, .str ""]) := by rw [← f3]; exact upd_same
    have R12 := R11.keep m3
    refine ⟨_, rfl, (by show 2 ≤ sizeLine; decide), fun b4 nb4 => ?_⟩
    generalize f4 : upd h3 b4 (.tup [.str h, .non]) = h4 at ⊢
    have m4 : Same h3 h4 := by rw [← f4]; exact Same.new nb4
    have w4 : h4 b4 = some (.tup [.str h, .non]) := by rw [← f4]; exact upd_same
    have R13 := R12.keep m4
    refine ⟨_, rfl, (by show 2 ≤ sizeLine; decide), fun b5 nb5 => ?_⟩
    generalize f5 : upd h4 b5 (.tup [.int 1, .str r]) = h5 at ⊢
    have m5 : Same h4 h5 := by rw [← f5]; exact Same.new nb5
    have w5 : h5 b5 = some (.tup [.int 1, .str r]) := by rw [← f5]; exact upd_same
    have R14 := R13.keep m5
    refine ⟨_, rfl, _, _, rfl, rfl, (by show h.length + 1 ≤ sizeLine; exact Nat.le_trans (by omega : _ ≤ 1000) (by decide)), _, rfl, (by show 2 ≤ sizeLine; decide), fun b6 nb6 => ?_⟩
    generalize f6 : upd h5 b6 (.tup [.str (h ++ "d"), .str r]) = h6 at ⊢
    have m6 : Same h5 h6 := by rw [← f6]; exact Same.new nb6
    have w6 : h6 b6 = some (.tup [.str (h ++ "d"), .str r]) := by rw [← f6]; exact upd_same
    have R15 := R14.keep m6
    refine ⟨(by show 2 ≤ sizeLine; decide), fun b7 nb7 => ?_⟩
    generalize f7 : upd h6 b7 (.tup [.str "A", .str ""]) = h7 at ⊢
    have m7 : Same h6 h7 := by rw [← f7]; exact Same.new nb7
    have w7 : h7 b7 = some (.tup [.str "A", .str ""]) := by rw [← f7]; exact upd_same
    have R16 := R15.keep m7
    refine fun b8 nb8 => ?_
    generalize f8 : upd h7 b8 (.dK []) = h8 at ⊢
    have m8 : Same h7 h8 := by rw [← f8]; exact Same.new nb8
    have w8 : h8 b8 = some (.dK []) := by rw [← f8]; exact upd_same
    have R17 := R16.keep m8
    refine ⟨(by show 10 ≤ sizeLine; decide), fun b9 nb9 => ?_⟩
    generalize f9 : upd h8 b9 (.tup [.non, .str h, .ref b1, .ref b2, .ref b3, .ref b4, .ref b5, .ref b6, .ref b7, .ref b8]) = h9 at ⊢
    have m9 : Same h8 h9 := by rw [← f9]; exact Same.new nb9
    have w9 : h9 b9 = some (.tup [.non, .str h, .ref b1, .ref b2, .ref b3, .ref b4, .ref b5, .ref b6, .ref b7, .ref b8]) := by rw [← f9]; exact upd_same
    have R18 := R17.keep m9
    have c8 : Same h8 h9 := m9
    have c7 : Same h7 h9 := m8.trans c8
    have c6 : Same h6 h9 := m7.trans c7
    have c5 : Same h5 h9 := m6.trans c6
    have c4 : Same h4 h9 := m5.trans c5
    have c3 : Same h3 h9 := m4.trans c4
    have c2 : Same h2 h9 := m3.trans c3
    have c1 : Same h1 h9 := m2.trans c2
    have c0 : Same H9 h9 := m1.trans c1
    refine ⟨p, g, sa, b9, _, rfl, R18, w9, by simp, by show 10 ≤ 1000; decide, fun bd H10 hbd P10 e10 => ?_⟩
    -- all that is needed of the heap behind
    have o1 := e10.tup R18 (c0 _ _ z1)
    have o2 := e10 _ _ (c0 _ _ z2) nl.1 nl.2
    have o3 := e10.tup R18 (c0 _ _ z3)
    have q1 := e10.tup R18 (c1 _ _ w1)
    have q2 := e10 _ _ (c2 _ _ w2) (P9.keep m1 |>.ne nb2).1.symm (P9.keep m1 |>.ne nb2).2.1.symm
    have q3 := e10.tup R18 (c3 _ _ w3)
    have q4 := e10.tup R18 (c4 _ _ w4)
    have q5 := e10.tup R18 (c5 _ _ w5)
    have q6 := e10.tup R18 (c6 _ _ w6)
    have q7 := e10.tup R18 (c7 _ _ w7)
    have q8 := e10 _ _ (c8 _ _ w8) (R16.ne nb8).1.symm (R16.ne nb8).2.1.symm
    have hodd : ∃ o, IntIs K H10 od o ∧ ∀ i, o = some i → i < 0 := by
      simp only [List.mem_cons, List.not_mem_nil, or_false] at hod
      rcases hod with rfl | rfl | rfl | rfl | rfl | rfl | rfl
      · exact ⟨none, ⟨false, tyis_non, fun z => nomatch z⟩, fun i z => nomatch z⟩
      · exact ⟨some (-1), rfl, fun i z => by cases z; decide⟩
      · exact ⟨none, ⟨true, tyis_bl, fun _ => tyis_bl⟩, fun i z => nomatch z⟩
      · exact ⟨none, ⟨false, tyis_str, fun z => nomatch z⟩, fun i z => nomatch z⟩
      · exact ⟨none, ⟨false, tyis_tup o1, fun z => nomatch z⟩, fun i z => nomatch z⟩
      · exact ⟨none, ⟨false, tyis_lst o2, fun z => nomatch z⟩, fun i z => nomatch z⟩
      · exact ⟨some (0 - 10 ^ (20 : Int).toNat), rfl, fun i z => by cases z; decide⟩
    have hbad : ConIs K H10 3 bd false := by
      have sh : StrIs K H10 (.str h) (some h) := ⟨rfl, Nat.le_trans (by omega : _ ≤ 1000) (by decide)⟩
      have sr : StrIs K H10 (.str r) (some r) := ⟨rfl, Nat.le_trans (by omega : _ ≤ 1000) (by decide)⟩
      simp only [List.mem_cons, List.not_mem_nil, or_false] at hbd
      rcases hbd with rfl | rfl | rfl | rfl | rfl | rfl | rfl | rfl | rfl | rfl
      · exact ⟨none, tyis_non, rfl⟩
      · exact ⟨none, tyis_str, rfl⟩
      · exact con_tup1 q1
      · exact con_lst q2
      · exact con_tup3 q3
      · exact con_tup (oy := some h) (oz := none) q4 sh tyis_non (by show (lettB 3 h && false) = false; rw [Bool.and_false])
      · exact con_tup (oy := none) (oz := some r) q5 tyis_int sr rfl
      · refine con_tup (oy := some (h ++ "d")) (oz := some r) q6 ⟨rfl, ?_⟩ sr ?_
        · rw [str_len, tl_app, List.length_append, ← str_len]
          exact Nat.le_trans (by have : (("d" : Str)).cps.toList.length = 1 := by decide +kernel
                                 omega : _ ≤ 1000) (by decide)
        · have e : lettB 3 (h ++ "d") = false := by
            unfold lettB
            rw [tl_app, List.all_append, show (("d" : Str)).cps.toList = [100] by decide +kernel]
            simp
          show (lettB 3 (h ++ "d") && _) = false
          rw [e]; rfl
      · exact con_tup (oy := some "A") (oz := some "") q7 ⟨rfl, by decide⟩ ⟨rfl, by decide⟩ (by decide +kernel)
      · exact con_dict q8
    obtain ⟨oo, hoo, hneg⟩ := hodd
    -- the words
    refine ⟨_, rfl, _, rfl, bd, od, false, oo, rfl, hbad, hoo, fun _ => ?_, fun z => nomatch z⟩
    refine ⟨_, rfl, bd, .int 0, false, some 0, rfl, hbad, rfl, fun _ => ?_, fun z => nomatch z⟩
    refine ⟨_, rfl, _, rfl, .ref ct, od, true, oo, rfl, (hcon _ o3).is, hoo, (fun z => nomatch z), fun _ => ?_⟩
    refine wordK_of hneg ?_
    refine ⟨_, rfl, .ref ct, .int 0, true, some 0, rfl, (hcon _ o3).is, rfl, (fun z => nomatch z), fun _ => ⟨fun z => by omega, fun _ => ⟨⟨h, r, hcon _ o3⟩, ?_⟩⟩⟩
    refine ⟨(by show 4 ≤ sizeLine; decide), fun u1 nu1 => ?_⟩
    refine ⟨_, rfl, (by show 4 ≤ sizeLine; decide), fun u2 nu2 => ?_⟩
    have k2 : (upd (upd H10 u1 (.lst [.str "content", .str "content", .str "place", .str "told"])) u2 (.lst [.str "content", .str "content", .str "place", .str "told"])) u1 = some (.lst [.str "content", .str "content", .str "place", .str "told"]) := Same.new nu2 _ _ upd_same
    have dd : ∀ H', DpAll K H' [.str "content", .str "content", .str "place", .str "told"] [.str "content", .str "content", .str "place", .str "told"] := fun H' => .cons (.str _) (.cons (.str _) (.cons (.str _) (.cons (.str _) .nil)))
    refine ⟨_, _, .lst (SqL.of k2) (dd _), .lst (SqL.of upd_same) (dd _), by decide +kernel, by decide +kernel, _, rfl, ?_⟩
    rw [show (!PyData.eqv (.list [.str "content", .str "content", .str "place", .str "told"]) (.list [.str "content", .str "content", .str "place", .str "told"])) = false by decide +kernel]
    refine iteF ⟨(P10.upd nu1).upd nu2, _, _, _, _, _, _, _, _, _, _, _, _, rfl⟩
  · rintro σ H2 _
    exact k H2
end
theorem all_mk {l : PySem.W.OpenLaw} (hP : l.prog = PySem.Challenge.pw_wholewalks_k01_whole_signs_of_contents) {w : World} {K : PySem.W.Frag} {h : Heap} {mg : Str → Option Value} {fa : Addr} {f_is_integer f_is_tuple_of f_is_lettered f_is_content_of f_is_content f_need_content f_sign_at f_sign f__law_pot f__law_draw f__law_any f__law_string f__law_word f_law A_NoContent A_NoPlace : Addr} (X : K.In h) (G : h.Ns mainGlobals mg) (hfa : mg "law" = some (.ref fa))
    {od_is_integer an_is_integer od_is_tuple_of an_is_tuple_of od_is_lettered an_is_lettered od_is_content_of an_is_content_of od_is_content an_is_content od_need_content an_need_content od_sign_at an_sign_at od_sign an_sign od__law_pot an__law_pot od__law_draw an__law_draw od__law_any an__law_any od__law_string an__law_string od__law_word an__law_word od_law an_law : Option Addr} {sl_is_integer sl_is_tuple_of sl_is_lettered sl_is_content_of sl_is_content sl_need_content sl_sign_at sl_sign sl__law_pot sl__law_draw sl__law_any sl__law_string sl__law_word sl_law : Array (Option Value)}
    {oc_is_integer kV_is_integer dc_is_integer pm_is_integer cd_is_integer ct_is_integer oc_is_tuple_of kV_is_tuple_of dc_is_tuple_of pm_is_tuple_of cd_is_tuple_of ct_is_tuple_of oc_is_lettered kV_is_lettered dc_is_lettered pm_is_lettered cd_is_lettered ct_is_lettered oc_is_content_of kV_is_content_of dc_is_content_of pm_is_content_of cd_is_content_of ct_is_content_of oc_is_content kV_is_content dc_is_content pm_is_content cd_is_content ct_is_content oc_need_content kV_need_content dc_need_content pm_need_content cd_need_content ct_need_content oc_sign_at kV_sign_at dc_sign_at pm_sign_at cd_sign_at ct_sign_at oc_sign kV_sign dc_sign pm_sign cd_sign ct_sign oc__law_pot kV__law_pot dc__law_pot pm__law_pot cd__law_pot ct__law_pot oc__law_draw kV__law_draw dc__law_draw pm__law_draw cd__law_draw ct__law_draw oc__law_any kV__law_any dc__law_any pm__law_any cd__law_any ct__law_any oc__law_string kV__law_string dc__law_string pm__law_string cd__law_string ct__law_string oc__law_word kV__law_word dc__law_word pm__law_word cd__law_word ct__law_word oc_law kV_law dc_law pm_law cd_law ct_law : Value}
    (a_is_integer : PySem.W.nsIn K mainGlobals "is_integer" = some (some (.ref f_is_integer))) (l_is_integer : K.lookup f_is_integer = some ⟨oc_is_integer, od_is_integer, .func (PySem.W.fnOf "is_integer" "is_integer" (defArgs s_is_integer) (defBody s_is_integer) (defScope s_is_integer) .none kV_is_integer dc_is_integer pm_is_integer an_is_integer cd_is_integer ct_is_integer), sl_is_integer⟩) (c_is_integer : PySem.W.codeIn K cd_is_integer "is_integer" = true) (k_is_integer : PySem.W.keepIn K (.ref f_is_integer) = true)
    (a_is_tuple_of : PySem.W.nsIn K mainGlobals "is_tuple_of" = some (some (.ref f_is_tuple_of))) (l_is_tuple_of : K.lookup f_is_tuple_of = some ⟨oc_is_tuple_of, od_is_tuple_of, .func (PySem.W.fnOf "is_tuple_of" "is_tuple_of" (defArgs s_is_tuple_of) (defBody s_is_tuple_of) (defScope s_is_tuple_of) .none kV_is_tuple_of dc_is_tuple_of pm_is_tuple_of an_is_tuple_of cd_is_tuple_of ct_is_tuple_of), sl_is_tuple_of⟩) (c_is_tuple_of : PySem.W.codeIn K cd_is_tuple_of "is_tuple_of" = true) (k_is_tuple_of : PySem.W.keepIn K (.ref f_is_tuple_of) = true)
    (a_is_lettered : PySem.W.nsIn K mainGlobals "is_lettered" = some (some (.ref f_is_lettered))) (l_is_lettered : K.lookup f_is_lettered = some ⟨oc_is_lettered, od_is_lettered, .func (PySem.W.fnOf "is_lettered" "is_lettered" (defArgs s_is_lettered) (defBody s_is_lettered) (defScope s_is_lettered) .none kV_is_lettered dc_is_lettered pm_is_lettered an_is_lettered cd_is_lettered ct_is_lettered), sl_is_lettered⟩) (c_is_lettered : PySem.W.codeIn K cd_is_lettered "is_lettered" = true) (k_is_lettered : PySem.W.keepIn K (.ref f_is_lettered) = true)
    (a_is_content_of : PySem.W.nsIn K mainGlobals "is_content_of" = some (some (.ref f_is_content_of))) (l_is_content_of : K.lookup f_is_content_of = some ⟨oc_is_content_of, od_is_content_of, .func (PySem.W.fnOf "is_content_of" "is_content_of" (defArgs s_is_content_of) (defBody s_is_content_of) (defScope s_is_content_of) .none kV_is_content_of dc_is_content_of pm_is_content_of an_is_content_of cd_is_content_of ct_is_content_of), sl_is_content_of⟩) (c_is_content_of : PySem.W.codeIn K cd_is_content_of "is_content_of" = true) (k_is_content_of : PySem.W.keepIn K (.ref f_is_content_of) = true)
    (a_is_content : PySem.W.nsIn K mainGlobals "is_content" = some (some (.ref f_is_content))) (l_is_content : K.lookup f_is_content = some ⟨oc_is_content, od_is_content, .func (PySem.W.fnOf "is_content" "is_content" (defArgs s_is_content) (defBody s_is_content) (defScope s_is_content) .none kV_is_content dc_is_content pm_is_content an_is_content cd_is_content ct_is_content), sl_is_content⟩) (c_is_content : PySem.W.codeIn K cd_is_content "is_content" = true) (k_is_content : PySem.W.keepIn K (.ref f_is_content) = true)
    (a_need_content : PySem.W.nsIn K mainGlobals "need_content" = some (some (.ref f_need_content))) (l_need_content : K.lookup f_need_content = some ⟨oc_need_content, od_need_content, .func (PySem.W.fnOf "need_content" "need_content" (defArgs s_need_content) (defBody s_need_content) (defScope s_need_content) .none kV_need_content dc_need_content pm_need_content an_need_content cd_need_content ct_need_content), sl_need_content⟩) (c_need_content : PySem.W.codeIn K cd_need_content "need_content" = true) (k_need_content : PySem.W.keepIn K (.ref f_need_content) = true)
    (a_sign_at : PySem.W.nsIn K mainGlobals "sign_at" = some (some (.ref f_sign_at))) (l_sign_at : K.lookup f_sign_at = some ⟨oc_sign_at, od_sign_at, .func (PySem.W.fnOf "sign_at" "sign_at" (defArgs s_sign_at) (defBody s_sign_at) (defScope s_sign_at) .none kV_sign_at dc_sign_at pm_sign_at an_sign_at cd_sign_at ct_sign_at), sl_sign_at⟩) (c_sign_at : PySem.W.codeIn K cd_sign_at "sign_at" = true) (k_sign_at : PySem.W.keepIn K (.ref f_sign_at) = true)
    (a_sign : PySem.W.nsIn K mainGlobals "sign" = some (some (.ref f_sign))) (l_sign : K.lookup f_sign = some ⟨oc_sign, od_sign, .func (PySem.W.fnOf "sign" "sign" (defArgs s_sign) (defBody s_sign) (defScope s_sign) .none kV_sign dc_sign pm_sign an_sign cd_sign ct_sign), sl_sign⟩) (c_sign : PySem.W.codeIn K cd_sign "sign" = true) (k_sign : PySem.W.keepIn K (.ref f_sign) = true)
    (a__law_pot : PySem.W.nsIn K mainGlobals "_law_pot" = some (some (.ref f__law_pot))) (l__law_pot : K.lookup f__law_pot = some ⟨oc__law_pot, od__law_pot, .func (PySem.W.fnOf "_law_pot" "_law_pot" (defArgs s__law_pot) (defBody s__law_pot) (defScope s__law_pot) .none kV__law_pot dc__law_pot pm__law_pot an__law_pot cd__law_pot ct__law_pot), sl__law_pot⟩) (c__law_pot : PySem.W.codeIn K cd__law_pot "_law_pot" = true) (k__law_pot : PySem.W.keepIn K (.ref f__law_pot) = true)
    (a__law_draw : PySem.W.nsIn K mainGlobals "_law_draw" = some (some (.ref f__law_draw))) (l__law_draw : K.lookup f__law_draw = some ⟨oc__law_draw, od__law_draw, .func (PySem.W.fnOf "_law_draw" "_law_draw" (defArgs s__law_draw) (defBody s__law_draw) (defScope s__law_draw) .none kV__law_draw dc__law_draw pm__law_draw an__law_draw cd__law_draw ct__law_draw), sl__law_draw⟩) (c__law_draw : PySem.W.codeIn K cd__law_draw "_law_draw" = true) (k__law_draw : PySem.W.keepIn K (.ref f__law_draw) = true)
    (a__law_any : PySem.W.nsIn K mainGlobals "_law_any" = some (some (.ref f__law_any))) (l__law_any : K.lookup f__law_any = some ⟨oc__law_any, od__law_any, .func (PySem.W.fnOf "_law_any" "_law_any" (defArgs s__law_any) (defBody s__law_any) (defScope s__law_any) .none kV__law_any dc__law_any pm__law_any an__law_any cd__law_any ct__law_any), sl__law_any⟩) (c__law_any : PySem.W.codeIn K cd__law_any "_law_any" = true) (k__law_any : PySem.W.keepIn K (.ref f__law_any) = true)
    (a__law_string : PySem.W.nsIn K mainGlobals "_law_string" = some (some (.ref f__law_string))) (l__law_string : K.lookup f__law_string = some ⟨oc__law_string, od__law_string, .func (PySem.W.fnOf "_law_string" "_law_string" (defArgs s__law_string) (defBody s__law_string) (defScope s__law_string) .none kV__law_string dc__law_string pm__law_string an__law_string cd__law_string ct__law_string), sl__law_string⟩) (c__law_string : PySem.W.codeIn K cd__law_string "_law_string" = true) (k__law_string : PySem.W.keepIn K (.ref f__law_string) = true)
    (a__law_word : PySem.W.nsIn K mainGlobals "_law_word" = some (some (.ref f__law_word))) (l__law_word : K.lookup f__law_word = some ⟨oc__law_word, od__law_word, .func (PySem.W.fnOf "_law_word" "_law_word" (defArgs s__law_word) (defBody s__law_word) (defScope s__law_word) .none kV__law_word dc__law_word pm__law_word an__law_word cd__law_word ct__law_word), sl__law_word⟩) (c__law_word : PySem.W.codeIn K cd__law_word "_law_word" = true) (k__law_word : PySem.W.keepIn K (.ref f__law_word) = true)
    (a_law : PySem.W.nsIn K mainGlobals "law" = some (some (.ref f_law))) (l_law : K.lookup f_law = some ⟨oc_law, od_law, .func (PySem.W.fnOf "law" "law" (defArgs s_law) (defBody s_law) (defScope s_law) .none kV_law dc_law pm_law an_law cd_law ct_law), sl_law⟩) (c_law : PySem.W.codeIn K cd_law "law" = true) (k_law : PySem.W.keepIn K (.ref f_law) = true)
    (z_abs : PySem.W.nsIn K mainGlobals "abs" = some none)
    (z_bool : PySem.W.nsIn K mainGlobals "bool" = some none)
    (z_int : PySem.W.nsIn K mainGlobals "int" = some none)
    (z_isinstance : PySem.W.nsIn K mainGlobals "isinstance" = some none)
    (z_len : PySem.W.nsIn K mainGlobals "len" = some none)
    (z_range : PySem.W.nsIn K mainGlobals "range" = some none)
    (z_str : PySem.W.nsIn K mainGlobals "str" = some none)
    (z_sum : PySem.W.nsIn K mainGlobals "sum" = some none)
    (z_tuple : PySem.W.nsIn K mainGlobals "tuple" = some none)
    (z_super : PySem.W.nsIn K mainGlobals "super" = some none)
    {t_LETTERS : Tok} (g_LETTERS : PySem.W.nsIn K mainGlobals "LETTERS" = some (some (.str "abc" t_LETTERS)))
    (stat : PySem.W.nsIn K PySem.cStatics "thirdparty.any" = some none)
    {nm_NoContent qn_NoContent : Str} {Nn_NoContent : Addr} {bs_NoContent bm_NoContent : List Value} {sn_NoContent : List Str} {sub_NoContent : List Value} {ab_NoContent : Bool} {col_NoContent : Option Bool} {dd_NoContent : Option Addr} {k0_NoContent k1_NoContent k2_NoContent k3_NoContent k5_NoContent : Option Value}
    (n_NoContent : PySem.W.nsIn K mainGlobals "NoContent" = some (some (.ref A_NoContent))) (x_NoContent : K.lookup A_NoContent = some (excClassObj nm_NoContent qn_NoContent A_NoContent Nn_NoContent bs_NoContent bm_NoContent true sn_NoContent sub_NoContent ab_NoContent col_NoContent dd_NoContent k0_NoContent k1_NoContent k2_NoContent k3_NoContent k5_NoContent "ValueError.__new__")) (r_NoContent : PySem.HandSPX.refsVE bm_NoContent = true)
    (kp_NoContent : PySem.W.keepIn K (.ref A_NoContent) = true) (ex_NoContent : PySem.W.subIn K (.ref A_NoContent) (.type "BaseException") = some true) (ty_NoContent : PySem.W.typeIn K (.ref A_NoContent) = some (.type "type")) (su_NoContent : PySem.W.ks_superIn K A_NoContent A_NoContent "__init__" = some (some (.builtin "ValueError.__init__"))) (ve_NoContent : PySem.W.subIn K (.ref A_NoContent) (.type "ValueError") = some true) (mr_NoContent : PySem.W.mroIn K A_NoContent (.ref A_NoContent) = some true) (ic_NoContent : PySem.W.isClsIn K A_NoContent = true)
    {fI_NoContent cda_NoContent cc_NoContent : Addr} {ioc_NoContent : Value} {iod_NoContent : Option Addr} {iqn_NoContent : Str} {ikV_NoContent idc_NoContent ipm_NoContent : Value} {ian_NoContent : Option Addr} {ict_NoContent : Value} {iosl_NoContent : Array (Option Value)} {p0_NoContent q1_NoContent q2_NoContent q3_NoContent q4_NoContent q5_NoContent : Pos}
    (i_NoContent : PySem.W.findIn K (.ref A_NoContent) "__init__" = some (some (.ref fI_NoContent))) (it_NoContent : PySem.W.typeIn K (.ref fI_NoContent) = some (.type "function")) (il_NoContent : K.lookup fI_NoContent = some ⟨ioc_NoContent, iod_NoContent, .func (PySem.W.ksFn "__init__" iqn_NoContent (PySem.NoX.nA p0_NoContent) (PySem.NoX.nB q1_NoContent q2_NoContent q3_NoContent q4_NoContent q5_NoContent) PySem.NoX.nS .none ikV_NoContent idc_NoContent ipm_NoContent ian_NoContent (.ref cda_NoContent) ict_NoContent cc_NoContent), iosl_NoContent⟩) (icd_NoContent : PySem.W.codeIn K (.ref cda_NoContent) iqn_NoContent = true)
    {ccl_NoContent : Value} {cdd_NoContent : Option Addr} {vs_NoContent : Array Value} {ccs_NoContent : Array (Option Value)} {fi_NoContent : Str} {tf_NoContent : Tok} (co_NoContent : K.lookup cda_NoContent = some ⟨ccl_NoContent, cdd_NoContent, .fields vs_NoContent, ccs_NoContent⟩) (cv_NoContent : vs_NoContent[2]? = some (.str fi_NoContent tf_NoContent)) (cf_NoContent : ((PySem.Challenge.pw_wholewalks_k01_whole_signs_of_contents.main.file : Str) == fi_NoContent) = true)
    {cl_NoContent : Value} {cld_NoContent : Option Addr} {csl_NoContent : Array (Option Value)} (ce_NoContent : K.lookup cc_NoContent = some ⟨cl_NoContent, cld_NoContent, .cell (some (.ref A_NoContent)), csl_NoContent⟩) (se_NoContent : PySem.NoX.SupEq q1_NoContent q2_NoContent q3_NoContent q4_NoContent)
    {nm_NoPlace qn_NoPlace : Str} {Nn_NoPlace : Addr} {bs_NoPlace bm_NoPlace : List Value} {sn_NoPlace : List Str} {sub_NoPlace : List Value} {ab_NoPlace : Bool} {col_NoPlace : Option Bool} {dd_NoPlace : Option Addr} {k0_NoPlace k1_NoPlace k2_NoPlace k3_NoPlace k5_NoPlace : Option Value}
    (n_NoPlace : PySem.W.nsIn K mainGlobals "NoPlace" = some (some (.ref A_NoPlace))) (x_NoPlace : K.lookup A_NoPlace = some (excClassObj nm_NoPlace qn_NoPlace A_NoPlace Nn_NoPlace bs_NoPlace bm_NoPlace true sn_NoPlace sub_NoPlace ab_NoPlace col_NoPlace dd_NoPlace k0_NoPlace k1_NoPlace k2_NoPlace k3_NoPlace k5_NoPlace "ValueError.__new__")) (r_NoPlace : PySem.HandSPX.refsVE bm_NoPlace = true)
    (kp_NoPlace : PySem.W.keepIn K (.ref A_NoPlace) = true) (ex_NoPlace : PySem.W.subIn K (.ref A_NoPlace) (.type "BaseException") = some true) (ty_NoPlace : PySem.W.typeIn K (.ref A_NoPlace) = some (.type "type")) (su_NoPlace : PySem.W.ks_superIn K A_NoPlace A_NoPlace "__init__" = some (some (.builtin "ValueError.__init__"))) (ve_NoPlace : PySem.W.subIn K (.ref A_NoPlace) (.type "ValueError") = some true) (mr_NoPlace : PySem.W.mroIn K A_NoPlace (.ref A_NoPlace) = some true) (ic_NoPlace : PySem.W.isClsIn K A_NoPlace = true)
    {fI_NoPlace cda_NoPlace cc_NoPlace : Addr} {ioc_NoPlace : Value} {iod_NoPlace : Option Addr} {iqn_NoPlace : Str} {ikV_NoPlace idc_NoPlace ipm_NoPlace : Value} {ian_NoPlace : Option Addr} {ict_NoPlace : Value} {iosl_NoPlace : Array (Option Value)} {p0_NoPlace q1_NoPlace q2_NoPlace q3_NoPlace q4_NoPlace q5_NoPlace : Pos}
    (i_NoPlace : PySem.W.findIn K (.ref A_NoPlace) "__init__" = some (some (.ref fI_NoPlace))) (it_NoPlace : PySem.W.typeIn K (.ref fI_NoPlace) = some (.type "function")) (il_NoPlace : K.lookup fI_NoPlace = some ⟨ioc_NoPlace, iod_NoPlace, .func (PySem.W.ksFn "__init__" iqn_NoPlace (PySem.NoX.nA p0_NoPlace) (PySem.NoX.nB q1_NoPlace q2_NoPlace q3_NoPlace q4_NoPlace q5_NoPlace) PySem.NoX.nS .none ikV_NoPlace idc_NoPlace ipm_NoPlace ian_NoPlace (.ref cda_NoPlace) ict_NoPlace cc_NoPlace), iosl_NoPlace⟩) (icd_NoPlace : PySem.W.codeIn K (.ref cda_NoPlace) iqn_NoPlace = true)
    {ccl_NoPlace : Value} {cdd_NoPlace : Option Addr} {vs_NoPlace : Array Value} {ccs_NoPlace : Array (Option Value)} {fi_NoPlace : Str} {tf_NoPlace : Tok} (co_NoPlace : K.lookup cda_NoPlace = some ⟨ccl_NoPlace, cdd_NoPlace, .fields vs_NoPlace, ccs_NoPlace⟩) (cv_NoPlace : vs_NoPlace[2]? = some (.str fi_NoPlace tf_NoPlace)) (cf_NoPlace : ((PySem.Challenge.pw_wholewalks_k01_whole_signs_of_contents.main.file : Str) == fi_NoPlace) = true)
    {cl_NoPlace : Value} {cld_NoPlace : Option Addr} {csl_NoPlace : Array (Option Value)} (ce_NoPlace : K.lookup cc_NoPlace = some ⟨cl_NoPlace, cld_NoPlace, .cell (some (.ref A_NoPlace)), csl_NoPlace⟩) (se_NoPlace : PySem.NoX.SupEq q1_NoPlace q2_NoPlace q3_NoPlace q4_NoPlace)
    (p_NoContent_NoContent : PySem.W.subIn K (.ref A_NoContent) (.ref A_NoContent) = some true)
    (p_NoPlace_NoContent : PySem.W.subIn K (.ref A_NoPlace) (.ref A_NoContent) = some false)
    (p_NoContent_NoPlace : PySem.W.subIn K (.ref A_NoContent) (.ref A_NoPlace) = some false)
    (p_NoPlace_NoPlace : PySem.W.subIn K (.ref A_NoPlace) (.ref A_NoPlace) = some true)
    : ∃ fd : FuncData, (∀ (s : Shared) (v : Value), BindsTo s fd ⟨[v], []⟩ [("script", v)]) ∧ ∀ base : Heap, K.In base → base.Ns mainGlobals mg → FnOk l.prog w K mg base (L2.CX l.prog w) 7 fa fd ["script"] (spLaw K) := by
  rw [hP]
  have e := hfa.symm.trans (PySem.W.mg_of X G a_law)
  cases e
  have T : Txt PySem.Challenge.pw_wholewalks_k01_whole_signs_of_contents K mg ⟨A_NoContent, A_NoPlace, 0⟩ := ⟨PySem.W.mg_none_of X G z_abs,
    PySem.W.mg_none_of X G z_bool,
    PySem.W.mg_none_of X G z_int,
    PySem.W.mg_none_of X G z_isinstance,
    PySem.W.mg_none_of X G z_len,
    PySem.W.mg_none_of X G z_range,
    PySem.W.mg_none_of X G z_str,
    PySem.W.mg_none_of X G z_sum,
    PySem.W.mg_none_of X G z_tuple,
    ⟨PySem.W.mg_of X G n_NoContent, ⟨_, _, _, _, _, _, _, _, _, _, _, _, _, _, _, x_NoContent, r_NoContent⟩, kp_NoContent, ex_NoContent, ty_NoContent, su_NoContent, ve_NoContent, mr_NoContent, PySem.W.mg_none_of X G z_super, by decide +kernel, stat, ⟨fI_NoContent, _, _, _, _, _, _, _, _, _, _, _, _, _, _, _, _, _, i_NoContent, it_NoContent, il_NoContent, icd_NoContent, ⟨_, _, _, _, _, _, co_NoContent, cv_NoContent, cf_NoContent⟩, ⟨_, _, _, ce_NoContent⟩, se_NoContent⟩⟩,
    ⟨PySem.W.mg_of X G n_NoPlace, ⟨_, _, _, _, _, _, _, _, _, _, _, _, _, _, _, x_NoPlace, r_NoPlace⟩, kp_NoPlace, ex_NoPlace, ty_NoPlace, su_NoPlace, ve_NoPlace, mr_NoPlace, PySem.W.mg_none_of X G z_super, by decide +kernel, stat, ⟨fI_NoPlace, _, _, _, _, _, _, _, _, _, _, _, _, _, _, _, _, _, i_NoPlace, it_NoPlace, il_NoPlace, icd_NoPlace, ⟨_, _, _, _, _, _, co_NoPlace, cv_NoPlace, cf_NoPlace⟩, ⟨_, _, _, ce_NoPlace⟩, se_NoPlace⟩⟩,
    exm_by ex_NoContent ic_NoContent ty_NoContent p_NoContent_NoContent,
    exm_by ex_NoContent ic_NoContent ty_NoContent p_NoPlace_NoContent,
    exm_by ex_NoPlace ic_NoPlace ty_NoPlace p_NoContent_NoPlace,
    exm_by ex_NoPlace ic_NoPlace ty_NoPlace p_NoPlace_NoPlace,
    ⟨_, PySem.W.mg_of X G g_LETTERS⟩⟩
  have F_is_integer := fun_mk (st := s_is_integer) l_is_integer c_is_integer k_is_integer
  have b_is_integer := F_is_integer.binds (ps := ["thing"]) fun _ _ _ _ _ _ us hl => match us, hl with | [_], _ => rfl
  have F_is_tuple_of := fun_mk (st := s_is_tuple_of) l_is_tuple_of c_is_tuple_of k_is_tuple_of
  have b_is_tuple_of := F_is_tuple_of.binds (ps := ["many", "thing"]) fun _ _ _ _ _ _ us hl => match us, hl with | [_, _], _ => rfl
  have F_is_lettered := fun_mk (st := s_is_lettered) l_is_lettered c_is_lettered k_is_lettered
  have b_is_lettered := F_is_lettered.binds (ps := ["letters", "thing"]) fun _ _ _ _ _ _ us hl => match us, hl with | [_, _], _ => rfl
  have F_is_content_of := fun_mk (st := s_is_content_of) l_is_content_of c_is_content_of k_is_content_of
  have b_is_content_of := F_is_content_of.binds (ps := ["letters", "thing"]) fun _ _ _ _ _ _ us hl => match us, hl with | [_, _], _ => rfl
  have F_is_content := fun_mk (st := s_is_content) l_is_content c_is_content k_is_content
  have b_is_content := F_is_content.binds (ps := ["thing"]) fun _ _ _ _ _ _ us hl => match us, hl with | [_], _ => rfl
  have F_need_content := fun_mk (st := s_need_content) l_need_content c_need_content k_need_content
  have b_need_content := F_need_content.binds (ps := ["thing"]) fun _ _ _ _ _ _ us hl => match us, hl with | [_], _ => rfl
  have F_sign_at := fun_mk (st := s_sign_at) l_sign_at c_sign_at k_sign_at
  have b_sign_at := F_sign_at.binds (ps := ["content", "place"]) fun _ _ _ _ _ _ us hl => match us, hl with | [_, _], _ => rfl
  have F_sign := fun_mk (st := s_sign) l_sign c_sign k_sign
  have b_sign := F_sign.binds (ps := ["content", "place"]) fun _ _ _ _ _ _ us hl => match us, hl with | [_, _], _ => rfl
  have F__law_pot := fun_mk (st := s__law_pot) l__law_pot c__law_pot k__law_pot
  have b__law_pot := F__law_pot.binds (ps := ["script"]) fun _ _ _ _ _ _ us hl => match us, hl with | [_], _ => rfl
  have F__law_draw := fun_mk (st := s__law_draw) l__law_draw c__law_draw k__law_draw
  have b__law_draw := F__law_draw.binds (ps := ["pot", "many"]) fun _ _ _ _ _ _ us hl => match us, hl with | [_, _], _ => rfl
  have F__law_any := fun_mk (st := s__law_any) l__law_any c__law_any k__law_any
  have b__law_any := F__law_any.binds (ps := ["pot", "items"]) fun _ _ _ _ _ _ us hl => match us, hl with | [_, _], _ => rfl
  have F__law_string := fun_mk (st := s__law_string) l__law_string c__law_string k__law_string
  have b__law_string := F__law_string.binds (ps := ["pot", "letters", "most"]) fun _ _ _ _ _ _ us hl => match us, hl with | [_, _, _], _ => rfl
  have F__law_word := fun_mk (st := s__law_word) l__law_word c__law_word k__law_word
  have b__law_word := F__law_word.binds (ps := ["content", "place"]) fun _ _ _ _ _ _ us hl => match us, hl with | [_, _], _ => rfl
  have F_law := fun_mk (st := s_law) l_law c_law k_law
  refine ⟨PySem.W.fnOf "law" "law" (defArgs s_law) (defBody s_law) (defScope s_law) .none kV_law dc_law pm_law an_law cd_law ct_law, fun s v => .of_eq rfl, fun base _ _ => ?_⟩
  have D_is_integer := defOk_of (base := base) (w := w) (PySem.W.mg_of X G a_is_integer) k_is_integer b_is_integer (ok_is_integer F_is_integer T)
  have D_is_tuple_of := defOk_of (base := base) (w := w) (PySem.W.mg_of X G a_is_tuple_of) k_is_tuple_of b_is_tuple_of (ok_is_tuple_of F_is_tuple_of T)
  have D_is_lettered := defOk_of (base := base) (w := w) (PySem.W.mg_of X G a_is_lettered) k_is_lettered b_is_lettered (ok_is_lettered F_is_lettered T)
  have D_is_content_of := defOk_of (base := base) (w := w) (PySem.W.mg_of X G a_is_content_of) k_is_content_of b_is_content_of (ok_is_content_of F_is_content_of T D_is_tuple_of D_is_lettered)
  have D_is_content := defOk_of (base := base) (w := w) (PySem.W.mg_of X G a_is_content) k_is_content b_is_content (ok_is_content F_is_content T D_is_content_of)
  have D_need_content := defOk_of (base := base) (w := w) (PySem.W.mg_of X G a_need_content) k_need_content b_need_content (ok_need_content F_need_content T D_is_content)
  have D_sign_at := defOk_of (base := base) (w := w) (PySem.W.mg_of X G a_sign_at) k_sign_at b_sign_at (ok_sign_at F_sign_at T)
  have D_sign := defOk_of (base := base) (w := w) (PySem.W.mg_of X G a_sign) k_sign b_sign (ok_sign F_sign T D_need_content D_sign_at D_is_integer)
  have D__law_pot := defOk_of (base := base) (w := w) (PySem.W.mg_of X G a__law_pot) k__law_pot b__law_pot (ok__law_pot F__law_pot T)
  have D__law_draw := defOk_of (base := base) (w := w) (PySem.W.mg_of X G a__law_draw) k__law_draw b__law_draw (ok__law_draw F__law_draw T)
  have D__law_any := defOk_of (base := base) (w := w) (PySem.W.mg_of X G a__law_any) k__law_any b__law_any (ok__law_any F__law_any T D__law_draw)
  have D__law_string := defOk_of (base := base) (w := w) (PySem.W.mg_of X G a__law_string) k__law_string b__law_string (ok__law_string F__law_string T D__law_draw)
  have D__law_word := defOk_of (base := base) (w := w) (PySem.W.mg_of X G a__law_word) k__law_word b__law_word (ok__law_word F__law_word T D_sign)
  exact ok_law F_law T D__law_pot D__law_any D__law_draw D__law_string D_sign D__law_word
end Law
open PySem PySem.W PyProof.Rows
set_option maxRecDepth 100000 in
set_option maxHeartbeats 0 in
theorem PySem.Challenge.cw_wholewalks_k01_whole_signs_of_contents_holds : PySem.Challenge.rw_wholewalks_k01_whole_signs_of_contents.Holds := by
  w_on; o_law; k_head; (case hw => w_witness2)
  k_fill
  refine L2.walk_of (l := PySem.Challenge.rw_wholewalks_k01_whole_signs_of_contents) (n := 63) (k := 7) (x := "script") (CX := fun w => L2.CX PySem.Challenge.rw_wholewalks_k01_whole_signs_of_contents.prog w) (sp := fun w => Law.spLaw _) rfl (by decide) rfl ⟨rfl, by decide, by decide⟩ (fun w h Y => PySem.W.kIn_of Y) ?F (fun _ _ a ns hl _ hS => ⟨a, ns, rfl, hS, hl, fun _ => rfl⟩) (fun _ _ _ _ _ z => by obtain ⟨_, _, _, _, _, _, _, _, _, _, _, _, z⟩ := z; exact z.elim)
  case F =>
    intro w mg fa h KX G hmg
    refine' Law.all_mk (l := PySem.Challenge.rw_wholewalks_k01_whole_signs_of_contents) rfl KX G hmg ?a_is_integer ?l_is_integer ?c_is_integer ?k_is_integer ?a_is_tuple_of ?l_is_tuple_of ?c_is_tuple_of ?k_is_tuple_of ?a_is_lettered ?l_is_lettered ?c_is_lettered ?k_is_lettered ?a_is_content_of ?l_is_content_of ?c_is_content_of ?k_is_content_of ?a_is_content ?l_is_content ?c_is_content ?k_is_content ?a_need_content ?l_need_content ?c_need_content ?k_need_content ?a_sign_at ?l_sign_at ?c_sign_at ?k_sign_at ?a_sign ?l_sign ?c_sign ?k_sign ?a__law_pot ?l__law_pot ?c__law_pot ?k__law_pot ?a__law_draw ?l__law_draw ?c__law_draw ?k__law_draw ?a__law_any ?l__law_any ?c__law_any ?k__law_any ?a__law_string ?l__law_string ?c__law_string ?k__law_string ?a__law_word ?l__law_word ?c__law_word ?k__law_word ?a_law ?l_law ?c_law ?k_law ?z_abs ?z_bool ?z_int ?z_isinstance ?z_len ?z_range ?z_str ?z_sum ?z_tuple ?z_super ?g_LETTERS ?stat ?n_NoContent ?x_NoContent ?r_NoContent ?kp_NoContent ?ex_NoContent ?ty_NoContent ?su_NoContent ?ve_NoContent ?mr_NoContent ?ic_NoContent ?i_NoContent ?it_NoContent ?il_NoContent ?icd_NoContent ?co_NoContent ?cv_NoContent ?cf_NoContent ?ce_NoContent ?se_NoContent ?n_NoPlace ?x_NoPlace ?r_NoPlace ?kp_NoPlace ?ex_NoPlace ?ty_NoPlace ?su_NoPlace ?ve_NoPlace ?mr_NoPlace ?ic_NoPlace ?i_NoPlace ?it_NoPlace ?il_NoPlace ?icd_NoPlace ?co_NoPlace ?cv_NoPlace ?cf_NoPlace ?ce_NoPlace ?se_NoPlace ?p_NoContent_NoContent ?p_NoPlace_NoContent ?p_NoContent_NoPlace ?p_NoPlace_NoPlace
    (case a_is_integer => k_is)
    (case l_is_integer => k_is)
    (case c_is_integer => k_is)
    (case k_is_integer => k_is)
    (case a_is_tuple_of => k_is)
    (case l_is_tuple_of => k_is)
    (case c_is_tuple_of => k_is)
    (case k_is_tuple_of => k_is)
    (case a_is_lettered => k_is)
    (case l_is_lettered => k_is)
    (case c_is_lettered => k_is)
    (case k_is_lettered => k_is)
    (case a_is_content_of => k_is)
    (case l_is_content_of => k_is)
    (case c_is_content_of => k_is)
    (case k_is_content_of => k_is)
    (case a_is_content => k_is)
    (case l_is_content => k_is)
    (case c_is_content => k_is)
    (case k_is_content => k_is)
    (case a_need_content => k_is)
    (case l_need_content => k_is)
    (case c_need_content => k_is)
    (case k_need_content => k_is)
    (case a_sign_at => k_is)
    (case l_sign_at => k_is)
    (case c_sign_at => k_is)
    (case k_sign_at => k_is)
    (case a_sign => k_is)
    (case l_sign => k_is)
    (case c_sign => k_is)
    (case k_sign => k_is)
    (case a__law_pot => k_is)
    (case l__law_pot => k_is)
    (case c__law_pot => k_is)
    (case k__law_pot => k_is)
    (case a__law_draw => k_is)
    (case l__law_draw => k_is)
    (case c__law_draw => k_is)
    (case k__law_draw => k_is)
    (case a__law_any => k_is)
    (case l__law_any => k_is)
    (case c__law_any => k_is)
    (case k__law_any => k_is)
    (case a__law_string => k_is)
    (case l__law_string => k_is)
    (case c__law_string => k_is)
    (case k__law_string => k_is)
    (case a__law_word => k_is)
    (case l__law_word => k_is)
    (case c__law_word => k_is)
    (case k__law_word => k_is)
    (case a_law => k_is)
    (case l_law => k_is)
    (case c_law => k_is)
    (case k_law => k_is)
    (case z_abs => k_is)
    (case z_bool => k_is)
    (case z_int => k_is)
    (case z_isinstance => k_is)
    (case z_len => k_is)
    (case z_range => k_is)
    (case z_str => k_is)
    (case z_sum => k_is)
    (case z_tuple => k_is)
    (case z_super => k_is)
    (case g_LETTERS => k_is)
    (case stat => k_is)
    (case n_NoContent => k_is)
    (case x_NoContent => k_is)
    (case r_NoContent => decide +kernel)
    (case kp_NoContent => k_is)
    (case ex_NoContent => k_is)
    (case ty_NoContent => k_is)
    (case su_NoContent => first | k_is | ks_is)
    (case ve_NoContent => k_is)
    (case mr_NoContent => k_is)
    (case ic_NoContent => k_is)
    (case i_NoContent => k_is)
    (case it_NoContent => k_is)
    (case il_NoContent => k_is)
    (case icd_NoContent => k_is)
    (case co_NoContent => k_is)
    (case cv_NoContent => rfl)
    (case cf_NoContent => decide +kernel)
    (case ce_NoContent => k_is)
    (case se_NoContent => exact ⟨_, fun _ => rfl⟩)
    (case n_NoPlace => k_is)
    (case x_NoPlace => k_is)
    (case r_NoPlace => decide +kernel)
    (case kp_NoPlace => k_is)
    (case ex_NoPlace => k_is)
    (case ty_NoPlace => k_is)
    (case su_NoPlace => first | k_is | ks_is)
    (case ve_NoPlace => k_is)
    (case mr_NoPlace => k_is)
    (case ic_NoPlace => k_is)
    (case i_NoPlace => k_is)
    (case it_NoPlace => k_is)
    (case il_NoPlace => k_is)
    (case icd_NoPlace => k_is)
    (case co_NoPlace => k_is)
    (case cv_NoPlace => rfl)
    (case cf_NoPlace => decide +kernel)
    (case ce_NoPlace => k_is)
    (case se_NoPlace => exact ⟨_, fun _ => rfl⟩)
    (case p_NoContent_NoContent => first | rfl | k_is)
    (case p_NoPlace_NoContent => first | rfl | k_is)
    (case p_NoContent_NoPlace => first | rfl | k_is)
    (case p_NoPlace_NoPlace => first | rfl | k_is)
#print axioms PySem.Challenge.cw_wholewalks_k01_whole_signs_of_contents_holds
