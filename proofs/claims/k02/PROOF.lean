import PyProof.Rows.All
import Wide.All
import OpenK.AllK
import Wide.FinOn
import HandS.ForSpec
import HandS.TryMany
import HandS.ExcBuiltin
import KE.KExcSuper
import HandS.ForMost
import HandS.ForExc
import HandS.IsInst
import HandS.StrMore
import HandS.TupAny
import HandS.Style
import HandS.Evl
import PySem.Challenge.RW_wholewalks_k02_whole_least_contents
set_option Elab.async false
set_option linter.all false
set_option maxRecDepth 100000
set_option maxHeartbeats 4000000
/-! ### an own exception over ValueError whose __init__ takes nothing and says super().__init__() -/
namespace PySem
namespace NoX
open PySem.W PySem.Calls PyProof.Rows PySem.HandSPX
def nA (p : Pos) : Arguments := { posonlyargs := [], args := [{ arg := "self", annotation := none, pos := p }], vararg := none, kwonlyargs := [], kw_defaults := [], kwarg := none, defaults := [] }
def nB (q1 q2 q3 q4 q5 : Pos) : List Stmt := [.Expr (.Call (.Attribute (.Call (.Name "super" q1) [] [] q2) "__init__" q3) [] [] q4) q5]
def nS : Scope := { kind := .function, names := [(PySem.Str.ofString "self", .local), (PySem.Str.ofString "__class__", .free), (PySem.Str.ofString "super", .globalImplicit)], isGenerator := false, isCoroutine := false, more := [] }
/-- super().__init__() is a method's call (at its written places) -/
def SupEq (q1 q2 q3 q4 : Pos) : Prop := ∃ pl : Env → Sem Bool, ∀ env : Env, eval (.Call (.Attribute (.Call (.Name "super" q1) [] [] q2) "__init__" q3) [] [] q4) env = (do
      let ov ← attributeBase (.Call (.Name "super" q1) [] [] q2) "__init__" env (eval (.Call (.Name "super" q1) [] [] q2) env)
      standAt q3.atName
      let (f, first) ← holding [ov] (getMethod ov "__init__" (pl env))
      callWith q4 f first (backTo q4 (starEach [] env)) [])
structure NoTxt (P : Program) (K : Frag) (mg : Str → Option Value) (x : Str) (C : Addr) : Prop where
  gC : mg x = some (.ref C)
  cls : ∃ nm q N bs bm sn sub ab col dd k0 k1 k2 k3 k5, K.lookup C = some (excClassObj nm q C N bs bm true sn sub ab col dd k0 k1 k2 k3 k5 "ValueError.__new__") ∧ refsVE bm = true
  kC : keepIn K (.ref C) = true
  exC : subIn K (.ref C) (.type "BaseException") = some true
  tyC : typeIn K (.ref C) = some (.type "type")
  hm : ks_superIn K C C "__init__" = some (some (.builtin "ValueError.__init__"))
  veC : subIn K (.ref C) (.type "ValueError") = some true
  sub : mroIn K C (.ref C) = some true
  sup : mg "super" = none
  top : (P.main.scope.names.lookup ("super" : Str)).isSome = false
  any : nsIn K cStatics "thirdparty.any" = some none
  fn : ∃ (fI : Addr) (oc : Value) (od : Option Addr) (qn : Str) (kV doc pm : Value) (an : Option Addr) (cda : Addr) (ct : Value) (cc : Addr) (osl : Array (Option Value)) (p0 q1 q2 q3 q4 q5 : Pos),
    findIn K (.ref C) "__init__" = some (some (.ref fI)) ∧ typeIn K (.ref fI) = some (.type "function") ∧
    K.lookup fI = some ⟨oc, od, .func (ksFn "__init__" qn (nA p0) (nB q1 q2 q3 q4 q5) nS .none kV doc pm an (.ref cda) ct cc), osl⟩ ∧ codeIn K (.ref cda) qn = true ∧
    (∃ (ccl : Value) (cdd : Option Addr) (vs : Array Value) (ccs : Array (Option Value)) (file : Str) (tf : Tok), K.lookup cda = some ⟨ccl, cdd, .fields vs, ccs⟩ ∧ vs[2]? = some (.str file tf) ∧ ((P.main.file : Str) == file) = true) ∧
    (∃ (cl : Value) (cld : Option Addr) (csl : Array (Option Value)), K.lookup cc = some ⟨cl, cld, .cell (some (.ref C)), csl⟩) ∧ SupEq q1 q2 q3 q4
section
variable {prog : Program} {w : World} {M : Model} {A : Around} {E : Value → Shared → Prop} {h : Heap} {g : Array GenState} {d : Drawn} {t : Nat} {os : OsState}
variable {nm q : Str} {C N : Addr} {bs bm : List Value} {hdct : Bool} {sn : List Str} {sub : List Value} {ab : Bool} {col : Option Bool} {dd : Option Addr} {k0 k1 k2 k3 k5 : Option Value}
theorem call_bwV {u e t0 : Addr} {Q : Value → Shared → Prop}
    (hC : h.get? C = some (excClassObj nm q C N bs bm hdct sn sub ab col dd k0 k1 k2 k3 k5 "ValueError.__new__")) (he : h.get? e = some (excO C t0)) (hu : h.get? u = some (kxs_mw "ValueError.__init__" e))
    (hq : ∀ h' t1, (∀ b o, b ≠ e → h.get? b = some o → h'.get? b = some o) → h'.get? e = some (excO C t1) → Q .none ⟨h', g, d, t, os⟩) :
    wpAny (model prog w) A (call (.ref u) []) Q E ⟨h, g, d, t, os⟩ := by
  refine wpAny_call (codeAny_of_tree ?_)
  show wpAny _ A.in1 (callAny (.ref u) ⟨[], []⟩) _ _ _
  simp only [callAny]
  refine wpAny_bind (wpAny_load hu ?_)
  simp only [kxs_mw, show (Value.type "method-wrapper" == Value.type "method" || Value.type "method-wrapper" == Value.type "builtin_function_or_method" || Value.type "method-wrapper" == Value.type "method-wrapper") = true by decide, if_true]
  refine W.KFB.if_so (by decide) ?_
  refine wpAny_bind (check_bound_init F.excBase_ValueError.toExcCallFacts hC he rfl ?_)
  refine wpAny_bind (wpAny_pure (wpAny_pure ?_))
  refine ⟨Code.quiet_builtin _ (by decide +kernel), codeAny_builtin F.excBase_ValueError.initEntry ?_⟩
  rw [Around.under_plainId F.excBase_ValueError.init.plain _]
  wp_walk
  refine hq _ h.objs.size (fun b o hb ho => ?_) ?_
  · rw [Heap.get?_update_other _ _ (Ne.symm hb)]
    exact Heap.get?_push_of_some _ ho
  · rw [Heap.get?_update_self _ (Heap.get?_push_of_some _ he) rfl]
    rfl
end
section
variable {prog : Program} {w : World} {A : Around} {E : Value → Shared → Prop} {R : Result → Shared → Prop} {s : Shared} {K : Frag} {mg : Str → Option Value} {base : Heap} {x : Str} {C : Addr}
theorem no_init (T : NoTxt prog K mg x C) (hM : L2.Mod K mg base) (kb : ∀ b o, base.get? b = some o → s.heap.get? b = some o) {fI e t0 : Addr} (hi : findIn K (.ref C) "__init__" = some (some (.ref fI))) (hx : s.heap.get? e = some (excO C t0)) (hroom : A.depth < recursionLimit)
    (hq : ∀ h' tk t1, (∀ b o, b ≠ e → s.heap.get? b = some o → h'.get? b = some o) → h'.get? e = some (excO C t1) → R (.ok (.ret .none)) { s with heap := h', toks := tk }) :
    codeAny (model prog w) A (.call (.ref fI) ⟨[.ref e], []⟩) R s := by
  obtain ⟨nm, q, N, bs, bm, sn, sub, ab, col, dd, k0, k1, k2, k3, k5, hC, hbm⟩ := T.cls
  obtain ⟨fI', oc, od, qn, kV, doc, pm, an, cda, ct, cc, osl, p0, q1, q2, q3, q4, q5, hi', tI, lk, hcd, ⟨ccl, cdd, vs, ccs, file, tf, hcode, hvs, hfile⟩, ⟨cl, cld, csl, hcell⟩, pl, hpl⟩ := T.fn
  have e1 : fI' = fI := by
    rw [hi'] at hi
    injection hi with hi
    injection hi with hi
    injection hi
  subst e1
  have X : K.In s.heap := hM.kin.keeps kb
  have hcl : clsIn K C = some { name := nm, bases := bs, mro := .ref C :: bm, ns := N, qualname := q, hasDict := true, slotNames := sn, subclasses := sub, abstract := ab, collection := col, hasDel := false } := by unfold clsIn; rw [hC] <;> rfl
  refine ks_codeAny_call_defAt (fd := ksFn "__init__" qn (nA p0) (nB q1 q2 q3 q4 q5) nS .none kV doc pm an (.ref cda) ct cc) (body := nB q1 q2 q3 q4 q5) (binds := [("self", .ref e)]) hroom (X _ _ lk) rfl (hM.nolimit.keeps kb) (codeRec_of X hcd) rfl (BindsTo.of_eq rfl) (show ∀ x ∈ nS.names, x.2 ≠ .cell by decide) (locs rfl) (fun h₁ hns hk₁ => ?_) rfl rfl rfl
  have X₁ : K.In h₁ := X.keeps hk₁
  have kb₁ : ∀ b o, base.get? b = some o → h₁.get? b = some o := fun b o z => hk₁ b o (kb b o z)
  have hx₁ := hk₁ _ _ hx
  obtain ⟨oD, hD1, hD2⟩ : ∃ oD, h₁.get? C = some oD ∧ oD.data = .cls { name := nm, bases := bs, mro := .ref C :: bm, ns := N, qualname := q, hasDict := true, slotNames := sn, subclasses := sub, abstract := ab, collection := col, hasDel := false } := ⟨_, X₁ _ _ hC, rfl⟩
  obtain ⟨mb, hb1, hb2⟩ := hM.blt
  have I : InstAt h₁ e (excO C t0) C none := ⟨hx₁, rfl, rfl, trivial⟩
  refine ks_wpAt_execs_cons (ks_wpAt_Expr_any (ks_wpAt_MethodCall ?_ (hpl _)))
  refine ks_wpAt_super_base (env := callEnv (ksFn "__init__" qn (nA p0) (nB q1 q2 q3 q4 q5) nS .none kV doc pm an (.ref cda) ct cc) s.heap.objs.size fI') rfl rfl rfl rfl (X₁ _ _ lk) rfl rfl rfl (X₁ _ _ hcode) rfl hvs hfile T.top ?_
  refine ks_loadName_global rfl rfl (loadGlobal_builtin (hM.glob.keeps kb₁) T.sup (hb1.keeps kb₁) ((hb2 _ (by decide +kernel)).trans (by first | boot_by_name | rfl | kernel_rfl)) ⟨rfl, ?_⟩)
  refine wpAny_loadName_free rfl rfl rfl ⟨_, X₁ _ _ hcell, rfl⟩ ?_
  refine wpAny_loadName_local rfl rfl hns (v := .ref e) rfl ?_
  refine ks_wpAny_isType_cls hD1 hD2 ⟨rfl, ?_⟩
  refine ks_wpAny_call_super hD1 hD2 I.at_ I.cls (fun c z => ?_) (looks_mroIn X₁ T.sub) (fun h₂ e₂ k₂ => ?_)
  · have := I.no
    unfold notCls at this
    rw [z] at this
    exact Bool.noConfusion this
  have X₂ : K.In h₂ := X₁.keeps k₂
  have hx₂ := k₂ _ _ hx₁
  have I₂ : InstAt h₂ e (excO C t0) C none := ⟨hx₂, rfl, rfl, trivial⟩
  have hm := T.hm
  unfold ks_superIn at hm
  rw [hcl] at hm
  refine kxs_getMethod kxs_ValueError e₂ (looks_opaque X₂ T.any) (l₀ := .ref C :: bm) ?_ rfl X₂ hm (I₂.type.andThen (looks_subIn X₂ T.veC)) (ks_ne X₂ I₂ hcl) rfl ?_
  · exact fun A Q E s k q => wpAny_bind ((looks_clsIn X₂ hcl) A _ E s k (wpAny_pure q))
  have k₃ : ∀ b o, h₂.get? b = some o → (h₂.push (kxs_mw "ValueError.__init__" e)).get? b = some o := fun b o z => Heap.get?_push_of_some _ z
  refine kxs_callWith (i := "ValueError.__init__") (x := e) rfl (evalArgs_empty ⟨Heap.get?_push_at rfl rfl, ?_⟩)
  refine call_bwV (k₃ _ _ (X₂ _ _ hC)) (k₃ _ _ hx₂) (Heap.get?_push_at rfl rfl) fun h' t1 k' hx' => ?_
  refine wpAt_of_wpAny (wpAny_execs_nil ?_)
  exact hq h' _ t1 (fun b o hb z => k' b o hb (k₃ b o (k₂ b o (hk₁ b o z)))) hx'
end
end NoX
end PySem

set_option Elab.async false
set_option linter.all false
set_option maxRecDepth 100000
set_option maxHeartbeats 4000000
namespace L2
open PySem PySem.Spec PyProof.Rows
section
variable {X : Cx} {x : Str} {C : Addr}
/-- X() of a class of NoX -/
theorem pmk_no {p pos : Pos} {k : Nat} (T : PySem.NoX.NoTxt X.prog X.K X.mg x C) (hr : Room k X.A) (hg : Gl X x := by rfl) (hd : (x == ("__debug__" : Str)) = false := by decide) :
    PMk X (.Call (.Name x p) [] [] pos) (fun _ H Q => Q (.ref C) none H) := by
  intro pins s σ H Q I h
  obtain ⟨nm, q, N, bs, bm, sn, sub, ab, col, dd, k0, k1, k2, k3, k5, hC, hbm⟩ := T.cls
  obtain ⟨fI, _, _, _, _, _, _, _, _, _, _, _, _, _, _, _, _, _, hi, tI, _⟩ := T.fn
  refine wpAny_Call_Name_kw (ld_glob I hg T.gC ?_ hd)
  refine PySem.W.callWith_K0 I.kIn T.kC ?_
  show wpAny _ _ (call (.ref C) []) _ _ _
  have kb := I.bk
  have X0 := I.kIn
  obtain ⟨hp, g, dr, tk, os⟩ := s
  have kk : ∀ b o, hp.get? b = some o → ((hp.push (PySem.W.kdv_tup [])).push (PySem.HandSPX.excO C hp.objs.size)).get? b = some o := fun b o e => Heap.get?_push_of_some _ (Heap.get?_push_of_some _ e)
  have hget : ((hp.push (PySem.W.kdv_tup [])).push (PySem.HandSPX.excO C hp.objs.size)).get? (hp.objs.size + 1) = some (PySem.HandSPX.excO C hp.objs.size) := by heap_get
  refine wpAny_call (PySem.HandSPX.call_own F.excBase_ValueError (fun Y => PySem.HandSPX.refsVE_contains Y bm hbm) (X0 _ _ hC) (PySem.W.looks_findIn X0 hi) (fun self => PySem.W.bind_fn X0 self tI) (Nat.zero_le _) ?_)
  refine PySem.NoX.no_init (s := ⟨(hp.push (PySem.W.kdv_tup [])).push (PySem.HandSPX.excO C hp.objs.size), g, dr, tk, os⟩) T I.ok.mod (fun b o z => kk b o (kb b o z)) hi hget ?_ fun h' tk' t1 k' hx => ⟨rfl, ?_⟩
  · have := hr.dp
    show X.A.depth + 1 < recursionLimit
    omega
  · obtain ⟨G', g1, g2⟩ := restrict h' fun b => decide (b ≠ hp.objs.size + 1)
    have gk : ∀ b, b ≠ hp.objs.size + 1 → G'.get? b = h'.get? b := fun b hb => g1 b (decide_eq_true hb)
    have ge : G'.get? (hp.objs.size + 1) = none := g2 _ (by simp)
    have old : ∀ b o, hp.get? b = some o → G'.get? b = some o := fun b o z => by
      have hb : b ≠ hp.objs.size + 1 := Nat.ne_of_lt (Nat.lt_succ_of_lt (Heap.lt_size z))
      exact (gk b hb).trans (k' b o hb (kk b o z))
    have J : Inv X pins σ H ⟨G', g, dr, tk', os⟩ := I.kept (t' := tk') old
    refine ⟨hp.objs.size + 1, _, _, ⟨G', g, dr, tk', os⟩, H, .ref C, none, rfl, J, fun b o z => ?_, ge, hx, ⟨rfl, rfl⟩, rfl, rfl, I.hok.fresh (Nat.le_succ _), rfl, I.bare, raises_own T.exC T.tyC, h⟩
    by_cases hb : b = hp.objs.size + 1
    · have z' : G'.get? b = some o := z
      rw [hb, ge] at z'; cases z'
    · exact (gk b hb).symm.trans z
/-- raise X() -/
theorem ps_no {W : WX} {p pos pos' : Pos} {k : Nat} (hc : X.calm = true) (tk : Takes X W) (T : PySem.NoX.NoTxt X.prog X.K X.mg x C) (hr : Room k X.A) (hg : Gl X x := by rfl) (hd : (x == ("__debug__" : Str)) = false := by decide) :
    PS X (.Raise (some (.Call (.Name x p) [] [] pos)) none pos') (fun _ σ H => W (.ref C) none σ H) := ps_raise hc tk (pmk_no T hr hg hd)
end

/-! ### defs, bundled -/
structure DefOk (P : Program) (w : World) (K : PySem.W.Frag) (mg : Str → Option Value) (base : Heap) (x : Str) (k : Nat) (ps : List Str) (sp : Sp) : Prop where
  ex : ∃ (f : Addr) (fd : FuncData), mg x = some (.ref f) ∧ PySem.W.keepIn K (.ref f) = true ∧ Binds K fd ps [] ∧ FnOk P w K mg base (L2.CX P w) k f fd ps sp
theorem pass0S {X : Cx} (σ : St) : PassesAt (L2.CX X.prog X.w) X σ E0 := fun _ _ _ _ _ _ h => by
  obtain ⟨_, _, _, _, _, _, _, _, _, _, _, _, z⟩ := h
  exact z.elim
def tD (sp : Sp) (t : TA) : TE := fun σ H Q => t σ H fun vs H1 => sp vs H1 Q E0
theorem pe_d {X : Cx} {x : Str} {k j : Nat} {ps : List Str} {sp : Sp} {e : Expr} {es : List Expr} {p pos : Pos} {ta : TA} (G : DefOk X.prog X.w X.K X.mg X.base x k ps sp) (hr : Room j X.A) (hg : Gl X x) (ha : PA X (e :: es) ta) (hj : k ≤ j := by decide)
    (hdb : (x == ("__debug__" : Str)) = false := by decide) (he : starEach (e :: es) X.env = (false, eval e X.env) :: starEach es X.env := by rfl) (hpl : (backTo pos (starEach es X.env)).any (·.1) = false := by rfl) :
    PE X (.Call (.Name x p) (e :: es) [] pos) (tD sp ta) := by
  obtain ⟨f, fd, hm, hk, hb, F⟩ := G.ex
  exact pe_callS F (hr.mono hj) hg hm hk hb (fun σ => pass0S σ) ha hdb he hpl
def tDX (sp : Sp) (W : WX) (t : TA) : TE := fun σ H Q => t σ H fun vs H1 => sp vs H1 Q fun cls d H2 => W cls d σ H2
theorem pe_dX {X : Cx} {x : Str} {k j : Nat} {ps : List Str} {sp : Sp} {e : Expr} {es : List Expr} {p pos : Pos} {ta : TA} {W : WX} (tk : Takes X W) (G : DefOk X.prog X.w X.K X.mg X.base x k ps sp) (hr : Room j X.A) (hg : Gl X x) (ha : PA X (e :: es) ta) (hj : k ≤ j := by decide)
    (hdb : (x == ("__debug__" : Str)) = false := by decide) (he : starEach (e :: es) X.env = (false, eval e X.env) :: starEach es X.env := by rfl) (hpl : (backTo pos (starEach es X.env)).any (·.1) = false := by rfl) :
    PE X (.Call (.Name x p) (e :: es) [] pos) (tDX sp W ta) := by
  obtain ⟨f, fd, hm, hk, hb, F⟩ := G.ex
  exact pe_callS F (hr.mono hj) hg hm hk hb (fun σ => passAt tk σ) ha hdb he hpl
/-- from what the head finds of a def -/
theorem defOk_of {P : Program} {w : World} {K : PySem.W.Frag} {mg : Str → Option Value} {base : Heap} {x : Str} {f : Addr} {fd : FuncData} {k : Nat} {ps : List Str} {sp : Sp} (g : mg x = some (.ref f)) (kp : PySem.W.keepIn K (.ref f) = true) (b : Binds K fd ps []) (F : FnOk P w K mg base (L2.CX P w) k f fd ps sp) : DefOk P w K mg base x k ps sp := ⟨f, fd, g, kp, b, F⟩

/-! ### what stays -/
/-- all that was tracked, but at p and g, is as it was -/
def Sb (p g : Addr) (H H' : Hp) : Prop := ∀ b o, H b = some o → b ≠ p → b ≠ g → H' b = some o
theorem Sb.refl {p g : Addr} (H : Hp) : Sb p g H H := fun _ _ h _ _ => h
theorem Sb.trans {p g : Addr} {H H1 H2 : Hp} (a : Sb p g H H1) (b : Sb p g H1 H2) : Sb p g H H2 := fun c o h h1 h2 => b c o (a c o h h1 h2) h1 h2
theorem Same.sb {p g : Addr} {H H' : Hp} (a : Same H H') : Sb p g H H' := fun b o h _ _ => a b o h
theorem Sb.new {p g : Addr} {H : Hp} {a : Addr} {o : HO} (h : H a = none) : Sb p g H (upd H a o) := fun b u e _ _ => by
  rw [upd_ne (ne_of_none e h)]
  exact e
/-- an address that was free ahead of all this may be written -/
theorem Sb.mut {p g : Addr} {H H' : Hp} {a : Addr} {o : HO} (e : Sb p g H H') (h : H a = none) : Sb p g H (upd H' a o) := fun b u z h1 h2 => by
  rw [upd_ne (ne_of_none z h)]
  exact e b u z h1 h2
theorem Same.new {H : Hp} {a : Addr} {o : HO} (h : H a = none) : Same H (upd H a o) := fun b u e => by
  rw [upd_ne (ne_of_none e h)]
  exact e
theorem Same.mut {H H' : Hp} {a : Addr} {o : HO} (e : Same H H') (h : H a = none) : Same H (upd H' a o) := fun b u z => by
  rw [upd_ne (ne_of_none z h)]
  exact e b u z
end L2

set_option Elab.async false
set_option linter.all false
set_option maxRecDepth 100000
set_option maxHeartbeats 4000000
namespace L2
open PySem PySem.Spec PyProof.Rows
/-! ### what the laws draw from -/
def potL (g s : Addr) (t c : Int) : List V := [.ref g, .ref s, .int t, .int c]
structure PotAt (H : Hp) (p g s : Addr) : Prop where
  ex : ∃ (t c : Int) (gs ss : List Int), H p = some (.lst (potL g s t c)) ∧ H g = some (.lst (gs.map V.int)) ∧ H s = some (.lst (ss.map V.int)) ∧ ss ≠ [] ∧ p ≠ g ∧ p ≠ s ∧ g ≠ s ∧ ss.length ≤ 100
theorem PotAt.same {H H' : Hp} {p g s : Addr} (P : PotAt H p g s) (e1 : ∀ o, H p = some o → H' p = some o) (e2 : ∀ o, H g = some o → H' g = some o) (e3 : ∀ o, H s = some o → H' s = some o) : PotAt H' p g s := by
  obtain ⟨t, c, gs, ss, h1, h2, h3, r⟩ := P.ex
  exact ⟨t, c, gs, ss, e1 _ h1, e2 _ h2, e3 _ h3, r⟩
theorem PotAt.keep {H H' : Hp} {p g s : Addr} (P : PotAt H p g s) (e : Same H H') : PotAt H' p g s := P.same (fun _ h => e _ _ h) (fun _ h => e _ _ h) (fun _ h => e _ _ h)
/-- an object that is not the pot's may change -/
theorem PotAt.upd {H : Hp} {p g s a : Addr} {o : HO} (P : PotAt H p g s) (ha : H a = none) : PotAt (upd H a o) p g s := P.keep (Same.new ha)
theorem PotAt.put {H : Hp} {p g s a : Addr} {o : HO} (P : PotAt H p g s) (ha : p ≠ a ∧ g ≠ a ∧ s ≠ a) : PotAt (L2.upd H a o) p g s :=
  P.same (fun _ h => by rw [upd_ne ha.1]; exact h) (fun _ h => by rw [upd_ne ha.2.1]; exact h) (fun _ h => by rw [upd_ne ha.2.2]; exact h)
theorem PotAt.ne {H : Hp} {p g s a : Addr} (P : PotAt H p g s) (ha : H a = none) : p ≠ a ∧ g ≠ a ∧ s ≠ a := by
  obtain ⟨t, c, gs, ss, h1, h2, h3, r⟩ := P.ex
  exact ⟨ne_of_none h1 ha, ne_of_none h2 ha, ne_of_none h3 ha⟩
theorem PotAt.tup {H : Hp} {p g s a : Addr} {xs : List V} (P : PotAt H p g s) (ha : H a = some (.tup xs)) : a ≠ p ∧ a ≠ g := by
  obtain ⟨t, c, gs, ss, h1, h2, h3, r⟩ := P.ex
  exact ⟨ne_of ha h1 (by intro z; cases z), ne_of ha h2 (by intro z; cases z)⟩
theorem Sb.tup {H H' : Hp} {p g s a : Addr} {xs : List V} (e : Sb p g H H') (P : PotAt H p g s) (ha : H a = some (.tup xs)) : H' a = some (.tup xs) := e a _ ha (P.tup ha).1 (P.tup ha).2
/-- what was free behind is free ahead -/
theorem Sb.free {H H' : Hp} {p g s a : Addr} (e : Sb p g H H') (P' : PotAt H' p g s) (h : H' a = none) : H a = none := by
  cases q : H a with
  | none => rfl
  | some o =>
    have := e a o q (P'.ne h).1.symm (P'.ne h).2.1.symm
    rw [h] at this; cases this
theorem pot_set {g s : Addr} {t c t' : Int} : (potL g s t c).set 2 (.int t') = potL g s t' c := rfl
theorem fmod_lt {x m : Int} (h : 0 < m) : 0 ≤ x.fmod m ∧ x.fmod m < m := ⟨Int.fmod_nonneg_of_pos _ h, Int.fmod_lt_of_pos _ h⟩
theorem at_mod {α : Type} {xs : List α} (x : Int) (h : xs ≠ []) : ∃ v, atI xs (x.fmod xs.length) = some v ∧ v ∈ xs := by
  have hl : 0 < xs.length := List.length_pos_iff.mpr h
  obtain ⟨h0, h1⟩ := fmod_lt (x := x) (m := (xs.length : Int)) (by omega)
  obtain ⟨j, hj⟩ : ∃ j : Nat, x.fmod xs.length = (j : Int) := ⟨(x.fmod xs.length).toNat, by omega⟩
  have hj2 : j < xs.length := by omega
  refine ⟨xs[j], ?_, List.getElem_mem hj2⟩
  rw [hj]
  exact atI_nat (List.getElem?_eq_getElem hj2)
theorem at0 {α : Type} {v : α} {r : List α} : atI (v :: r) 0 = some v := atI_nat (xs := v :: r) (j := 0) rfl
theorem ixN0 {n : Nat} (h : 0 < n) : ixN n 0 = some 0 := by
  unfold ixN
  rw [if_pos (by decide), if_pos (by omega)]; rfl
theorem seqIx0 {n : Nat} (h : 0 < n) : seqIndex? 0 n = some 0 := (ixN_seq (ixN0 h)).1
theorem mem_int {ss : List Int} {v : V} (h : v ∈ ss.map V.int) : ∃ z, v = V.int z := by
  obtain ⟨z, _, e⟩ := List.mem_map.mp h
  exact ⟨z, e.symm⟩
/-- the pot is made of the script -/
def spPot (K : PySem.W.Frag) : Sp := fun vs H Q _ => ∃ (a : Addr) (ns : List Int), vs = [.ref a] ∧ SqL K H a (ns.map V.int) ∧ ns.length ≤ 63 ∧ ∀ p g s H', H p = none → H g = none → H s = none → PotAt H' p g s → Same H H' → Q (.ref p) H'
/-- a number is drawn -/
def spDraw : Sp := fun vs H Q _ => ∃ (p g s : Addr) (many : Int), vs = [.ref p, .int many] ∧ PotAt H p g s ∧ 0 < many ∧ many < 1073741824 ∧ ∀ r H', 0 ≤ r → r < many → PotAt H' p g s → Sb p g H H' → Q (.int r) H'
end L2

set_option Elab.async false
set_option linter.all false
set_option maxRecDepth 100000
set_option maxHeartbeats 4000000
namespace L2
open PySem PySem.Spec PyProof.Rows
/-! ### strings stripped -/
theorem str_eq {a b : Str} : a = b ↔ a.cps.toList = b.cps.toList := by
  obtain ⟨a⟩ := a
  obtain ⟨b⟩ := b
  constructor
  · intro h; rw [h]
  · intro h
    have : a = b := Array.toList_inj.mp h
    rw [this]
theorem takeWhile_lt {α : Type} {p : α → Bool} : ∀ {l : List α}, l.all p = false → (l.takeWhile p).length < l.length
  | [], h => by simp at h
  | a :: r, h => by
    cases q : p a with
    | true =>
      rw [List.takeWhile_cons_of_pos q]
      have h' : r.all p = false := by simpa [q] using h
      have := takeWhile_lt h'
      simp only [List.length_cons]
      omega
    | false =>
      rw [List.takeWhile_cons_of_neg (by simp [q])]
      simp
theorem drop_not_all {α : Type} {p : α → Bool} : ∀ {l : List α}, l.all p = false → (l.drop (l.takeWhile p).length).all p = false
  | [], h => by simp at h
  | a :: r, h => by
    cases q : p a with
    | true =>
      rw [List.takeWhile_cons_of_pos q]
      have h' : r.all p = false := by simpa [q] using h
      simpa using drop_not_all h'
    | false =>
      rw [List.takeWhile_cons_of_neg (by simp [q])]
      simpa using h
theorem strip_empty (p : Nat → Bool) (x : Str) : Txt.stripBy p true true x = ("" : Str) ↔ x.cps.toList.all p = true := by
  have e0 : (("" : Str)).cps.toList = [] := by decide +kernel
  constructor
  · intro h
    cases q : x.cps.toList.all p with
    | true => rfl
    | false =>
      exfalso
      unfold Txt.stripBy at h
      have hlo := takeWhile_lt q
      have hd := drop_not_all q
      have hrev : ((x.cps.toList.drop (x.cps.toList.takeWhile p).length).reverse).all p = false := by rw [List.all_reverse]; exact hd
      have hk := takeWhile_lt hrev
      rw [List.length_reverse, List.length_drop] at hk
      split at h
      · rw [h, e0] at q
        simp at q
      · rw [str_eq, e0] at h
        have h2 := congrArg List.length h
        unfold PySem.stripped Builtin.Str.strSub PySem.stripHi PySem.stripLo at h2
        simp only [if_true, Array.toList_extract, List.extract_eq_drop_take, List.length_take, List.length_drop, List.length_nil, Str.length] at h2
        simp only [Array.length_toList] at *
        omega
  · intro h
    unfold Txt.stripBy
    have hlo : x.cps.toList.takeWhile p = x.cps.toList := by
      have key : ∀ l : List Nat, l.all p = true → l.takeWhile p = l := by
        intro l
        induction l with
        | nil => intro _; rfl
        | cons a r ih =>
          intro h
          simp only [List.all_cons, Bool.and_eq_true] at h
          rw [List.takeWhile_cons_of_pos h.1, ih h.2]
      exact key _ h
    split
    · rename_i hs
      unfold PySem.stripSame PySem.stripLo at hs
      simp only [if_true, hlo, Bool.and_eq_true, beq_iff_eq] at hs
      rw [str_eq, e0]
      exact List.length_eq_zero_iff.mp hs.1
    · rw [str_eq, e0]
      unfold PySem.stripped Builtin.Str.strSub PySem.stripHi PySem.stripLo
      simp only [if_true, hlo, Array.toList_extract, List.extract_eq_drop_take, Str.length]
      apply List.length_eq_zero_iff.mp
      simp only [List.length_take, List.length_drop, Array.length_toList]
      omega
end L2

set_option Elab.async false
set_option linter.all false
set_option maxRecDepth 100000
set_option maxHeartbeats 4000000
namespace L2
open PySem PySem.Spec PyProof.Rows
/-! ### what kind a thing is -/
def TyIs (K : PySem.W.Frag) (H : Hp) (x : V) (s : String) (b : Bool) : Prop := ∃ t, TyX K H x (.type t) ∧ kitB t s = some b
section
variable {K : PySem.W.Frag} {H H' : Hp} {s : String} {b : Bool}
theorem tyis_non (h : kitB "NoneType" s = some b := by decide +kernel) : TyIs K H .non s b := ⟨_, .base .non, h⟩
theorem tyis_bl {c : Bool} (h : kitB "bool" s = some b := by decide +kernel) : TyIs K H (.bl c) s b := ⟨_, .base (.bl c), h⟩
theorem tyis_int {i : Int} (h : kitB "int" s = some b := by decide +kernel) : TyIs K H (.int i) s b := ⟨_, .base (.int i), h⟩
theorem tyis_str {x : Str} (h : kitB "str" s = some b := by decide +kernel) : TyIs K H (.str x) s b := ⟨_, .base (.str x), h⟩
theorem tyis_lst {a : Addr} {xs : List V} (e : H a = some (.lst xs)) (h : kitB "list" s = some b := by decide +kernel) : TyIs K H (.ref a) s b := ⟨_, .base (.lst e), h⟩
theorem tyis_tup {a : Addr} {xs : List V} (e : H a = some (.tup xs)) (h : kitB "tuple" s = some b := by decide +kernel) : TyIs K H (.ref a) s b := ⟨_, .base (.tup e), h⟩
theorem tyis_dK {a : Addr} {kvs : List (Key × V)} (e : H a = some (.dK kvs)) (h : kitB "dict" s = some b := by decide +kernel) : TyIs K H (.ref a) s b := ⟨_, .base (.dK e), h⟩
def IntIs (K : PySem.W.Frag) (H : Hp) (x : V) : Option Int → Prop
  | some i => x = .int i
  | none => ∃ b, TyIs K H x "int" b ∧ (b = true → TyIs K H x "bool" true)
def StrIs (K : PySem.W.Frag) (H : Hp) (x : V) : Option Str → Prop
  | some y => x = .str y ∧ y.length ≤ sizeLine
  | none => TyIs K H x "str" false
def TupIs (K : PySem.W.Frag) (H : Hp) (x : V) : Option (List V) → Prop
  | some xs => ∃ a, x = .ref a ∧ H a = some (.tup xs)
  | none => TyIs K H x "tuple" false
end
/-- letters of the first so many alone -/
def lettB (n : Int) (s : Str) : Bool := s.cps.toList.all fun c => decide (97 ≤ c ∧ (c : Int) < 97 + n)
def lettO (n : Int) : Option Str → Bool
  | some s => lettB n s
  | none => false
theorem cut_abc {n : Int} (h0 : 0 ≤ n) (h3 : n ≤ 3) (c : Nat) : (cutS ("abc" : Str) none (some n)).cps.contains c = decide (97 ≤ c ∧ (c : Int) < 97 + n) := by
  have q : n = 0 ∨ n = 1 ∨ n = 2 ∨ n = 3 := by omega
  rcases q with rfl | rfl | rfl | rfl
  · have e : cutS ("abc" : Str) none (some 0) = ⟨#[]⟩ := by decide +kernel
    rw [e]
    have : ¬ (97 ≤ c ∧ (c : Int) < 97 + 0) := by omega
    simp
    omega
  · have e : cutS ("abc" : Str) none (some 1) = ⟨#[97]⟩ := by decide +kernel
    rw [e]
    rw [Bool.eq_iff_iff]
    simp
    omega
  · have e : cutS ("abc" : Str) none (some 2) = ⟨#[97, 98]⟩ := by decide +kernel
    rw [e]
    rw [Bool.eq_iff_iff]
    simp
    omega
  · have e : cutS ("abc" : Str) none (some 3) = ⟨#[97, 98, 99]⟩ := by decide +kernel
    rw [e]
    rw [Bool.eq_iff_iff]
    simp
    omega
theorem strip_abc {n : Int} (h0 : 0 ≤ n) (h3 : n ≤ 3) (s : Str) : decide (V.str (Txt.stripChars s (cutS ("abc" : Str) none (some n))) = V.str "") = lettB n s := by
  unfold Txt.stripChars lettB
  rw [Bool.eq_iff_iff, decide_eq_true_iff]
  rw [show (V.str (Txt.stripBy (cutS ("abc" : Str) none (some n)).cps.contains true true s) = V.str "") ↔ Txt.stripBy (cutS ("abc" : Str) none (some n)).cps.contains true true s = "" from ⟨fun h => V.str.inj h, fun h => by rw [h]⟩]
  rw [strip_empty, List.all_eq_true, List.all_eq_true]
  constructor
  · intro h c hc
    rw [← cut_abc h0 h3]
    exact h c hc
  · intro h c hc
    rw [cut_abc h0 h3]
    exact h c hc
/-- a content's shape: b tells whether it is one of the first n letters -/
def ConIs (K : PySem.W.Frag) (H : Hp) (n : Int) (x : V) (b : Bool) : Prop :=
  ∃ o, TupIs K H x o ∧ match o with
    | none => b = false
    | some [y, z] => ∃ oy oz, StrIs K H y oy ∧ StrIs K H z oz ∧ b = (lettO n oy && lettO n oz)
    | some _ => b = false
/-! ### the sign at a place -/
def signS (h r : Str) (p : Int) : Str :=
  if p < (h.length : Int) then ⟨#[h.cps.toList.getD p.toNat 0]⟩ else if r.length = 0 then "end" else ⟨#[r.cps.toList.getD ((p - (h.length : Int)).fmod (r.length : Int)).toNat 0]⟩

/-! ### error classes by name in except clauses -/
theorem exm_by {K : PySem.W.Frag} {S : Value} {C : Addr} {b : Bool} (h1 : PySem.W.subIn K (.ref C) (.type "BaseException") = some true) (h2 : PySem.W.isClsIn K C = true) (h3 : PySem.W.typeIn K (.ref C) = some (.type "type")) (h4 : PySem.W.subIn K S (.ref C) = some b) :
    PySem.W.exmOne K S (.ref C) = some b := by
  have e1 : (PySem.W.subIn K (.ref C) (.type "BaseException") == some true) = true := by rw [h1] <;> rfl
  have e2 : ((PySem.W.clsIn K C).isSome && PySem.W.typeIn K (.ref C) == some (.type "type")) = true := by
    have h2' : (PySem.W.clsIn K C).isSome = true := h2
    rw [h2', h3] <;> rfl
  show (if (PySem.W.subIn K (.ref C) (.type "BaseException") == some true) = true then (if ((PySem.W.clsIn K C).isSome && PySem.W.typeIn K (.ref C) == some (.type "type")) = true then PySem.W.subIn K S (.ref C) else none) else none) = some b
  rw [if_pos e1, if_pos e2]
  exact h4
end L2

set_option Elab.async false
set_option linter.all false
set_option maxRecDepth 100000
set_option maxHeartbeats 4000000
namespace L2
open PySem PySem.Spec PyProof.Rows
theorem decI {a b : Int} : decide (V.int a = V.int b) = decide (a = b) := by
  rw [dec_int, Bool.eq_iff_iff]
  simp
theorem decS {a b : Str} : decide (V.str a = V.str b) = decide (a = b) := by
  rw [dec_str, Bool.eq_iff_iff]
  simp
theorem getD_app {l r : List Nat} {i : Nat} (h : i < l.length) : (l ++ r).getD i 0 = l.getD i 0 := by
  rw [List.getD_eq_getElem?_getD, List.getD_eq_getElem?_getD, List.getElem?_append_left h]
theorem getD_app2 {l r : List Nat} {i : Nat} (h : l.length ≤ i) : (l ++ r).getD i 0 = r.getD (i - l.length) 0 := by
  rw [List.getD_eq_getElem?_getD, List.getD_eq_getElem?_getD, List.getElem?_append_right h]
theorem at_some {α : Type} {xs : List α} {i : Int} (h0 : 0 ≤ i) (h1 : i < (xs.length : Int)) : ∃ v, atI xs i = some v ∧ v ∈ xs := by
  obtain ⟨j, rfl⟩ : ∃ j : Nat, i = (j : Int) := ⟨i.toNat, by omega⟩
  have hj : j < xs.length := by omega
  exact ⟨xs[j], atI_nat (List.getElem?_eq_getElem hj), List.getElem_mem hj⟩
theorem at_getD {z : Str} {i : Int} (h0 : 0 ≤ i) (h1 : i < (z.length : Int)) : atI z.cps.toList i = some (z.cps.toList.getD i.toNat 0) := by
  obtain ⟨j, rfl⟩ : ∃ j : Nat, i = (j : Int) := ⟨i.toNat, by omega⟩
  have hl : z.length = z.cps.toList.length := by simp [Str.length]
  have hj : j < z.cps.toList.length := by omega
  refine atI_nat ?_
  rw [List.getElem?_eq_getElem hj, Int.toNat_natCast, List.getD_eq_getElem?_getD, List.getElem?_eq_getElem hj]
  rfl
theorem str_len (z : Str) : z.length = z.cps.toList.length := by simp [Str.length]
theorem str_empty {r : Str} : V.str r = V.str "" ↔ r.length = 0 := by
  have e0 : (("" : Str)).cps.toList = [] := by decide +kernel
  constructor
  · intro h
    have := V.str.inj h
    rw [str_len, this, e0]
    rfl
  · intro h
    rw [str_len] at h
    have : r = "" := str_eq.mpr (by rw [e0]; exact List.length_eq_zero_iff.mp h)
    rw [this]
section
variable {X : Cx}
/-- a text times a number -/
theorem op_mulS : OpR X (binaryOp .Mult) (fun x y H Q => ∃ (z : Str) (n : Int), x = .str z ∧ y = .int n ∧ MulOk z n ∧ Q (.str (Txt.mul z n)) H) := by
  intro pins s σ H x y v u Q I rx ry h
  obtain ⟨z, n, rfl, rfl, hz, q⟩ := h
  obtain ⟨t, rfl⟩ := rx
  obtain ⟨t', rfl⟩ := ry
  exact SB.mul hz fun t' k => ⟨.str _, H, I.tok _, ⟨_, rfl⟩, q⟩
end
theorem mulOk_small {z : Str} {n : Int} (h0 : 0 ≤ n) (h1 : n ≤ 1000) (hz : z.length ≤ 10000) : MulOk z n := by
  refine ⟨?_, fun h _ => ?_, fun h _ => ?_⟩
  · rw [Bool.or_eq_false_iff]
    exact ⟨decide_eq_false (by omega), decide_eq_false (by omega)⟩
  · have e : (2 ^ 63 - 1 : Int) = 9223372036854775807 := by decide
    rw [e]
    have hn : 0 < n := by omega
    have : (10000 : Int) ≤ 9223372036854775807 / n := (Int.le_ediv_iff_mul_le hn).mpr (by have : 10000 * n ≤ 10000 * 1000 := Int.mul_le_mul_of_nonneg_left h1 (by decide); omega)
    omega
  · have q : z.length * n.toNat ≤ 10000 * 1000 := Nat.mul_le_mul hz (by omega)
    unfold Builtin.Str.tooLong
    rw [decide_eq_false_iff_not, sizeLine_eq]
    omega
theorem tl_mul (z : Str) {n : Int} (h : 0 ≤ n) : (Txt.mul z n).cps.toList = (List.replicate n.toNat z.cps.toList).flatten := by
  have key : ∀ (k : Nat) (acc : Array Nat), ((List.replicate k z.cps).foldl (· ++ ·) acc).toList = acc.toList ++ (List.replicate k z.cps.toList).flatten := by
    intro k
    induction k with
    | zero => intro acc; simp
    | succ k ih =>
      intro acc
      rw [List.replicate_succ, List.foldl_cons, ih, List.replicate_succ, List.flatten_cons, Array.toList_append, List.append_assoc]
  unfold Txt.mul
  split
  · have : n.toNat = 0 := by omega
    rw [this]; rfl
  split
  · rename_i h1 h2
    rw [Bool.or_eq_true] at h2
    rcases h2 with h2 | h2
    · have : n = 1 := by simpa using h2
      subst this
      simp
    · have : z.length = 0 := by simpa using h2
      rw [str_len] at this
      have e := List.length_eq_zero_iff.mp this
      rw [e]
      simp
  · rw [key]; simp
/-- an item of a list again and again -/
theorem get_rep {l : List Nat} (hl : 0 < l.length) : ∀ (k i : Nat), i < k * l.length → ((List.replicate k l).flatten).getD i 0 = l.getD (i % l.length) 0
  | 0, i, h => by omega
  | k + 1, i, h => by
    rw [List.replicate_succ, List.flatten_cons]
    by_cases hi : i < l.length
    · rw [getD_app hi, Nat.mod_eq_of_lt hi]
    · have hi : l.length ≤ i := by omega
      rw [getD_app2 hi, get_rep hl k (i - l.length) (by rw [Nat.add_mul] at h; omega), Nat.mod_eq_sub_mod hi]
theorem len_rep (l : List Nat) (k : Nat) : ((List.replicate k l).flatten).length = k * l.length := by
  simp
theorem tl_app (a b : Str) : (a ++ b).cps.toList = a.cps.toList ++ b.cps.toList := by
  obtain ⟨a⟩ := a; obtain ⟨b⟩ := b
  show (a ++ b).toList = _
  simp
/-- the head, and the round twelve times -/
theorem sign_whole {u r : Str} {p : Int} {n : Nat} (hp : 0 ≤ p) (h : p < ((u ++ Txt.mul r (n : Int)).length : Int)) : (⟨#[(u ++ Txt.mul r (n : Int)).cps.toList.getD p.toNat 0]⟩ : Str) = signS u r p := by
  rw [str_len, tl_app, List.length_append, tl_mul r (by omega), len_rep, Int.toNat_natCast] at h
  rw [tl_app, tl_mul r (by omega), Int.toNat_natCast]
  unfold signS
  split
  · rename_i h1
    rw [str_len] at h1
    rw [getD_app (by omega)]
  · rename_i h1
    rw [str_len] at h1
    have h1 : u.cps.toList.length ≤ p.toNat := by omega
    have hr : ¬ r.length = 0 := by
      rw [str_len]
      intro z
      rw [z] at h
      omega
    rw [if_neg hr, getD_app2 h1]
    rw [str_len] at hr
    have hr2 : 0 < r.cps.toList.length := by omega
    rw [get_rep hr2 n _ (by omega)]
    have e : ((p - (u.length : Int)).fmod (r.length : Int)).toNat = (p.toNat - u.cps.toList.length) % r.cps.toList.length := by
      rw [str_len, str_len, Int.fmod_eq_emod_of_nonneg _ (by omega)]
      have e2 : p - (u.cps.toList.length : Int) = ((p.toNat - u.cps.toList.length : Nat) : Int) := by omega
      rw [e2]
      omega
    rw [e]
theorem tl_join0 (ys : List Str) : (Txt.join "" ys).cps.toList = (ys.map (·.cps.toList)).flatten := by
  have e0 : TL.tl ("" : Str) = [] := by decide +kernel
  have key : ∀ l : List (List Nat), TL.joinL [] l = l.flatten := by
    intro l
    induction l with
    | nil => rfl
    | cons a r ih =>
      cases r with
      | nil => simp [TL.joinL]
      | cons b q =>
        show a ++ ([] ++ TL.joinL [] (b :: q)) = _
        rw [ih]; simp
  show TL.tl (Txt.join "" ys) = _
  rw [TL.join_eq, TL.tl_join, e0, key]
/-- a right content at an address -/
def ConAt (H : Hp) (x : V) (h r : Str) : Prop := ∃ a, x = .ref a ∧ H a = some (.tup [.str h, .str r]) ∧ h.length ≤ 100000 ∧ r.length ≤ 100000 ∧ lettB 3 h = true ∧ lettB 3 r = true
theorem ConAt.is {K : PySem.W.Frag} {H : Hp} {x : V} {h r : Str} (c : ConAt H x h r) : ConIs K H 3 x true := by
  obtain ⟨a, rfl, ha, h1, h2, h3, h4⟩ := c
  exact ⟨some [.str h, .str r], ⟨a, rfl, ha⟩, some h, some r, ⟨rfl, Nat.le_trans h1 (by decide)⟩, ⟨rfl, Nat.le_trans h2 (by decide)⟩, by show true = (lettB 3 h && lettB 3 r); rw [h3, h4]; rfl⟩
section
variable {X : Cx}
/-- a word between an expression and what comes behind: shown once -/
def tMid (te : TE) : TE := fun σ H Q => ∃ Mid : V → Hp → Prop, te σ H Mid ∧ ∀ v H', Mid v H' → Q v H'
theorem pe_mid {e : Expr} {te : TE} (h : PE X e te) : PE X e (tMid te) := by
  refine ⟨fun pins s σ H Q I hq => ?_⟩
  obtain ⟨Mid, h1, h2⟩ := hq
  exact thn (h.run pins s σ H _ I h1) fun u s1 ⟨v, H', I', r, q⟩ => ⟨v, H', I', r, h2 v H' q⟩
/-- the same for a statement -/
def tMidS (t : TS) : TS := fun D σ H => ∃ Mid : St → Hp → Prop, t { D with nx := Mid } σ H ∧ ∀ σ' H', Mid σ' H' → D.nx σ' H'
theorem ps_mid {st : Stmt} {t : TS} (h : PS X st t) : PS X st (tMidS t) := by
  refine ⟨fun pins s σ H D I hq => ?_⟩
  obtain ⟨Mid, h1, h2⟩ := hq
  refine thn (h.run pins s σ H { D with nx := Mid } I h1) fun f s1 q => ?_
  cases f with
  | next =>
    obtain ⟨σ', H', I', q⟩ := q
    exact ⟨σ', H', I', h2 σ' H' q⟩
  | ret v => exact q
  | brk => exact q
  | cont => exact q
end
theorem signS_end {h r : Str} {p : Int} (h1 : (h.length : Int) ≤ p) (h2 : r.length = 0) : signS h r p = "end" := by
  unfold signS
  rw [if_neg (by omega), if_pos h2]
theorem lett_mono {n m : Int} {s : Str} (h : n ≤ m) (hs : lettB n s = true) : lettB m s = true := by
  unfold lettB at *
  rw [List.all_eq_true] at *
  intro c hc
  have := of_decide_eq_true (hs c hc)
  exact decide_eq_true ⟨this.1, by omega⟩
theorem lett_empty {n : Int} : lettB n "" = true := by
  have e0 : (("" : Str)).cps.toList = [] := by decide +kernel
  unfold lettB
  rw [e0]; rfl
theorem cutS_len (z : Str) (lo hi : Option Int) : (cutS z lo hi).length ≤ z.length := by
  rw [str_len, str_len]
  unfold cutS
  show (List.take _ (List.drop _ _)).length ≤ _
  rw [List.length_take, List.length_drop]
  omega
theorem tl_cut_from {z : Str} {c : Nat} : (cutS z (some (c : Int)) none).cps.toList = z.cps.toList.drop c := by
  unfold cutS
  show List.take _ (List.drop _ _) = _
  rw [HT.sIx_nat, HT.sIx_none, str_len]
  by_cases h : c ≤ z.cps.toList.length
  · rw [Nat.min_eq_left h, List.take_of_length_le (by rw [List.length_drop]; exact Nat.le_refl _)]
  · rw [List.drop_eq_nil_of_le (by omega : z.cps.toList.length ≤ c), List.drop_eq_nil_of_le (by omega), List.take_nil]
theorem tl_cut_to {z : Str} {c : Nat} : (cutS z none (some (c : Int))).cps.toList = z.cps.toList.take c := by
  unfold cutS
  show List.take _ (List.drop _ _) = _
  rw [HT.sIx_nat, HT.sIx_none, str_len, List.drop_zero, Nat.sub_zero]
  by_cases h : c ≤ z.cps.toList.length
  · rw [Nat.min_eq_left h]
  · rw [Nat.min_eq_right (by omega), List.take_of_length_le (Nat.le_refl _), List.take_of_length_le (by omega)]
theorem ConAt.keep {H H' : Hp} {x : V} {h r : Str} (c : ConAt H x h r) (s : Same H H') : ConAt H' x h r := by
  obtain ⟨a, rfl, ha, q⟩ := c
  exact ⟨a, rfl, s _ _ ha, q⟩
theorem ConAt.of {H : Hp} {a : Addr} {u v : Str} (h : H a = some (.tup [.str u, .str v])) (hu : u.length ≤ 100000) (hv : v.length ≤ 100000) (lu : lettB 3 u = true) (lv : lettB 3 v = true) : ConAt H (.ref a) u v := ⟨a, rfl, h, hu, hv, lu, lv⟩
end L2

/-! ### words that come round -/
namespace Rnd
variable {α : Type}
/-- b is a border of the first n of f, not the whole -/
def B (f : Nat → α) (n b : Nat) : Prop := b < n ∧ ∀ i, i < b → f i = f (n - b + i)
theorem B.trans {f : Nat → α} {n b c : Nat} (h1 : B f n b) (h2 : B f b c) : B f n c := by
  obtain ⟨l1, e1⟩ := h1
  obtain ⟨l2, e2⟩ := h2
  refine ⟨by omega, fun i hi => ?_⟩
  rw [e2 i hi, e1 (b - c + i) (by omega)]
  congr 1
  omega
theorem B.sub {f : Nat → α} {n b c : Nat} (h1 : B f n b) (h2 : B f n c) (h : c < b) : B f b c := by
  obtain ⟨l1, e1⟩ := h1
  obtain ⟨l2, e2⟩ := h2
  refine ⟨h, fun i hi => ?_⟩
  rw [e2 i hi, e1 (b - c + i) (by omega)]
  congr 1
  omega
theorem B.succ {f : Nat → α} {n b : Nat} (h : B f n b) (e : f b = f n) : B f (n + 1) (b + 1) := by
  obtain ⟨l, e1⟩ := h
  refine ⟨by omega, fun i hi => ?_⟩
  by_cases q : i < b
  · rw [e1 i q]; congr 1; omega
  · have : i = b := by omega
    subst this
    rw [e]; congr 1; omega
theorem B.pred {f : Nat → α} {n b : Nat} (h : B f (n + 1) (b + 1)) : B f n b ∧ f b = f n := by
  obtain ⟨l, e1⟩ := h
  refine ⟨⟨by omega, fun i hi => ?_⟩, ?_⟩
  · rw [e1 i (by omega)]; congr 1; omega
  · rw [e1 b (by omega)]; congr 1; omega
/-- the longest one -/
def LB (f : Nat → α) (n b : Nat) : Prop := B f n b ∧ ∀ c, B f n c → c ≤ b
theorem LB.one {f : Nat → α} : LB f 1 0 := ⟨⟨by omega, fun i hi => by omega⟩, fun c hc => by have := hc.1; omega⟩
/-- within the inner loop: x is a border of the first n; each greater one cannot be gone on -/
def W (f : Nat → α) (n x : Nat) : Prop := B f n x ∧ ∀ c, B f n c → f c = f n → c ≤ x
theorem LB.w {f : Nat → α} {n b : Nat} (h : LB f n b) : W f n b := ⟨h.1, fun c hc _ => h.2 c hc⟩
theorem W.step {f : Nat → α} {n x y : Nat} (h : W f n x) (hne : f n ≠ f x) (hy : LB f x y) : W f n y := by
  refine ⟨h.1.trans hy.1, fun c hc he => ?_⟩
  have h1 := h.2 c hc he
  by_cases q : c = x
  · subst q; exact absurd he.symm hne
  · exact hy.2 c (h.1.sub hc (by omega))
theorem W.yes {f : Nat → α} {n x : Nat} (h : W f n x) (e : f n = f x) : LB f (n + 1) (x + 1) := by
  refine ⟨h.1.succ e.symm, fun c hc => ?_⟩
  cases c with
  | zero => omega
  | succ c => have := h.2 c hc.pred.1 hc.pred.2; omega
theorem W.no {f : Nat → α} {n : Nat} (h : W f n 0) (e : f n ≠ f 0) : LB f (n + 1) 0 := by
  refine ⟨⟨by omega, fun i hi => by omega⟩, fun c hc => ?_⟩
  cases c with
  | zero => omega
  | succ c =>
    have h1 := h.2 c hc.pred.1 hc.pred.2
    have : c = 0 := by omega
    subst this
    exact absurd hc.pred.2.symm e
/-- a period of the first n -/
def P (f : Nat → α) (n p : Nat) : Prop := ∀ i, i + p < n → f i = f (i + p)
theorem P.b {f : Nat → α} {n p : Nat} (h : P f n p) (h0 : 0 < p) (hn : p ≤ n) : B f n (n - p) := ⟨by omega, fun i hi => by
  rw [h i (by omega)]; congr 1; omega⟩
theorem B.p {f : Nat → α} {n b : Nat} (h : B f n b) : P f n (n - b) := fun i hi => by
  have := h.1
  rw [h.2 i (by omega)]; congr 1; omega
theorem P.sub {f : Nat → α} {n p q : Nat} (hp : P f n p) (hq : P f n q) (hqp : q ≤ p) (hn : p + q ≤ n) : P f n (p - q) := fun i hi => by
  by_cases h : i + p < n
  · rw [hp i h, hq (i + (p - q)) (by omega)]
    congr 1
    omega
  · -- i + p ≥ n: go back by q first
    have hiq : q ≤ i := by omega
    have e1 := hq (i - q) (by omega)
    have e2 := hp (i - q) (by omega)
    rw [show i - q + q = i by omega] at e1
    rw [show i - q + p = i + (p - q) by omega] at e2
    rw [← e1, e2]
/-- two periods: their greatest common divisor (Fine and Wilf) -/
theorem P.gcd {f : Nat → α} {n : Nat} : ∀ (k p q : Nat), p + q ≤ k → 0 < p → 0 < q → p + q ≤ n → P f n p → P f n q → P f n (Nat.gcd p q)
  | 0, p, q, h, h0, _, _, _, _ => by omega
  | k + 1, p, q, h, h0, h1, hn, hp, hq => by
    by_cases e : p = q
    · subst e; rw [Nat.gcd_self]; exact hp
    by_cases l : q < p
    · have := P.gcd k (p - q) q (by omega) (by omega) h1 (by omega) (hp.sub hq (by omega) hn) hq
      rwa [Nat.gcd_sub_self_left (by omega)] at this
    · have := P.gcd k p (q - p) (by omega) h0 (by omega) (by omega) hp (hq.sub hp (by omega) (by omega))
      rwa [Nat.gcd_sub_self_right (by omega)] at this
/-- the root's length -/
def Root (f : Nat → α) (n r : Nat) : Prop := 0 < r ∧ r ∣ n ∧ P f n r ∧ ∀ d, 0 < d → d ∣ n → P f n d → r ≤ d
theorem root_yes {f : Nat → α} {n b : Nat} (h : LB f n b) (hd : n % (n - b) = 0) : Root f n (n - b) := by
  have hb := h.1.1
  refine ⟨by omega, Nat.dvd_of_mod_eq_zero hd, h.1.p, fun d d0 dn hp => ?_⟩
  have hle : d ≤ n := Nat.le_of_dvd (by omega) dn
  have := h.2 _ (hp.b d0 hle)
  omega
theorem root_no {f : Nat → α} {n b : Nat} (h : LB f n b) (hd : n % (n - b) ≠ 0) : Root f n n := by
  have hb := h.1.1
  refine ⟨by omega, Nat.dvd_refl n, fun i hi => by omega, fun d d0 dn hp => ?_⟩
  have hle : d ≤ n := Nat.le_of_dvd (by omega) dn
  have h1 := h.2 _ (hp.b d0 hle)
  by_cases e : d = n
  · omega
  exfalso
  obtain ⟨k, hk⟩ := dn
  have hk2 : 2 ≤ k := by
    rcases k with _ | _ | k
    · omega
    · omega
    · omega
  have h2 : 2 * d ≤ n := by rw [hk]; rw [Nat.mul_comm]; exact Nat.mul_le_mul_left d hk2
  have hg := P.gcd (n - b + d) (n - b) d (Nat.le_refl _) (by omega) d0 (by omega) h.1.p hp
  have g0 : 0 < Nat.gcd (n - b) d := Nat.gcd_pos_of_pos_right _ d0
  have gl : Nat.gcd (n - b) d ≤ n - b := Nat.le_of_dvd (by omega) (Nat.gcd_dvd_left _ _)
  have h3 := h.2 _ (hg.b g0 (by omega))
  have e2 : Nat.gcd (n - b) d = n - b := by omega
  have : n - b ∣ d := by rw [← e2]; exact Nat.gcd_dvd_right _ _
  exact hd (Nat.mod_eq_zero_of_dvd (Nat.dvd_trans this ⟨k, hk⟩))

/-! ### endless sequences -/
/-- from m on s has the period p -/
def Per (s : Nat → α) (m p : Nat) : Prop := ∀ i, m ≤ i → s (i + p) = s i
theorem Per.mul {s : Nat → α} {m p : Nat} (h : Per s m p) : ∀ k i, m ≤ i → s (i + p * k) = s i
  | 0, i, _ => by rw [Nat.mul_zero, Nat.add_zero]
  | k + 1, i, hi => by
    rw [Nat.mul_succ, ← Nat.add_assoc, h _ (by omega)]
    exact h.mul k i hi
theorem Per.mono {s : Nat → α} {m n p : Nat} (h : Per s m p) (l : m ≤ n) : Per s n p := fun i hi => h i (by omega)
/-- the least period, then the least beginning -/
def Canon (s : Nat → α) (m p : Nat) : Prop := 0 < p ∧ Per s m p ∧ ∀ m' p', 0 < p' → Per s m' p' → p ≤ p' ∧ m ≤ m'
theorem Canon.uniq {s : Nat → α} {m p m' p' : Nat} (a : Canon s m p) (b : Canon s m' p') : m = m' ∧ p = p' := by
  have h1 := a.2.2 m' p' b.1 b.2.1
  have h2 := b.2.2 m p a.1 a.2.1
  omega
theorem Per.sub {g : Nat → α} {p q : Nat} (hp : Per g 0 p) (hq : Per g 0 q) (h : q ≤ p) : Per g 0 (p - q) := fun i _ => by
  have h1 := hp i (Nat.zero_le _)
  have h2 := hq (i + (p - q)) (Nat.zero_le _)
  rw [show i + (p - q) + q = i + p by omega] at h2
  rw [← h2, h1]
theorem Per.gcd {g : Nat → α} : ∀ (k p q : Nat), p + q ≤ k → 0 < p → 0 < q → Per g 0 p → Per g 0 q → Per g 0 (Nat.gcd p q)
  | 0, p, q, h, h0, _, _, _ => by omega
  | k + 1, p, q, h, h0, h1, hp, hq => by
    by_cases e : p = q
    · subst e; rw [Nat.gcd_self]; exact hp
    by_cases l : q < p
    · have := Per.gcd k (p - q) q (by omega) (by omega) h1 (hp.sub hq (by omega)) hq
      rwa [Nat.gcd_sub_self_left (by omega)] at this
    · have := Per.gcd k p (q - p) (by omega) h0 (by omega) hp (hq.sub hp (by omega))
      rwa [Nat.gcd_sub_self_right (by omega)] at this
/-- what is periodic from somewhere on, and has a period throughout, has the first one throughout -/
theorem Per.all {g : Nat → α} {m p r : Nat} (r0 : 0 < r) (hr : Per g 0 r) (hp : Per g m p) : Per g 0 p := fun i _ => by
  have h1 := hp (i + r * m) (by have : m ≤ r * m := Nat.le_mul_of_pos_left m r0; omega)
  rw [hr.mul m i (Nat.zero_le _)] at h1
  rw [← h1, show i + r * m + p = i + p + r * m by omega, hr.mul m (i + p) (Nat.zero_le _)]
/-- both agree far enough, so for ever -/
theorem agree {s t : Nat → α} {a b p q N : Nat} (p0 : 0 < p) (q0 : 0 < q) (hs : Per s a p) (ht : Per t b q) (hN : a ≤ N) (hN2 : b ≤ N) (h : ∀ i, i < N + p + q → s i = t i) : ∀ i, s i = t i := by
  -- from N on both have both periods on the window, so s has q's
  have key : ∀ k i, i < N + p + q + k → s i = t i := by
    intro k
    induction k with
    | zero => exact fun i hi => h i (by omega)
    | succ k ih =>
      intro i hi
      by_cases l : i < N + p + q + k
      · exact ih i l
      · have e1 := hs (i - p) (by omega)
        have e2 := ht (i - q) (by omega)
        rw [show i - p + p = i by omega] at e1
        rw [show i - q + q = i by omega] at e2
        -- s i = s (i-p) = t (i-p) = t (i-p-q) = s (i-p-q) = s (i-q) = t (i-q) = t i
        have e3 := ht (i - p - q) (by omega)
        have e4 := hs (i - p - q) (by omega)
        rw [show i - p - q + q = i - p by omega] at e3
        rw [show i - p - q + p = i - q by omega] at e4
        rw [e1, e2, ih (i - p) (by omega), e3, ← ih (i - p - q) (by omega), ← e4, ih (i - q) (by omega)]
  exact fun i => key (i + 1) i (by omega)
end Rnd

namespace Rnd
/-- the letters of head and round for ever -/
def sg (h r : List Nat) (i : Nat) : Nat := if i < h.length then h.getD i 0 else r.getD ((i - h.length) % r.length) 0
theorem sg_head {h r : List Nat} {i : Nat} (l : i < h.length) : sg h r i = h.getD i 0 := if_pos l
theorem sg_tail {h r : List Nat} {i : Nat} (l : h.length ≤ i) : sg h r i = r.getD ((i - h.length) % r.length) 0 := if_neg (by omega)
theorem sg_per (h r : List Nat) : Per (sg h r) h.length r.length := fun i hi => by
  rw [sg_tail hi, sg_tail (by omega), show i + r.length - h.length = (i - h.length) + r.length by omega, Nat.add_mod_right]
def seg (s : Nat → Nat) (a n : Nat) : List Nat := (List.range n).map fun i => s (a + i)
theorem seg_len (s : Nat → Nat) (a n : Nat) : (seg s a n).length = n := by simp [seg]
theorem seg_get {s : Nat → Nat} {a n i : Nat} (h : i < n) : (seg s a n).getD i 0 = s (a + i) := by
  simp [seg, List.getD_eq_getElem?_getD, h]
theorem list_seg {l : List Nat} {s : Nat → Nat} {a : Nat} (h : ∀ i, i < l.length → l.getD i 0 = s (a + i)) : l = seg s a l.length := by
  apply List.ext_getElem
  · rw [seg_len]
  · intro i h1 h2
    have := h i h1
    rw [List.getD_eq_getElem?_getD, List.getElem?_eq_getElem h1, Option.getD_some] at this
    rw [this]
    simp [seg]
theorem sg_seg {s : Nat → Nat} {m p : Nat} (p0 : 0 < p) (h : Per s m p) : ∀ i, sg (seg s 0 m) (seg s m p) i = s i := fun i => by
  by_cases l : i < m
  · rw [sg_head (by rw [seg_len]; exact l), seg_get l, Nat.zero_add]
  · rw [sg_tail (by rw [seg_len]; omega), seg_len, seg_len, seg_get (Nat.mod_lt _ p0)]
    have e : i = m + (i - m) % p + p * ((i - m) / p) := by have := Nat.mod_add_div (i - m) p; omega
    conv => rhs; rw [e]
    rw [h.mul _ _ (by omega)]
theorem root_get {f : Nat → Nat} {n r : Nat} (R : Root f n r) : ∀ k j, j ≤ k → j < n → f j = f (j % r)
  | 0, j, h, _ => by have : j = 0 := by omega
                     subst this; rw [Nat.zero_mod]
  | k + 1, j, h, hn => by
    by_cases l : j < r
    · rw [Nat.mod_eq_of_lt l]
    · have := R.2.2.1 (j - r) (by omega)
      rw [show j - r + r = j by omega] at this
      have r0 := R.1
      rw [← this, root_get R k (j - r) (by omega) (by omega), Nat.mod_eq_sub_mod (by omega : r ≤ j)]
theorem mod_same {a b x y r : Nat} (h : a + r * x = b + r * y) : a % r = b % r := by
  have := congrArg (· % r) h
  simpa [Nat.add_mul_mod_self_left] using this
theorem back_mod {r L k : Nat} (r0 : 0 < r) (hk : k < L) : (L - 1 - k + r * L - L) % r = r - 1 - k % r := by
  have h1 := Nat.mod_add_div k r
  have h2 := Nat.mod_lt k r0
  have hq : k / r < L := Nat.lt_of_le_of_lt (Nat.div_le_self _ _) hk
  have h3 : r * (k / r) + r ≤ r * L := by
    have := Nat.mul_le_mul_left r (show k / r + 1 ≤ L by omega)
    rwa [Nat.mul_succ] at this
  have h4 : L ≤ r * L := Nat.le_mul_of_pos_left L r0
  have e : (L - 1 - k + r * L - L) + r * (k / r + 1) = (r - 1 - k % r) + r * L := by rw [Nat.mul_succ]; omega
  rw [mod_same e, Nat.mod_eq_of_lt (by omega)]
/-- how far the head's end goes with the round -/
structure Strip (h : List Nat) (f : Nat → Nat) (r t : Nat) : Prop where
  le : t ≤ h.length
  same : ∀ k, k < t → h.getD (h.length - 1 - k) 0 = f (r - 1 - k % r)
  stop : t = h.length ∨ h.getD (h.length - 1 - t) 0 ≠ f (r - 1 - t % r)
section
variable {h w : List Nat} {r t : Nat}
/-- from where the round has come on, written as one function -/
def ph (h w : List Nat) (r i : Nat) : Nat := w.getD ((i + r * h.length - h.length) % r) 0
theorem ph_per (r0 : 0 < r) : Per (ph h w r) 0 r := fun i _ => by
  unfold ph
  have h4 : h.length ≤ r * h.length := Nat.le_mul_of_pos_left _ r0
  rw [show i + r + r * h.length - h.length = (i + r * h.length - h.length) + r by omega, Nat.add_mod_right]
theorem sg_ph (hn : 0 < w.length) (R : Root (fun i => w.getD i 0) w.length r) (S : Strip h (fun i => w.getD i 0) r t) : ∀ i, h.length - t ≤ i → sg h w i = ph h w r i := fun i hi => by
  have r0 := R.1
  have h4 : h.length ≤ r * h.length := Nat.le_mul_of_pos_left _ r0
  by_cases l : i < h.length
  · rw [sg_head l]
    have := S.same (h.length - 1 - i) (by omega)
    rw [show h.length - 1 - (h.length - 1 - i) = i by omega] at this
    rw [this]
    unfold ph
    have b := back_mod (L := h.length) (k := h.length - 1 - i) r0 (by omega)
    rw [show h.length - 1 - (h.length - 1 - i) = i by omega] at b
    rw [b]
  · rw [sg_tail (by omega), root_get R _ _ (Nat.le_refl _) (Nat.mod_lt _ hn), Nat.mod_mod_of_dvd _ R.2.1]
    unfold ph
    congr 1
    exact mod_same (x := h.length) (y := 0) (by rw [Nat.mul_zero]; omega)
theorem canon_of (hn : 0 < w.length) (R : Root (fun i => w.getD i 0) w.length r) (S : Strip h (fun i => w.getD i 0) r t) : Canon (sg h w) (h.length - t) r := by
  have r0 := R.1
  have e := sg_ph hn R S
  have pp := ph_per (h := h) (w := w) r0
  refine ⟨r0, fun i hi => by rw [e i hi, e (i + r) (by omega)]; exact pp i (Nat.zero_le _), fun m' p' p0 hp => ?_⟩
  have q : Per (ph h w r) 0 p' := by
    refine Per.all (m := h.length - t + m') r0 pp fun i hi => ?_
    rw [← e i (by omega), ← e (i + p') (by omega)]
    exact hp i (by omega)
  have hd := Per.gcd (r + p') r p' (Nat.le_refl _) r0 p0 pp q
  have d0 : 0 < Nat.gcd r p' := Nat.gcd_pos_of_pos_left _ r0
  have hf : ∀ i, i < w.length → w.getD i 0 = ph h w r (i + h.length) := fun i hi => by
    have h4 : h.length ≤ r * h.length := Nat.le_mul_of_pos_left _ r0
    rw [root_get R i i (Nat.le_refl _) hi]
    unfold ph
    congr 1
    exact mod_same (x := h.length) (y := 0) (by rw [Nat.mul_zero]; omega)
  have hle := R.2.2.2 (Nat.gcd r p') d0 (Nat.dvd_trans (Nat.gcd_dvd_left _ _) R.2.1) (fun i hi => by
    show w.getD i 0 = w.getD (i + Nat.gcd r p') 0
    rw [hf i (by omega), hf _ hi, show i + Nat.gcd r p' + h.length = i + h.length + Nat.gcd r p' by omega]
    exact (hd _ (Nat.zero_le _)).symm)
  have hge : Nat.gcd r p' ≤ r := Nat.le_of_dvd r0 (Nat.gcd_dvd_left _ _)
  have hdv : r ∣ p' := by
    have e2 : Nat.gcd r p' = r := by omega
    rw [← e2]; exact Nat.gcd_dvd_right _ _
  refine ⟨Nat.le_of_dvd p0 hdv, ?_⟩
  apply Nat.le_of_not_lt
  intro hm
  have tl : t < h.length := by omega
  rcases S.stop with z | z
  · omega
  · apply z
    have i1 : h.length - 1 - t = h.length - t - 1 := by omega
    have e3 := hp (h.length - t - 1) (by omega)
    have a1 := sg_head (h := h) (r := w) (i := h.length - t - 1) (by omega)
    have a2 := e (h.length - t - 1 + p') (by omega)
    have a3 := q (h.length - t - 1) (Nat.zero_le _)
    rw [a1, a2, a3] at e3
    rw [i1, ← e3]
    unfold ph
    have b := back_mod (L := h.length) (k := t) r0 tl
    rw [i1] at b
    rw [b]
/-- what is told: the head less what goes with the round, the round turned -/
theorem told_head (S : Strip h (fun i => w.getD i 0) r t) : h.take (h.length - t) = seg (sg h w) 0 (h.length - t) := by
  have l : (h.take (h.length - t)).length = h.length - t := by rw [List.length_take]; omega
  have := list_seg (l := h.take (h.length - t)) (s := sg h w) (a := 0) (fun i hi => by
    rw [l] at hi
    rw [Nat.zero_add, sg_head (by omega), List.getD_eq_getElem?_getD, List.getElem?_take, if_pos hi, List.getD_eq_getElem?_getD])
  rwa [l] at this
theorem told_round (hn : 0 < w.length) (R : Root (fun i => w.getD i 0) w.length r) (S : Strip h (fun i => w.getD i 0) r t) :
    (w.take r).drop (r - t % r) ++ (w.take r).take (r - t % r) = seg (sg h w) (h.length - t) r := by
  have r0 := R.1
  have rl : r ≤ w.length := Nat.le_of_dvd hn R.2.1
  have t1 := Nat.mod_lt t r0
  have l0 : (w.take r).length = r := by rw [List.length_take]; omega
  have l : ((w.take r).drop (r - t % r) ++ (w.take r).take (r - t % r)).length = r := by
    simp only [List.length_append, List.length_drop, List.length_take]
    omega
  have key := list_seg (l := (w.take r).drop (r - t % r) ++ (w.take r).take (r - t % r)) (s := sg h w) (a := h.length - t) (fun i hi => by
    rw [l] at hi
    rw [sg_ph hn R S _ (by omega)]
    have h4 : h.length ≤ r * h.length := Nat.le_mul_of_pos_left _ r0
    have t2 := Nat.mod_add_div t r
    have tle := S.le
    unfold ph
    have e : (h.length - t + i + r * h.length - h.length) % r = (i + (r - t % r)) % r := by
      refine mod_same (x := t / r + 1) (y := h.length) ?_
      rw [Nat.mul_succ]; omega
    rw [e, List.getD_eq_getElem?_getD, List.getElem?_append, List.length_drop, l0]
    split
    · rename_i q
      rw [List.getElem?_drop, List.getElem?_take, if_pos (by omega), Nat.mod_eq_of_lt (show i + (r - t % r) < r by omega), List.getD_eq_getElem?_getD, Nat.add_comm]
    · rename_i q
      rw [List.getElem?_take, if_pos (by omega), List.getElem?_take, if_pos (by omega), List.getD_eq_getElem?_getD]
      congr 2
      rw [Nat.mod_eq_sub_mod (show r ≤ i + (r - t % r) by omega), Nat.mod_eq_of_lt (show i + (r - t % r) - r < r by omega)]
      omega)
  rwa [l] at key
end
/-- what agrees far enough has this period -/
theorem per_of_agree {s : Nat → Nat} {a b l z N : Nat} (b0 : 0 < b) (z0 : 0 < z) (hs : Per s a b) (hN : a + b + l + z ≤ N) (h : ∀ i, i < N → sg (seg s 0 l) (seg s l z) i = s i) : Per s l z := by
  have p1 : Per (sg (seg s 0 l) (seg s l z)) l z := by
    have := sg_per (seg s 0 l) (seg s l z)
    rwa [seg_len, seg_len] at this
  have all := agree (N := a + l) b0 z0 hs p1 (by omega) (by omega) (fun i hi => (h i (by omega)).symm)
  exact fun i hi => by rw [all i, all (i + z)]; exact p1 i hi
theorem seg_take {s : Nat → Nat} {a b : Nat} : (seg s 0 (a + b)).take a = seg s 0 a := by
  unfold seg
  rw [← List.map_take, List.take_range, Nat.min_eq_left (by omega)]
theorem seg_drop {s : Nat → Nat} {a b : Nat} : (seg s 0 (a + b)).drop a = seg s a b := by
  apply List.ext_getElem
  · simp [seg]
  · intro i h1 h2
    simp [seg]
/-- there is a least way -/
theorem least_nat {p : Nat → Prop} (h : ∃ n, p n) : ∃ n, p n ∧ ∀ m, p m → n ≤ m := by
  obtain ⟨n, hn⟩ := h
  have key : ∀ k n, n ≤ k → p n → ∃ n, p n ∧ ∀ m, p m → n ≤ m := by
    intro k
    induction k with
    | zero => exact fun n hk hn => ⟨n, hn, fun m _ => by omega⟩
    | succ k ih =>
      intro n hk hn
      by_cases q : ∃ m, m < n ∧ p m
      · obtain ⟨m, hm, hp⟩ := q
        exact ih m (by omega) hp
      · exact ⟨n, hn, fun m hm => Nat.le_of_not_lt fun l => q ⟨m, l, hm⟩⟩
  exact key n n (Nat.le_refl _) hn
theorem canon_any {s : Nat → Nat} {a b : Nat} (b0 : 0 < b) (h : Per s a b) : ∃ m p, Canon s m p := by
  obtain ⟨p, ⟨hp0, m1, hm1⟩, hpl⟩ := least_nat (p := fun p => 0 < p ∧ ∃ m, Per s m p) ⟨b, b0, a, h⟩
  obtain ⟨m, hm, hml⟩ := least_nat (p := fun m => Per s m p) ⟨m1, hm1⟩
  refine ⟨m, p, hp0, hm, fun m' p' p0 hp' => ⟨hpl p' ⟨p0, m', hp'⟩, hml m' fun i hi => ?_⟩⟩
  -- p' from m' on; p from m on: so p from m' on
  have e1 := hp'.mul (m + 1) i hi
  have e2 := hp'.mul (m + 1) (i + p) (by omega)
  rw [← e2, ← e1, show i + p + p' * (m + 1) = (i + p' * (m + 1)) + p by omega]
  refine hm _ ?_
  have : m + 1 ≤ p' * (m + 1) := Nat.le_mul_of_pos_left _ p0
  omega
end Rnd

namespace Law
open PySem PySem.Spec PyProof.Rows L2
def top (i : Nat) : Stmt := PySem.Challenge.pw_wholewalks_k02_whole_least_contents.main.body.getD i (.Pass ⟨0, 0, 0, 0⟩)
/-- where the written classes stand -/
structure Adr where
  NoContent : Addr
  none_ : Addr
structure Txt (P : Program) (K : PySem.W.Frag) (mg : Str → Option Value) (a : Adr) : Prop where
  «abs» : mg "abs" = none
  «bool» : mg "bool" = none
  «int» : mg "int" = none
  «isinstance» : mg "isinstance" = none
  «len» : mg "len" = none
  «range» : mg "range" = none
  «str» : mg "str" = none
  «sum» : mg "sum" = none
  «tuple» : mg "tuple" = none
  x_NoContent : PySem.NoX.NoTxt P K mg "NoContent" a.NoContent
  g_LETTERS : ∃ t, mg "LETTERS" = some (.str "abc" t)
abbrev s_is_tuple_of : Stmt := top 5
abbrev s_is_lettered : Stmt := top 6
abbrev s_shortest_round : Stmt := top 8
abbrev s_shortest : Stmt := top 9
abbrev s_is_content_of : Stmt := top 12
abbrev s_is_content : Stmt := top 11
abbrev s_need_content : Stmt := top 13
abbrev s_least_content : Stmt := top 15
abbrev s_same_signs : Stmt := top 14
abbrev s__law_pot : Stmt := top 17
abbrev s__law_draw : Stmt := top 18
abbrev s__law_string : Stmt := top 19
abbrev s__law_sign : Stmt := top 20
abbrev s__law_first : Stmt := top 21
abbrev s__law_least : Stmt := top 22
abbrev s__law_written : Stmt := top 23
abbrev s__law_long_right : Stmt := top 24
abbrev s_law : Stmt := top 25
abbrev N_is_tuple_of : List Str := ["many", "thing"]
abbrev N_is_lettered : List Str := ["letters", "thing"]
abbrev N_shortest_round : List Str := ["items", "many", "borders", "width", "at", "short"]
abbrev N_shortest : List Str := ["first", "ring", "size", "many", "cut"]
abbrev N_is_content_of : List Str := ["letters", "thing"]
abbrev N_is_content : List Str := ["thing"]
abbrev N_need_content : List Str := ["thing"]
abbrev N_least_content : List Str := ["content"]
abbrev N_same_signs : List Str := ["content", "second"]
abbrev N__law_pot : List Str := ["script", "cells", "greats", "smalls", "item"]
abbrev N__law_draw : List Str := ["pot", "many", "turn", "number", "seed"]
abbrev N__law_string : List Str := ["pot", "letters", "most", "k"]
abbrev N__law_sign : List Str := ["content", "place"]
abbrev N__law_first : List Str := ["content", "many", "place"]
abbrev N__law_least : List Str := ["content", "letters", "size", "long", "line", "found"]
abbrev N__law_written : List Str := ["pot", "content", "head", "again", "turn"]
abbrev N__law_long_right : List Str := ["pot", "inner", "again", "due", "other", "at", "least"]
abbrev N_law : List Str := ["script", "pot", "turn", "letters", "content", "due", "other", "second", "told"]
section
variable {P : Program} {w : World} {K : PySem.W.Frag} {mg : Str → Option Value} {base : Heap} {a : Adr}
def tupB (m : Int) : Option (List V) → Bool
  | some xs => decide ((xs.length : Int) = m)
  | none => false
def spIsTupleOf (K : PySem.W.Frag) : Sp := fun vs H Q _ => ∃ (m : Int) (x : V) (o : Option (List V)), vs = [.int m, x] ∧ TupIs K H x o ∧ Q (.bl (tupB m o)) H
theorem sc_is_tuple_of : FnScope N_is_tuple_of ["many", "thing"] (defScope s_is_tuple_of) := ⟨rfl, rfl, rfl, by decide +kernel, rfl, by decide +kernel, by decide +kernel⟩
theorem ok_is_tuple_of {f : Addr} {fd : FuncData} (F : Fun K "is_tuple_of" "is_tuple_of" s_is_tuple_of f fd) (T : Txt P K mg a) : FnOk P w K mg base (L2.CX P w) 1 f fd ["many", "thing"] (spIsTupleOf K) := by
  have S := sc_is_tuple_of
  refine F.okX S (fun vs H Q E h => ?_) (fun cdv A outer s H vs Q E hr h => ?_)
  · obtain ⟨m, x, o, rfl, _⟩ := h; rfl
  have hu := hu_of hr
  obtain ⟨m, x, o, rfl, hI, k⟩ := h
  refine ⟨_, ((pss_one (ps_ret (pe_and (pe_callB call_isi (by rfl) T.isinstance (by decide +kernel) (pa_cons (pv 1) (pa_cons (pe_bltn (v := .ty "tuple") (by rfl) T.tuple (by decide +kernel) rfl) pa_nil))) (pe_one (pe_cmpR op_eq (pe_callB call_len (by rfl) T.len (by decide +kernel) (pa_cons (pv 1) pa_nil)) (pv 0) (nomark _))))))), ?_⟩
  cases o with
  | some xs =>
    obtain ⟨a, rfl, ha⟩ := hI
    refine ⟨_, rfl, _, _, _, _, true, rfl, .ty _, .base (.tup ha), kit_ty (by decide +kernel), _, rfl, iteT ?_⟩
    refine ⟨_, rfl, _, _, rfl, .inr ⟨_, SqT.of ha, rfl⟩, _, rfl, rfl, ?_⟩
    rw [dec_int]
    exact k
  | none =>
    obtain ⟨t, ty, kt⟩ := hI
    exact ⟨_, rfl, _, _, _, _, false, rfl, .ty _, ty, kit_ty kt, _, rfl, iteF k⟩
def spIsLettered (K : PySem.W.Frag) : Sp := fun vs H Q _ => ∃ (n : Int) (x : V) (o : Option Str), vs = [.int n, x] ∧ 0 ≤ n ∧ n ≤ 3 ∧ StrIs K H x o ∧ Q (.bl (lettO n o)) H
theorem sc_is_lettered : FnScope N_is_lettered ["letters", "thing"] (defScope s_is_lettered) := ⟨rfl, rfl, rfl, by decide +kernel, rfl, by decide +kernel, by decide +kernel⟩
theorem ok_is_lettered {f : Addr} {fd : FuncData} (F : Fun K "is_lettered" "is_lettered" s_is_lettered f fd) (T : Txt P K mg a) : FnOk P w K mg base (L2.CX P w) 1 f fd ["letters", "thing"] (spIsLettered K) := by
  have S := sc_is_lettered
  obtain ⟨t_LETTERS, g_LETTERS⟩ := T.g_LETTERS
  refine F.okX S (fun vs H Q E h => ?_) (fun cdv A outer s H vs Q E hr h => ?_)
  · obtain ⟨m, x, o, rfl, _⟩ := h; rfl
  have hu := hu_of hr
  obtain ⟨n, x, o, rfl, h0, h3, hI, k⟩ := h
  refine ⟨_, ((pss_one (ps_ret (pe_and (pe_callB call_isi (by rfl) T.isinstance (by decide +kernel) (pa_cons (pv 1) (pa_cons (pe_bltn (v := .ty "str") (by rfl) T.str (by decide +kernel) rfl) pa_nil))) (pe_one (pe_cmpR op_eq (pe_bm PySem.F.plainAttrs_str PySem.F.slot_str_strip PySem.F.type_str_strip mt_stripChars (pv 1) (pa_cons (pe_slice sl_str (pe_glob (v := .str "abc") rfl g_LETTERS ⟨_, rfl⟩) po_none (po_some (pv 0))) pa_nil)) pe_str (nomark _))))))), ?_⟩
  cases o with
  | some y =>
    obtain ⟨rfl, hy⟩ := hI
    refine ⟨_, rfl, _, _, _, _, true, rfl, .ty _, .base (.str y), kit_ty (by decide +kernel), _, rfl, iteT ?_⟩
    refine ⟨_, rfl, rfl, _, rfl, _, rfl, _, rfl, by decide, _, _, rfl, rfl, hy, rfl, ?_⟩
    rw [strip_abc h0 h3]
    exact k
  | none =>
    obtain ⟨t, ty, kt⟩ := hI
    exact ⟨_, rfl, _, _, _, _, false, rfl, .ty _, ty, kit_ty kt, _, rfl, iteF k⟩
/-- the letters of a text as a function of the place -/
abbrev fz (z : Str) : Nat → Nat := fun i => z.cps.toList.getD i 0
def spShortestRound : Sp := fun vs H Q _ => ∃ z : Str, vs = [.str z] ∧ 0 < z.length ∧ z.length ≤ 1000 ∧ ∀ (r : Nat) (u : Str) H', Rnd.Root (fz z) z.length r → u.cps.toList = z.cps.toList.take r → Same H H' → Q (.str u) H'
theorem one_sign {a b : Nat} : decide (V.str ⟨#[a]⟩ = V.str ⟨#[b]⟩) = decide (a = b) := by
  rw [decS]
  by_cases h : a = b
  · rw [h]; simp
  · rw [decide_eq_false h, decide_eq_false]
    intro z
    have := congrArg (fun s : Str => s.cps.toList) z
    simp at this
    exact h this
theorem flat_rep (v : V) : ∀ n : Nat, (List.replicate n [v]).flatten = List.replicate n v
  | 0 => rfl
  | n + 1 => by rw [List.replicate_succ, List.flatten_cons, flat_rep v n]; rfl
theorem sc_shortest_round : FnScope N_shortest_round ["items"] (defScope s_shortest_round) := ⟨rfl, rfl, rfl, by decide +kernel, rfl, by decide +kernel, by decide +kernel⟩
theorem ok_shortest_round {f : Addr} {fd : FuncData} (F : Fun K "shortest_round" "shortest_round" s_shortest_round f fd) (T : Txt P K mg a) : FnOk P w K mg base (L2.CX P w) 1 f fd ["items"] (spShortestRound) := by
  have S := sc_shortest_round
  refine F.okX S (fun vs H Q E h => ?_) (fun cdv A outer s H vs Q E hr h => ?_)
  · obtain ⟨z, rfl, _⟩ := h; rfl
  have hu := hu_of hr
  obtain ⟨z, rfl, z0, z1, k⟩ := h
  have zl : z.length ≤ sizeLine := Nat.le_trans z1 (by decide)
  have hix : ∀ j : Nat, j < z.length → atI z.cps.toList (j : Int) = some (fz z j) := fun j hj => by
    have := at_getD (z := z) (i := (j : Int)) (by omega) (by omega)
    rwa [Int.toNat_natCast] at this
  refine ⟨_, ((pss_cons (ps_set (i := 1) S.nd rfl (Or.inl rfl) (pe_callB call_len_str (by rfl) T.len (by decide +kernel) (pa_cons (pv 0) pa_nil)))
      (pss_cons (ps_set (i := 2) S.nd rfl (Or.inl rfl) (pe_op op_rep (pe_lst (pa_cons pe_int pa_nil)) (pv 1)))
      (pss_cons (ps_set (i := 3) S.nd rfl (Or.inl rfl) pe_int)
      (pss_cons (ps_for (passes_of rfl) rfl (pi_range2 rfl T.range (pa_cons pe_int (pa_cons (pv 1) pa_nil))) (pg_name (i := 4) S.nd rfl (by first | exact Or.inl rfl | exact Or.inr rfl)) (pss_cons (ps_while (passes_of rfl) (PW.pt (pw_and (pt_cmpR op_gt (pv 3) pe_int (nomark _)) (pw_and1 (pt_cmpR op_ne (pe_ix ix_str (pv 0) (pv 4) (fun _ _ => rfl)) (pe_ix ix_str (pv 0) (pv 3) (fun _ _ => rfl)) (nomark _))))) (pss_one (ps_set (i := 3) S.nd rfl (Or.inl rfl) (pe_ix ix_list (pv 2) (pe_op op_sub (pv 3) pe_int) (fun _ _ => rfl)))))
          (pss_cons (ps_if (pt_cmpR op_eq (pe_ix ix_str (pv 0) (pv 4) (fun _ _ => rfl)) (pe_ix ix_str (pv 0) (pv 3) (fun _ _ => rfl)) (nomark _)) (pss_one (ps_aug (i := 3) S.nd rfl (.inl rfl) pe_int ip_add)) pss_nil)
          (pss_one (ps_asg (pv 3) (pg_sub (pv 2) (pv 4) set_list))))))
      (pss_cons (ps_set (i := 5) S.nd rfl (Or.inl rfl) (pe_op op_sub (pv 1) (pv 3)))
      (pss_cons (ps_if (pt_cmpR op_eq (pe_op op_modN (pv 1) (pv 5)) pe_int (nomark _)) (pss_one (ps_ret (pe_slice sl_str (pv 0) po_none (po_some (pv 5))))) pss_nil)
      (pss_one (ps_ret (pv 0)))))))))), ?_⟩
  refine ⟨_, rfl, _, rfl, zl, ?_⟩
  refine ⟨(by show 1 ≤ sizeLine; decide), fun l nl => ⟨_, rfl, l, (z.length : Int), [.int 0], rfl, rfl, upd_same, by omega, by omega, ?_, fun B nB => ?_⟩⟩
  · show 1 * _ ≤ _
    rw [Int.toNat_natCast]; omega
  rw [flat_rep, Int.toNat_natCast]
  have s0 : Same H (upd (upd H l (.lst [.int 0])) B (.lst (List.replicate z.length (.int 0)))) := (Same.new nl).trans (Same.new nB)
  have fB : H B = none := (Same.new nl).free nB
  have eB : (upd (upd H l (.lst [.int 0])) B (.lst (List.replicate z.length (.int 0)))) B = some (.lst ((List.replicate z.length (0 : Int)).map V.int)) := by rw [upd_same, List.map_replicate]
  generalize upd (upd H l (.lst [.int 0])) B (.lst (List.replicate z.length (.int 0))) = H1 at s0 eB ⊢
  refine ⟨_, rfl, 1, (z.length : Int), rfl, ⟨by decide, by decide, by omega, by omega⟩, ?_⟩
  refine for_range (lo := 1) (n := ((z.length : Int) - 1).toNat) (fun i σ H' => Same H H' ∧ ∃ (bs : List Int) (x : Nat) (v4 v5 : Option V), σ = [some (.str z), some (.int (z.length : Int)), some (.ref B), some (.int (x : Int)), v4, v5] ∧ H' B = some (.lst (bs.map V.int)) ∧ bs.length = z.length ∧ Rnd.LB (fz z) (i + 1) x ∧ ∀ m, 1 ≤ m → m ≤ i + 1 → ∃ b : Nat, bs[m - 1]? = some (b : Int) ∧ Rnd.LB (fz z) m b) ⟨s0, List.replicate z.length 0, 0, none, none, rfl, eB, by simp, Rnd.LB.one, fun m m1 m2 => ⟨0, by rw [show m = 1 by omega]; simp [z0], by rw [show m = 1 by omega]; exact Rnd.LB.one⟩⟩ ?_ ?_
  · rintro i σ H' hi ⟨s1, bs, x, v4, v5, rfl, hB, hbl, hx, hbs⟩
    have hi2 : i + 1 < z.length := by omega
    have ei : (1 : Int) + (i : Int) = ((i + 1 : Nat) : Int) := by omega
    rw [ei]
    -- the inner loop
    refine ⟨fun m σ' H2 => H' = H2 ∧ ∃ y : Nat, σ' = [some (.str z), some (.int (z.length : Int)), some (.ref B), some (.int (y : Int)), some (.int ((i + 1 : Nat) : Int)), v5] ∧ y = m ∧ Rnd.W (fz z) (i + 1) y, ⟨x, rfl, x, rfl, rfl, hx.w⟩, ?_⟩
    rintro m σ' _ ⟨rfl, y, rfl, rfl, hy⟩
    have yl : y < i + 1 := hy.1.1
    refine ⟨_, rfl, _, _, rfl, rfl, _, rfl, ?_⟩
    refine ite2 (fun c1 => ?_) (fun c1 => ?_)
    · have c1 : 0 < y := by have := of_decide_eq_true c1; omega
      refine ⟨_, rfl, _, rfl, _, _, _, rfl, rfl, zl, hix _ hi2, _, rfl, _, rfl, _, _, _, rfl, rfl, zl, hix y (by omega), rfl, _, rfl, ?_⟩
      rw [one_sign]
      refine ite2 (fun c2 => ?_) (fun c2 => ?_)
      · have c2 : fz z (i + 1) ≠ fz z y := by simpa using c2
        obtain ⟨b, hb, hlb⟩ := hbs y c1 (by omega)
        refine ⟨fun σ' H2 => ∃ m', m' < y ∧ H' = H2 ∧ ∃ y : Nat, σ' = [some (.str z), some (.int (z.length : Int)), some (.ref B), some (.int (y : Int)), some (.int ((i + 1 : Nat) : Int)), v5] ∧ y = m' ∧ Rnd.W (fz z) (i + 1) y, fun _ _ q => q, ?_⟩
        refine ⟨_, rfl, _, rfl, _, _, rfl, rfl, B, _, _, .int (b : Int), rfl, rfl, SqL.of hB, ?_, ?_⟩
        · refine at_of (j := y - 1) (by omega) ?_
          rw [List.getElem?_map, hb]; rfl
        · exact ⟨b, hlb.1.1, rfl, b, rfl, rfl, hy.step c2 hlb⟩
      · have c2 : fz z (i + 1) = fz z y := by simpa using c2
        -- out, alike
        refine ⟨_, rfl, _, rfl, _, _, _, rfl, rfl, zl, hix _ hi2, _, rfl, _, rfl, _, _, _, rfl, rfl, zl, hix y (by omega), rfl, _, rfl, ?_⟩
        rw [one_sign, decide_eq_true c2]
        refine iteT ⟨_, rfl, _, _, rfl, rfl, ?_⟩
        refine ⟨_, rfl, _, rfl, _, rfl, B, _, _, i + 1, rfl, rfl, hB, Evl.ixN_nat (by rw [List.length_map]; omega), ?_⟩
        have L := hy.yes c2
        refine ⟨s1.mut fB, bs.set (i + 1) ((y + 1 : Nat) : Int), y + 1, _, _, rfl, ?_, by simp [hbl], L, fun m m1 m2 => ?_⟩
        · rw [upd_same, List.map_set]; try rfl
        · by_cases e : m = i + 1 + 1
          · subst e
            exact ⟨y + 1, by rw [show i + 1 + 1 - 1 = i + 1 by omega, List.getElem?_set_self (by omega)], L⟩
          · obtain ⟨b, hb, hlb⟩ := hbs m m1 (by omega)
            exact ⟨b, by rw [List.getElem?_set_ne (by omega)]; exact hb, hlb⟩
    · have c1 : y = 0 := by have : ¬ (0 : Int) < (y : Int) := by simpa using c1
                            omega
      subst c1
      -- out, at the beginning
      refine ⟨_, rfl, _, rfl, _, _, _, rfl, rfl, zl, hix _ hi2, _, rfl, _, rfl, _, _, _, rfl, rfl, zl, hix 0 (by omega), rfl, _, rfl, ?_⟩
      rw [one_sign]
      refine ite2 (fun c2 => ?_) (fun c2 => ?_)
      · have c2 : fz z (i + 1) = fz z 0 := of_decide_eq_true c2
        refine ⟨_, rfl, _, _, rfl, rfl, ?_⟩
        refine ⟨_, rfl, _, rfl, _, rfl, B, _, _, i + 1, rfl, rfl, hB, Evl.ixN_nat (by rw [List.length_map]; omega), ?_⟩
        have L := hy.yes c2
        refine ⟨s1.mut fB, bs.set (i + 1) ((0 + 1 : Nat) : Int), 0 + 1, _, _, rfl, ?_, by simp [hbl], L, fun m m1 m2 => ?_⟩
        · rw [upd_same, List.map_set]; try rfl
        · by_cases e : m = i + 1 + 1
          · subst e
            exact ⟨0 + 1, by rw [show i + 1 + 1 - 1 = i + 1 by omega, List.getElem?_set_self (by omega)], L⟩
          · obtain ⟨b, hb, hlb⟩ := hbs m m1 (by omega)
            exact ⟨b, by rw [List.getElem?_set_ne (by omega)]; exact hb, hlb⟩
      · have c2 : fz z (i + 1) ≠ fz z 0 := by simpa using c2
        refine ⟨_, rfl, _, rfl, _, rfl, B, _, _, i + 1, rfl, rfl, hB, Evl.ixN_nat (by rw [List.length_map]; omega), ?_⟩
        have L := hy.no c2
        refine ⟨s1.mut fB, bs.set (i + 1) ((0 : Nat) : Int), 0, _, _, rfl, ?_, by simp [hbl], L, fun m m1 m2 => ?_⟩
        · rw [upd_same, List.map_set]; try rfl
        · by_cases e : m = i + 1 + 1
          · subst e
            exact ⟨0, by rw [show i + 1 + 1 - 1 = i + 1 by omega, List.getElem?_set_self (by omega)], L⟩
          · obtain ⟨b, hb, hlb⟩ := hbs m m1 (by omega)
            exact ⟨b, by rw [List.getElem?_set_ne (by omega)]; exact hb, hlb⟩
  · rintro σ H' ⟨s1, bs, x, v4, v5, rfl, hB, hbl, hx, _⟩
    have en : ((z.length : Int) - 1).toNat + 1 = z.length := by omega
    rw [en] at hx
    have xl := hx.1.1
    have es : (z.length : Int) - (x : Int) = ((z.length - x : Nat) : Int) := by omega
    refine ⟨_, rfl, _, rfl, _, _, rfl, rfl, ?_⟩
    refine ⟨_, rfl, _, rfl, _, _, rfl, rfl, (by show (z.length : Int) - (x : Int) ≠ 0; omega), rfl, _, rfl, ?_⟩
    rw [decI]
    have em : ((z.length : Int).fmod ((z.length : Int) - (x : Int)) = 0) ↔ z.length % (z.length - x) = 0 := by
      rw [es, Int.fmod_eq_emod_of_nonneg _ (by omega)]
      omega
    refine ite2 (fun c => ?_) (fun c => ?_)
    · have R := Rnd.root_yes hx (em.mp (of_decide_eq_true c))
      refine ⟨_, rfl, _, rfl, ((z.length - x : Nat) : Int), ?_, _, rfl, zl, ?_⟩
      · exact congrArg V.int es
      · refine k (z.length - x) _ H' R ?_ s1
        unfold cutS
        rw [HT.sIx_none, HT.sIx_nat, List.drop_zero, Nat.sub_zero, Nat.min_eq_left (by omega)]
    · have R := Rnd.root_no hx (fun q => c (decide_eq_true (em.mpr q)))
      exact ⟨_, rfl, k z.length z H' R (by rw [List.take_of_length_le (by rw [← str_len]; exact Nat.le_refl _)]) s1⟩
/-- u, v are the least way to write h, w -/
def Least (h w u v : Str) : Prop := (w.length = 0 ∧ u = h ∧ v = w) ∨ (0 < w.length ∧ ∃ m p, Rnd.Canon (Rnd.sg h.cps.toList w.cps.toList) m p ∧ u.cps.toList = Rnd.seg (Rnd.sg h.cps.toList w.cps.toList) 0 m ∧ v.cps.toList = Rnd.seg (Rnd.sg h.cps.toList w.cps.toList) m p)
def spShortest : Sp := fun vs H Q _ => ∃ h w : Str, vs = [.str h, .str w] ∧ h.length ≤ 1000 ∧ w.length ≤ 1000 ∧ ∀ (u v : Str) (a : Addr) H', Least h w u v → H a = none → H' a = some (.tup [.str u, .str v]) → Same H H' → Q (.ref a) H'
theorem sc_shortest : FnScope N_shortest ["first", "ring"] (defScope s_shortest) := ⟨rfl, rfl, rfl, by decide +kernel, rfl, by decide +kernel, by decide +kernel⟩
theorem ok_shortest {f : Addr} {fd : FuncData} (F : Fun K "shortest" "shortest" s_shortest f fd) (T : Txt P K mg a) (G_shortest_round : DefOk P w K mg base "shortest_round" 1 ["items"] (spShortestRound)) : FnOk P w K mg base (L2.CX P w) 2 f fd ["first", "ring"] (spShortest) := by
  have S := sc_shortest
  refine F.okX S (fun vs H Q E h => ?_) (fun cdv A outer s H vs Q E hr h => ?_)
  · obtain ⟨h, w, rfl, _⟩ := h; rfl
  have hu := hu_of hr
  obtain ⟨u, w, rfl, u1, w1, k⟩ := h
  have ul : u.length ≤ sizeLine := Nat.le_trans u1 (by decide)
  have wl : w.length ≤ sizeLine := Nat.le_trans w1 (by decide)
  have hix : ∀ (z : Str) (j : Nat), j < z.length → atI z.cps.toList (j : Int) = some (fz z j) := fun z j hj => by
    have := at_getD (z := z) (i := (j : Int)) (by omega) (by omega)
    rwa [Int.toNat_natCast] at this
  refine ⟨_, ((pss_cons (ps_if (pt_cmpR op_eq (pe_callB call_len_str (by rfl) T.len (by decide +kernel) (pa_cons (pv 1) pa_nil)) pe_int (nomark _)) (pss_one (ps_ret (pe_tup (pa_cons (pv 0) (pa_cons (pv 1) pa_nil))))) pss_nil)
      (pss_cons (ps_set (i := 1) S.nd rfl (Or.inl rfl) (pe_d G_shortest_round hr rfl (pa_cons (pv 1) pa_nil)))
      (pss_cons (ps_set (i := 2) S.nd rfl (Or.inl rfl) (pe_callB call_len_str (by rfl) T.len (by decide +kernel) (pa_cons (pv 1) pa_nil)))
      (pss_cons (ps_set (i := 3) S.nd rfl (Or.inl rfl) pe_int)
      (pss_cons (ps_while (passes_of rfl) (PW.pt (pw_and (pt_cmpR op_lt (pv 3) (pe_callB call_len_str (by rfl) T.len (by decide +kernel) (pa_cons (pv 0) pa_nil)) (nomark _)) (pw_and1 (pt_cmpR op_eq (pe_ix ix_str (pv 0) (pe_op op_sub (pe_op op_sub (pe_callB call_len_str (by rfl) T.len (by decide +kernel) (pa_cons (pv 0) pa_nil)) pe_int) (pv 3)) (fun _ _ => rfl)) (pe_ix ix_str (pv 1) (pe_op op_sub (pe_op op_sub (pv 2) pe_int) (pe_op op_modN (pv 3) (pv 2))) (fun _ _ => rfl)) (nomark _))))) (pss_one (ps_aug (i := 3) S.nd rfl (.inl rfl) pe_int ip_add)))
      (pss_cons (ps_set (i := 4) S.nd rfl (Or.inl rfl) (pe_op op_sub (pv 2) (pe_op op_modN (pv 3) (pv 2))))
      (pss_one (ps_ret (pe_tup (pa_cons (pe_slice sl_str (pv 0) po_none (po_some (pe_op op_sub (pe_callB call_len_str (by rfl) T.len (by decide +kernel) (pa_cons (pv 0) pa_nil)) (pv 3)))) (pa_cons (pe_op op_add_str (pe_slice sl_str (pv 1) (po_some (pv 4)) po_none) (pe_slice sl_str (pv 1) po_none (po_some (pv 4)))) pa_nil)))))))))))), ?_⟩
  refine ⟨_, rfl, _, rfl, wl, rfl, _, rfl, ?_⟩
  rw [decI]
  refine ite2 (fun c => ?_) (fun c => ?_)
  · have c : w.length = 0 := by have := of_decide_eq_true c; omega
    exact ⟨_, rfl, _, rfl, (by show 2 ≤ sizeLine; decide), fun a na => k u w a _ (.inl ⟨c, rfl, rfl⟩) na upd_same (Same.new na)⟩
  have w0 : 0 < w.length := by
    have : ¬ ((w.length : Int) = 0) := fun z => c (decide_eq_true z)
    omega
  refine ⟨_, rfl, w, rfl, w0, w1, fun r v H1 R hv s1 => ?_⟩
  have r0 := R.1
  have rl : r ≤ w.length := Nat.le_of_dvd w0 R.2.1
  have vlen : v.length = r := by rw [str_len, hv, List.length_take, ← str_len]; omega
  have vl : v.length ≤ sizeLine := by omega
  have fv : ∀ j, j < r → fz v j = fz w j := fun j hj => by
    show v.cps.toList.getD j 0 = w.cps.toList.getD j 0
    rw [hv, List.getD_eq_getElem?_getD, List.getElem?_take, if_pos hj, ← List.getD_eq_getElem?_getD]
  refine ⟨_, rfl, _, rfl, vl, ?_⟩
  rw [vlen]
  refine ⟨fun m σ H' => H1 = H' ∧ ∃ t : Nat, σ = [some (.str u), some (.str v), some (.int (r : Int)), some (.int (t : Int)), none] ∧ m = u.length - t ∧ t ≤ u.length ∧ ∀ k, k < t → fz u (u.length - 1 - k) = fz w (r - 1 - k % r), ⟨u.length, rfl, 0, rfl, rfl, Nat.zero_le _, fun k hk => by omega⟩, ?_⟩
  rintro m σ _ ⟨rfl, t, rfl, rfl, tl, ts⟩
  have tm := Nat.mod_lt t r0
  have e1 : (u.length : Int) - 1 - (t : Int) = ((u.length - 1 - t : Nat) : Int) ∨ t = u.length := by omega
  have em : (t : Int).fmod (r : Int) = ((t % r : Nat) : Int) := by
    rw [Int.fmod_eq_emod_of_nonneg _ (by omega)]
    omega
  have fin : ∀ (stop : t = u.length ∨ fz u (u.length - 1 - t) ≠ fz w (r - 1 - t % r)), Rnd.Strip u.cps.toList (fun i => w.cps.toList.getD i 0) r t := fun stop => by
    have e := str_len u
    exact ⟨by omega, fun k hk => by rw [← e]; exact ts k hk, by rw [← e]; exact stop⟩
  have out : ∀ (stop : t = u.length ∨ fz u (u.length - 1 - t) ≠ fz w (r - 1 - t % r)) (u' v' : Str) (a : Addr) (H' : Hp), u'.cps.toList = u.cps.toList.take (u.length - t) → v'.cps.toList = (w.cps.toList.take r).drop (r - t % r) ++ (w.cps.toList.take r).take (r - t % r) → H1 a = none → H' a = some (.tup [.str u', .str v']) → Same H1 H' → Q (.ref a) H' := fun stop u' v' a H' h1 h2 na ha s2 => by
    have S := fin stop
    have e := str_len u
    have R' : Rnd.Root (fun i => w.cps.toList.getD i 0) w.cps.toList.length r := by rw [← str_len]; exact R
    have w0' : 0 < w.cps.toList.length := by rw [← str_len]; exact w0
    refine k u' v' a H' (.inr ⟨w0, u.length - t, r, ?_, ?_, ?_⟩) (s1.free na) ha (s1.trans s2)
    · rw [e]; exact Rnd.canon_of w0' R' S
    · rw [h1, e]; exact Rnd.told_head S
    · rw [h2, e]; exact Rnd.told_round w0' R' S
  refine ⟨_, rfl, _, rfl, _, rfl, ul, _, _, rfl, rfl, _, rfl, ?_⟩
  refine ite2 (fun c1 => ?_) (fun c1 => ?_)
  · have c1 : t < u.length := by have := of_decide_eq_true c1; omega
    rcases e1 with e1 | e1
    · refine ⟨_, rfl, _, rfl, _, rfl, ul, _, _, rfl, rfl, _, rfl, _, _, rfl, rfl, _, _, fz u (u.length - 1 - t), rfl, rfl, ul, ?_, _, rfl, _, rfl, _, _, rfl, rfl, _, rfl, _, rfl, _, _, rfl, rfl, (by show (r : Int) ≠ 0; omega), _, _, rfl, rfl, _, _, fz v (r - 1 - t % r), rfl, rfl, vl, ?_, rfl, _, rfl, ?_⟩
      · rw [e1]; exact hix u _ (by omega)
      · rw [em, show (r : Int) - 1 - ((t % r : Nat) : Int) = ((r - 1 - t % r : Nat) : Int) by omega]
        exact hix v _ (by omega)
      rw [one_sign]
      refine ite2 (fun c2 => ?_) (fun c2 => ?_)
      · have c2 : fz u (u.length - 1 - t) = fz w (r - 1 - t % r) := by rw [← fv _ (by omega)]; exact of_decide_eq_true c2
        refine ⟨fun σ' H' => ∃ m', m' < u.length - t ∧ H1 = H' ∧ ∃ t : Nat, σ' = [some (.str u), some (.str v), some (.int (r : Int)), some (.int (t : Int)), none] ∧ m' = u.length - t ∧ t ≤ u.length ∧ ∀ k, k < t → fz u (u.length - 1 - k) = fz w (r - 1 - k % r), fun _ _ q => q, ?_⟩
        refine ⟨_, rfl, _, _, rfl, rfl, u.length - (t + 1), by omega, rfl, t + 1, rfl, rfl, by omega, fun k hk => ?_⟩
        by_cases q : k < t
        · exact ts k q
        · have : k = t := by omega
          subst this
          exact c2
      · have c2 : fz u (u.length - 1 - t) ≠ fz w (r - 1 - t % r) := fun z => c2 (decide_eq_true (by rw [fv _ (by omega)]; exact z))
        have ec : (r : Int) - ((t % r : Nat) : Int) = ((r - t % r : Nat) : Int) := by omega
        refine ⟨_, rfl, _, rfl, _, rfl, _, _, rfl, rfl, (by show (r : Int) ≠ 0; omega), _, _, rfl, rfl, ?_⟩
        rw [em]
        rw [show (fun i j : Int => V.int (i - j)) (r : Int) ((t % r : Nat) : Int) = V.int ((r - t % r : Nat) : Int) from congrArg V.int ec]
        refine ⟨_, rfl, _, rfl, _, rfl, ul, _, rfl, _, _, rfl, rfl, ((u.length - t : Nat) : Int), congrArg V.int (by omega), _, rfl, ul, ?_⟩
        refine ⟨_, rfl, _, rfl, _, rfl, _, rfl, vl, _, rfl, _, rfl, _, rfl, _, rfl, vl, _, _, rfl, rfl, ?_, (by show 2 ≤ sizeLine; decide), fun a na => ?_⟩
        · exact Nat.le_trans (Nat.add_le_add (cutS_len _ _ _) (cutS_len _ _ _)) (Nat.le_trans (by omega : _ ≤ 2000) (by decide))
        · refine out (.inr c2) _ _ a _ ?_ ?_ na upd_same (Same.new na)
          · exact tl_cut_to
          · rw [tl_app, tl_cut_from, tl_cut_to, hv]
    · omega
  · have c1 : t = u.length := by have : ¬ ((t : Int) < (u.length : Int)) := by simpa using c1
                                 omega
    have ec : (r : Int) - ((t % r : Nat) : Int) = ((r - t % r : Nat) : Int) := by omega
    refine ⟨_, rfl, _, rfl, _, rfl, _, _, rfl, rfl, (by show (r : Int) ≠ 0; omega), _, _, rfl, rfl, ?_⟩
    rw [em]
    rw [show (fun i j : Int => V.int (i - j)) (r : Int) ((t % r : Nat) : Int) = V.int ((r - t % r : Nat) : Int) from congrArg V.int ec]
    refine ⟨_, rfl, _, rfl, _, rfl, ul, _, rfl, _, _, rfl, rfl, ((u.length - t : Nat) : Int), congrArg V.int (by omega), _, rfl, ul, ?_⟩
    refine ⟨_, rfl, _, rfl, _, rfl, _, rfl, vl, _, rfl, _, rfl, _, rfl, _, rfl, vl, _, _, rfl, rfl, ?_, (by show 2 ≤ sizeLine; decide), fun a na => ?_⟩
    · exact Nat.le_trans (Nat.add_le_add (cutS_len _ _ _) (cutS_len _ _ _)) (Nat.le_trans (by omega : _ ≤ 2000) (by decide))
    · refine out (.inl c1) _ _ a _ ?_ ?_ na upd_same (Same.new na)
      · exact tl_cut_to
      · rw [tl_app, tl_cut_from, tl_cut_to, hv]
def spIsContentOf (K : PySem.W.Frag) : Sp := fun vs H Q _ => ∃ (n : Int) (x : V) (b : Bool), vs = [.int n, x] ∧ 0 ≤ n ∧ n ≤ 3 ∧ ConIs K H n x b ∧ Q (.bl b) H
theorem sc_is_content_of : FnScope N_is_content_of ["letters", "thing"] (defScope s_is_content_of) := ⟨rfl, rfl, rfl, by decide +kernel, rfl, by decide +kernel, by decide +kernel⟩
theorem ok_is_content_of {f : Addr} {fd : FuncData} (F : Fun K "is_content_of" "is_content_of" s_is_content_of f fd) (T : Txt P K mg a) (G_is_tuple_of : DefOk P w K mg base "is_tuple_of" 1 ["many", "thing"] (spIsTupleOf K)) (G_is_lettered : DefOk P w K mg base "is_lettered" 1 ["letters", "thing"] (spIsLettered K)) : FnOk P w K mg base (L2.CX P w) 2 f fd ["letters", "thing"] (spIsContentOf K) := by
  have S := sc_is_content_of
  refine F.okX S (fun vs H Q E h => ?_) (fun cdv A outer s H vs Q E hr h => ?_)
  · obtain ⟨m, x, o, rfl, _⟩ := h; rfl
  have hu := hu_of hr
  obtain ⟨n, x, b, rfl, h0, h3, ⟨o, hI, ho⟩, k⟩ := h
  refine ⟨_, ((pss_one (ps_ret (pe_and (pe_d G_is_tuple_of hr rfl (pa_cons pe_int (pa_cons (pv 1) pa_nil))) (pe_and (pe_d G_is_lettered hr rfl (pa_cons (pv 0) (pa_cons (pe_ix ix_tup (pv 1) pe_int (fun _ _ => rfl)) pa_nil))) (pe_one (pe_d G_is_lettered hr rfl (pa_cons (pv 0) (pa_cons (pe_ix ix_tup (pv 1) pe_int (fun _ _ => rfl)) pa_nil))))))))), ?_⟩
  refine ⟨_, rfl, 2, x, o, rfl, hI, _, rfl, ?_⟩
  match o, hI, ho with
  | none, hI, ho => exact iteF (by rw [ho] at k; exact k)
  | some [], hI, ho => exact iteF (by rw [ho] at k; exact k)
  | some [y], hI, ho => exact iteF (by rw [ho] at k; exact k)
  | some (_ :: _ :: _ :: r), hI, ho =>
    have e : tupB 2 (some (‹V› :: ‹V› :: ‹V› :: r)) = false := by
      show decide (((r.length + 1 + 1 + 1 : Nat) : Int) = 2) = false
      exact decide_eq_false (by omega)
    refine ite2 (fun hc => ?_) (fun _ => by rw [ho] at k; exact k)
    exact absurd hc (by show ¬ (decide (((r.length + 1 + 1 + 1 : Nat) : Int) = 2) = true); rw [decide_eq_true_iff]; omega)
  | some [y, z], hI, ho =>
    obtain ⟨oy, oz, hy, hz, rfl⟩ := ho
    obtain ⟨a, rfl, ha⟩ := hI
    refine iteT ⟨_, rfl, _, rfl, a, _, _, y, rfl, rfl, SqT.of ha, rfl, n, y, oy, rfl, h0, h3, hy, _, rfl, ?_⟩
    cases e : lettO n oy with
    | false => exact iteF (by rw [e] at k; exact k)
    | true =>
      rw [e] at k
      exact iteT ⟨_, rfl, _, rfl, a, _, _, z, rfl, rfl, SqT.of ha, rfl, n, z, oz, rfl, h0, h3, hz, k⟩
def spIsContent (K : PySem.W.Frag) : Sp := fun vs H Q _ => ∃ (x : V) (b : Bool), vs = [x] ∧ ConIs K H 3 x b ∧ Q (.bl b) H
theorem sc_is_content : FnScope N_is_content ["thing"] (defScope s_is_content) := ⟨rfl, rfl, rfl, by decide +kernel, rfl, by decide +kernel, by decide +kernel⟩
theorem ok_is_content {f : Addr} {fd : FuncData} (F : Fun K "is_content" "is_content" s_is_content f fd) (T : Txt P K mg a) (G_is_content_of : DefOk P w K mg base "is_content_of" 2 ["letters", "thing"] (spIsContentOf K)) : FnOk P w K mg base (L2.CX P w) 3 f fd ["thing"] (spIsContent K) := by
  have S := sc_is_content
  obtain ⟨t_LETTERS, g_LETTERS⟩ := T.g_LETTERS
  refine F.okX S (fun vs H Q E h => ?_) (fun cdv A outer s H vs Q E hr h => ?_)
  · obtain ⟨x, o, rfl, _⟩ := h; rfl
  have hu := hu_of hr
  obtain ⟨x, b, rfl, hI, k⟩ := h
  refine ⟨_, ((pss_one (ps_ret (pe_d G_is_content_of hr rfl (pa_cons (pe_callB call_len_str (by rfl) T.len (by decide +kernel) (pa_cons (pe_glob (v := .str "abc") rfl g_LETTERS ⟨_, rfl⟩) pa_nil)) (pa_cons (pv 0) pa_nil)))))), ?_⟩
  exact ⟨_, rfl, by decide, _, rfl, 3, x, b, rfl, by decide, by decide, hI, k⟩
def spNeedContent (K : PySem.W.Frag) (a : Adr) : Sp := fun vs H Q E => ∃ (x : V) (b : Bool), vs = [x] ∧ ConIs K H 3 x b ∧ (b = true → Q .non H) ∧ (b = false → E (.ref a.NoContent) none H)
theorem sc_need_content : FnScope N_need_content ["thing"] (defScope s_need_content) := ⟨rfl, rfl, rfl, by decide +kernel, rfl, by decide +kernel, by decide +kernel⟩
theorem ok_need_content {f : Addr} {fd : FuncData} (F : Fun K "need_content" "need_content" s_need_content f fd) (T : Txt P K mg a) (G_is_content : DefOk P w K mg base "is_content" 3 ["thing"] (spIsContent K)) : FnOk P w K mg base (L2.CX P w) 4 f fd ["thing"] (spNeedContent K a) := by
  have S := sc_need_content
  refine F.okX S (fun vs H Q E h => ?_) (fun cdv A outer s H vs Q E hr h => ?_)
  · obtain ⟨x, o, rfl, _⟩ := h; rfl
  have hu := hu_of hr
  obtain ⟨x, b, rfl, hI, k1, k2⟩ := h
  refine ⟨_, ((pss_one (ps_if (pt_not (pt_val (pe_d G_is_content hr rfl (pa_cons (pv 0) pa_nil)))) (pss_one (ps_no rfl (takes_of rfl rfl rfl rfl) T.x_NoContent hr)) pss_nil))), ?_⟩
  refine ⟨_, rfl, x, b, rfl, hI, _, rfl, ?_⟩
  cases b with
  | true => exact iteF (k1 rfl)
  | false => exact iteT (k2 rfl)
def spLeastContent : Sp := fun vs H Q _ => ∃ (x : V) (h r : Str), vs = [x] ∧ ConAt H x h r ∧ h.length ≤ 1000 ∧ r.length ≤ 1000 ∧ ∀ (u v : Str) (a : Addr) H', Least h r u v → H a = none → H' a = some (.tup [.str u, .str v]) → Same H H' → Q (.ref a) H'
theorem sc_least_content : FnScope N_least_content ["content"] (defScope s_least_content) := ⟨rfl, rfl, rfl, by decide +kernel, rfl, by decide +kernel, by decide +kernel⟩
theorem ok_least_content {f : Addr} {fd : FuncData} (F : Fun K "least_content" "least_content" s_least_content f fd) (T : Txt P K mg a) (G_need_content : DefOk P w K mg base "need_content" 4 ["thing"] (spNeedContent K a)) (G_shortest : DefOk P w K mg base "shortest" 2 ["first", "ring"] (spShortest)) : FnOk P w K mg base (L2.CX P w) 5 f fd ["content"] (spLeastContent) := by
  have S := sc_least_content
  refine F.okX S (fun vs H Q E h => ?_) (fun cdv A outer s H vs Q E hr h => ?_)
  · obtain ⟨x, h, r, rfl, _⟩ := h; rfl
  have hu := hu_of hr
  obtain ⟨x, u, r, rfl, hc, u1, r1, k⟩ := h
  have hi := hc.is (K := K)
  obtain ⟨ad, rfl, ha, _⟩ := hc
  refine ⟨_, ((pss_cons (ps_expr (pe_dX (takes_of rfl rfl rfl rfl) G_need_content hr rfl (pa_cons (pv 0) pa_nil)))
      (pss_one (ps_ret (pe_d G_shortest hr rfl (pa_cons (pe_ix ix_tup (pv 0) pe_int (fun _ _ => rfl)) (pa_cons (pe_ix ix_tup (pv 0) pe_int (fun _ _ => rfl)) pa_nil))))))), ?_⟩
  refine ⟨_, rfl, _, true, rfl, hi, fun _ => ?_, (fun z => nomatch z)⟩
  exact ⟨_, rfl, ad, _, _, _, rfl, rfl, SqT.of ha, rfl, _, rfl, ad, _, _, _, rfl, rfl, SqT.of ha, rfl, u, r, rfl, u1, r1, k⟩
theorem strOk_lett {n : Int} {u : Str} (hn : n ≤ 26) (h : lettB n u = true) : u.cps.all (· < 0x110000) = true := by
  unfold lettB at h
  rw [Array.all_eq_true']
  intro c hc
  have := of_decide_eq_true (List.all_eq_true.mp h c (Array.mem_toList_iff.mpr hc))
  exact decide_eq_true (by omega)
theorem shaped_pair {u v : Str} (hu : lettB 3 u = true) (hv : lettB 3 v = true) : SeqAt.shaped (.tuple [.str u, .str v]) = true := by
  have h1 := strOk_lett (by decide) hu
  have h2 := strOk_lett (by decide) hv
  unfold SeqAt.shaped
  rw [Bool.and_eq_true]
  refine ⟨?_, by simp [PyData.depth, PyData.depthAll]⟩
  show (PyData.strOk u && (PyData.strOk v && true)) = true
  unfold PyData.strOk
  rw [h1, h2]
  rfl
theorem sg_lett {n : Int} {h w : Str} (hh : lettB n h = true) (hw : lettB n w = true) (w0 : 0 < w.length) (i : Nat) : 97 ≤ Rnd.sg h.cps.toList w.cps.toList i ∧ (Rnd.sg h.cps.toList w.cps.toList i : Int) < 97 + n := by
  have key : ∀ (z : Str) (j : Nat), lettB n z = true → j < z.cps.toList.length → 97 ≤ z.cps.toList.getD j 0 ∧ (z.cps.toList.getD j 0 : Int) < 97 + n := fun z j hz hj => by
    unfold lettB at hz
    have e : z.cps.toList.getD j 0 = z.cps.toList[j] := by rw [List.getD_eq_getElem?_getD, List.getElem?_eq_getElem hj]; rfl
    rw [e]
    exact of_decide_eq_true (List.all_eq_true.mp hz _ (List.getElem_mem hj))
  unfold Rnd.sg
  split
  · exact key h _ hh (by assumption)
  · exact key w _ hw (Nat.mod_lt _ (by rw [← str_len]; exact w0))
theorem seg_lett {n : Int} {h w u : Str} {a m : Nat} (hh : lettB n h = true) (hw : lettB n w = true) (w0 : 0 < w.length) (e : u.cps.toList = Rnd.seg (Rnd.sg h.cps.toList w.cps.toList) a m) : lettB n u = true := by
  unfold lettB
  rw [e, List.all_eq_true]
  intro c hc
  obtain ⟨i, _, rfl⟩ := List.mem_map.mp hc
  exact decide_eq_true (sg_lett hh hw w0 _)
theorem Least.lett {n : Int} {h w u v : Str} (l : Least h w u v) (hh : lettB n h = true) (hw : lettB n w = true) : lettB n u = true ∧ lettB n v = true := by
  rcases l with ⟨_, rfl, rfl⟩ | ⟨w0, m, p, c, e1, e2⟩
  · exact ⟨hh, hw⟩
  · exact ⟨seg_lett hh hw w0 e1, seg_lett hh hw w0 e2⟩
theorem eqv_pair {u v u' v' : Str} : PyData.eqv (.tuple [.str u, .str v]) (.tuple [.str u', .str v']) = decide (u = u' ∧ v = v') := by
  rw [Bool.eq_iff_iff]
  simp [PyData.eqv, PyData.eqvAll]
theorem dp_pair {K : PySem.W.Frag} {H : Hp} {a : Addr} {u v : Str} (h : H a = some (.tup [.str u, .str v])) : Dp K H (.ref a) (.tuple [.str u, .str v]) := .tup (SqT.of h) (.cons (.str _) (.cons (.str _) .nil))
theorem Least.len {h w u v : Str} (l : Least h w u v) : u.length ≤ h.length ∧ v.length ≤ w.length := by
  rcases l with ⟨_, rfl, rfl⟩ | ⟨w0, m, p, c, e1, e2⟩
  · omega
  · have b := c.2.2 h.cps.toList.length w.cps.toList.length (by rw [← str_len]; exact w0) (Rnd.sg_per _ _)
    rw [← str_len, ← str_len] at b
    rw [str_len u, str_len v, e1, e2, Rnd.seg_len, Rnd.seg_len]
    omega
def spSameSigns : Sp := fun vs H Q _ => ∃ (x y : V) (h r h' r' : Str), vs = [x, y] ∧ ConAt H x h r ∧ ConAt H y h' r' ∧ h.length ≤ 1000 ∧ r.length ≤ 1000 ∧ h'.length ≤ 1000 ∧ r'.length ≤ 1000 ∧ ∀ (u v u' v' : Str) H', Least h r u v → Least h' r' u' v' → Same H H' → Q (.bl (decide (u = u' ∧ v = v'))) H'
theorem sc_same_signs : FnScope N_same_signs ["content", "second"] (defScope s_same_signs) := ⟨rfl, rfl, rfl, by decide +kernel, rfl, by decide +kernel, by decide +kernel⟩
theorem ok_same_signs {f : Addr} {fd : FuncData} (F : Fun K "same_signs" "same_signs" s_same_signs f fd) (T : Txt P K mg a) (G_least_content : DefOk P w K mg base "least_content" 5 ["content"] (spLeastContent)) : FnOk P w K mg base (L2.CX P w) 6 f fd ["content", "second"] (spSameSigns) := by
  have S := sc_same_signs
  refine F.okX S (fun vs H Q E h => ?_) (fun cdv A outer s H vs Q E hr h => ?_)
  · obtain ⟨x, y, h, r, h', r', rfl, _⟩ := h; rfl
  have hu := hu_of hr
  obtain ⟨x, y, u, r, u', r', rfl, hc, hc', u1, r1, u1', r1', k⟩ := h
  refine ⟨_, ((pss_one (ps_ret (pe_cmpR (op_eqD hr.units) (pe_d G_least_content hr rfl (pa_cons (pv 0) pa_nil)) (pe_d G_least_content hr rfl (pa_cons (pv 1) pa_nil)) (nomark _))))), ?_⟩
  refine ⟨_, rfl, x, u, r, rfl, hc, u1, r1, fun lu lv a1 H1 L1 n1 h1 s1 => ?_⟩
  have hc2 : ConAt H1 y u' r' := by
    obtain ⟨ad, rfl, ha, q⟩ := hc'
    exact ⟨ad, rfl, s1 _ _ ha, q⟩
  refine ⟨_, rfl, y, u', r', rfl, hc2, u1', r1', fun lu' lv' a2 H2 L2 n2 h2 s2 => ?_⟩
  obtain ⟨_, _, _, _, _, z1, z2⟩ := hc
  obtain ⟨_, _, _, _, _, z3, z4⟩ := hc'
  have q1 := L1.lett z1 z2
  have q2 := L2.lett z3 z4
  refine ⟨_, _, dp_pair (s2 _ _ h1), dp_pair h2, shaped_pair q1.1 q1.2, shaped_pair q2.1 q2.2, ?_⟩
  rw [eqv_pair]
  exact k _ _ _ _ H2 L1 L2 (s1.trans s2)
theorem sc__law_pot : FnScope N__law_pot ["script"] (defScope s__law_pot) := ⟨rfl, rfl, rfl, by decide +kernel, rfl, by decide +kernel, by decide +kernel⟩
theorem ok__law_pot {f : Addr} {fd : FuncData} (F : Fun K "_law_pot" "_law_pot" s__law_pot f fd) (T : Txt P K mg a) : FnOk P w K mg base (L2.CX P w) 1 f fd ["script"] (spPot K) := by
  have S := sc__law_pot
  refine F.okX S (fun vs H Q E h => ?_) (fun cdv A outer s H vs Q E hr h => ?_)
  · obtain ⟨a, ns, rfl, _⟩ := h; rfl
  have hu := hu_of hr
  obtain ⟨ad, ns, rfl, hS, hl, k⟩ := h
  refine ⟨_, ((pss_cons (ps_setLc (i := 1) (own := [("item", 4)]) (g := gName 4) rfl S.nd rfl rfl (sw_true rfl rfl rfl (by decide +kernel)) (pi_list (pe_slice sl_list (pv 0) po_none (po_some pe_int))) (blkOk_by (own := [("item", 4)]) (N := N__law_pot) (sc := defScope s__law_pot) (by decide +kernel)) (fun _ _ _ _ _ => (pg_name (i := 4) S.nd rfl (by first | exact Or.inl rfl | exact Or.inr rfl))) (fun _ _ _ _ _ => pts_nil) (fun _ _ _ _ _ => (pe_callTy call_int1 (by rfl) T.int (by decide +kernel) (pa_cons (pv 4) pa_nil))))
      (pss_cons (ps_setLc (i := 2) (own := [("item", 4)]) (g := gName 4) rfl S.nd rfl rfl (sw_true rfl rfl rfl (by decide +kernel)) (pi_list (pv 1)) (blkOk_by (own := [("item", 4)]) (N := N__law_pot) (sc := defScope s__law_pot) (by decide +kernel)) (fun _ _ _ _ _ => (pg_name (i := 4) S.nd rfl (by first | exact Or.inl rfl | exact Or.inr rfl))) (fun _ _ _ _ _ => (pts_one (pt_cmpR op_ge (pe_callB call_abs (by rfl) T.abs (by decide +kernel) (pa_cons (pv 4) pa_nil)) (pe_op op_pow pe_int pe_int) (nomark _)))) (fun _ _ _ _ _ => (pe_callB call_abs (by rfl) T.abs (by decide +kernel) (pa_cons (pv 4) pa_nil))))
      (pss_cons (ps_set (i := 3) S.nd rfl (Or.inl rfl) (pe_op op_cat (pe_lc (own := [("item", 4)]) (g := gName 4) rfl S.nd (pi_list (pv 1)) (blkOk_by (own := [("item", 4)]) (N := N__law_pot) (sc := defScope s__law_pot) (by decide +kernel)) (fun _ _ _ _ _ => (pg_name (i := 4) S.nd rfl (by first | exact Or.inl rfl | exact Or.inr rfl))) (fun _ _ _ _ _ => (pts_one (pt_cmpR op_lt (pe_callB call_abs (by rfl) T.abs (by decide +kernel) (pa_cons (pv 4) pa_nil)) (pe_op op_pow pe_int pe_int) (nomark _)))) (fun _ _ _ _ _ => (pe_op op_modN (pe_callTy call_int1 (by rfl) T.int (by decide +kernel) (pa_cons (pv 4) pa_nil)) pe_int))) (pe_lst (pa_cons (pe_op op_add (pe_callB call_len_seq (by rfl) T.len (by decide +kernel) (pa_cons (pv 1) pa_nil)) pe_int) pa_nil))))
      (pss_one (ps_ret (pe_lst (pa_cons (pv 2) (pa_cons (pv 3) (pa_cons pe_int (pa_cons (pe_op op_modN (pe_callTy call_int1 (by rfl) T.int (by decide +kernel) (pa_cons (pe_callB (cr_sum rfl) (by rfl) T.sum (by decide +kernel) (pa_cons (pv 3) pa_nil)) pa_nil)) pe_int) pa_nil))))))))))), ?_⟩
  -- cells
  refine ⟨_, rfl, _, rfl, ad, _, rfl, hS, fun p1 n1 => ⟨p1, rfl, ⟨_, SqL.of upd_same⟩, fun D nD => ?_⟩⟩
  have cv : cutV (ns.map V.int) none (some 63) = ns.map V.int := by
    unfold cutV
    rw [HT.sIx_none, show (63 : Int) = ((63 : Nat) : Int) from rfl, HT.sIx_nat, List.length_map, List.drop_zero, Nat.min_eq_right hl, Nat.sub_zero]
    exact List.take_of_length_le (by rw [List.length_map]; exact Nat.le_refl _)
  rw [cv] at nD ⊢
  have s1 : Same H (upd H p1 (.lst (ns.map V.int))) := Same.new n1
  refine lc_list (xs := ns.map V.int) (fun i H' => Same (upd H p1 (.lst (ns.map V.int))) H' ∧ ∃ ms : List Int, ms.length = i ∧ H' D = some (.lst (ms.map V.int))) ⟨Same.new nD, [], rfl, upd_same⟩ (fun i H' _ q => SqL.of (q.1 _ _ upd_same)) ?_ ?_
  · rintro i x H' hi ⟨e1, ms, hm, hD⟩
    obtain ⟨z, rfl⟩ := mem_int (List.mem_of_getElem? hi)
    have hi2 := (List.getElem?_eq_some_iff.mp hi).1
    rw [List.length_map] at hi2
    refine ⟨rfl, _, rfl, .inl ⟨_, rfl, _, hD, ?_, e1.mut nD, ms ++ [z], by simp [hm], ?_⟩⟩
    · rw [List.length_map]; exact small1000 (by omega)
    · rw [upd_same, List.map_append]; rfl
  rintro H2 ⟨e2, cells, hc, hD2⟩
  rw [List.length_map] at hc
  have hcl : cells.length ≤ 63 := by omega
  -- greats
  refine ⟨_, rfl, D, rfl, ⟨_, SqL.of hD2⟩, fun D3 nD3 => ?_⟩
  refine lc_list (xs := cells.map V.int) (fun i H' => Same H2 H' ∧ ∃ ms : List Int, ms.length ≤ i ∧ H' D3 = some (.lst (ms.map V.int))) ⟨Same.new nD3, [], Nat.le_refl _, upd_same⟩ (fun i H' _ q => SqL.of (q.1 _ _ hD2)) ?_ ?_
  · rintro i x H' hi ⟨e3, ms, hm, hD⟩
    obtain ⟨z, rfl⟩ := mem_int (List.mem_of_getElem? hi)
    have hi2 := (List.getElem?_eq_some_iff.mp hi).1
    rw [List.length_map] at hi2
    refine ⟨rfl, _, rfl, _, rfl, _, _, rfl, rfl, ⟨by decide, by decide, by decide⟩, _, _, rfl, rfl, _, rfl, ?_⟩
    refine ite2 (fun _ => ?_) (fun _ => ⟨e3, ms, by omega, hD⟩)
    refine ⟨_, rfl, _, rfl, _, hD, ?_, e3.mut nD3, ms ++ [if z < 0 then -z else z], by simp; omega, ?_⟩
    · rw [List.length_map]; exact small1000 (by omega)
    · rw [upd_same, List.map_append]; rfl
  rintro H3 ⟨e3, gs, hg, hD3⟩
  rw [List.length_map] at hg
  -- smalls
  refine ⟨_, rfl, D, rfl, ⟨_, SqL.of (e3 _ _ hD2)⟩, fun D4 nD4 => ?_⟩
  refine lc_list (xs := cells.map V.int) (fun i H' => Same H3 H' ∧ ∃ ms : List Int, ms.length ≤ i ∧ H' D4 = some (.lst (ms.map V.int))) ⟨Same.new nD4, [], Nat.le_refl _, upd_same⟩ (fun i H' _ q => SqL.of (q.1 _ _ (e3 _ _ hD2))) ?_ ?_
  · rintro i x H' hi ⟨e4, ms, hm, hD⟩
    obtain ⟨z, rfl⟩ := mem_int (List.mem_of_getElem? hi)
    have hi2 := (List.getElem?_eq_some_iff.mp hi).1
    rw [List.length_map] at hi2
    refine ⟨rfl, _, rfl, _, rfl, _, _, rfl, rfl, ⟨by decide, by decide, by decide⟩, _, _, rfl, rfl, _, rfl, ?_⟩
    refine ite2 (fun _ => ?_) (fun _ => ⟨e4, ms, by omega, hD⟩)
    refine ⟨_, rfl, .inl ⟨_, rfl, _, _, rfl, rfl, (by show (1000000007 : Int) ≠ 0; decide), _, hD, ?_, e4.mut nD4, ms ++ [z.fmod 1000000007], by simp; omega, ?_⟩⟩
    · rw [List.length_map]; exact small1000 (by omega)
    · rw [upd_same, List.map_append]; rfl
  rintro H4 ⟨e4, ss, hs, hD4⟩
  rw [List.length_map] at hs
  refine ⟨_, rfl, _, _, rfl, .inl (SqL.of (e4 _ _ (e3 _ _ hD2))), _, _, rfl, rfl, (by show 1 ≤ sizeLine; decide), fun D5 nD5 => ?_⟩
  have d45 : D4 ≠ D5 := ne_of_none hD4 nD5
  refine ⟨D4, D5, _, _, rfl, rfl, (by rw [upd_ne d45]; exact hD4), upd_same, ?_, fun D6 nD6 => ?_⟩
  · rw [List.length_map]; show _ + 1 ≤ _; exact Nat.le_trans (by omega : _ ≤ 100) (by decide)
  have e5 : Same H4 (upd H4 D5 (.lst [V.int (((cells.map V.int).length : Int) + 1)])) := Same.new nD5
  have eqs : ss.map V.int ++ [V.int (((cells.map V.int).length : Int) + 1)] = (ss ++ [((cells.map V.int).length : Int) + 1]).map V.int := by rw [List.map_append]; rfl
  rw [eqs]
  have e6 : Same (upd H4 D5 (.lst [V.int (((cells.map V.int).length : Int) + 1)])) (upd (upd H4 D5 (.lst [V.int (((cells.map V.int).length : Int) + 1)])) D6 (.lst ((ss ++ [((cells.map V.int).length : Int) + 1]).map V.int))) := Same.new nD6
  have all : Same H3 (upd (upd H4 D5 (.lst [V.int (((cells.map V.int).length : Int) + 1)])) D6 (.lst ((ss ++ [((cells.map V.int).length : Int) + 1]).map V.int))) := (e4.trans e5).trans e6
  refine ⟨_, rfl, _, rfl, _, rfl, D6, _, rfl, SqL.of upd_same, .inl ⟨_, rfl, _, _, rfl, rfl, (by show (999983 : Int) ≠ 0; decide), (by show 4 ≤ sizeLine; decide), fun P nP => ?_⟩⟩
  have g3 : D3 ≠ D6 := ne_of_none (e5 _ _ (e4 _ _ hD3)) nD6
  have p6 : P ≠ D6 := (ne_of_none upd_same nP).symm
  have p3 : P ≠ D3 := (ne_of_none (all _ _ hD3) nP).symm
  have a0 : Same H H3 := (s1.trans e2).trans e3
  have a1 : Same H (upd (upd H4 D5 (.lst [V.int (((cells.map V.int).length : Int) + 1)])) D6 (.lst ((ss ++ [((cells.map V.int).length : Int) + 1]).map V.int))) := a0.trans all
  refine k P D3 D6 _ (a1.free nP) ((s1.trans e2).free nD3) ((a0.trans (e4.trans e5)).free nD6) ⟨0, _, gs, ss ++ [((cells.map V.int).length : Int) + 1], upd_same, ?_, ?_, by simp, p3, p6, g3, by simp; omega⟩ (a1.trans (Same.new nP))
  · rw [upd_ne p3.symm]; exact all _ _ hD3
  · rw [upd_ne p6.symm]; exact upd_same
theorem sc__law_draw : FnScope N__law_draw ["pot", "many"] (defScope s__law_draw) := ⟨rfl, rfl, rfl, by decide +kernel, rfl, by decide +kernel, by decide +kernel⟩
theorem ok__law_draw {f : Addr} {fd : FuncData} (F : Fun K "_law_draw" "_law_draw" s__law_draw f fd) (T : Txt P K mg a) : FnOk P w K mg base (L2.CX P w) 1 f fd ["pot", "many"] (spDraw) := by
  have S := sc__law_draw
  refine F.okX S (fun vs H Q E h => ?_) (fun cdv A outer s H vs Q E hr h => ?_)
  · obtain ⟨p, g, sa, m, rfl, _⟩ := h; rfl
  have hu := hu_of hr
  obtain ⟨p, g, sa, m, rfl, PA0, hm0, hm1, k⟩ := h
  obtain ⟨t, c, gs, ss, h1, h2, h3, hne, npg, nps, ngs, hss⟩ := PA0.ex
  refine ⟨_, ((pss_cons (ps_set (i := 2) S.nd rfl (Or.inl rfl) (pe_ix ix_list (pv 0) pe_int (fun _ _ => rfl)))
      (pss_cons (ps_asg (pe_op op_add (pv 2) pe_int) (pg_sub (pv 0) pe_int set_list))
      (pss_cons (ps_if (pt_cmpR op_gt (pe_callB call_len_seq (by rfl) T.len (by decide +kernel) (pa_cons (pe_ix ix_list (pv 0) pe_int (fun _ _ => rfl)) pa_nil)) pe_int (nomark _)) (pss_cons (ps_set (i := 3) S.nd rfl (Or.inl rfl) (pe_ix ix_list (pe_ix ix_list (pv 0) pe_int (fun _ _ => rfl)) pe_int (fun _ _ => rfl)))
          (pss_cons (ps_asg (pe_op op_fdivN (pv 3) (pv 1)) (pg_sub (pe_ix ix_list (pv 0) pe_int (fun _ _ => rfl)) pe_int set_list))
          (pss_cons (ps_if (pt_cmpR op_lt (pv 3) (pv 1) (nomark _)) (pss_one (ps_expr (pe_bm PySem.F.plainAttrs_list PySem.F.slot_list_pop PySem.F.type_list_pop mt_popAt (pe_ix ix_list (pv 0) pe_int (fun _ _ => rfl)) (pa_cons pe_int pa_nil)))) pss_nil)
          (pss_one (ps_ret (pe_op op_modN (pe_callTy call_int1 (by rfl) T.int (by decide +kernel) (pa_cons (pv 3) pa_nil)) (pv 1))))))) pss_nil)
      (pss_cons (ps_set (i := 4) S.nd rfl (Or.inl rfl) (pe_op op_add (pe_op op_add (pe_op op_mul (pe_ix ix_list (pe_ix ix_list (pv 0) pe_int (fun _ _ => rfl)) (pe_op op_modN (pe_callTy call_int1 (by rfl) T.int (by decide +kernel) (pa_cons (pv 2) pa_nil)) (pe_callB call_len_seq (by rfl) T.len (by decide +kernel) (pa_cons (pe_ix ix_list (pv 0) pe_int (fun _ _ => rfl)) pa_nil))) (fun _ _ => rfl)) pe_int) (pe_op op_mul pe_int (pv 2))) (pe_op op_mul (pe_ix ix_list (pv 0) pe_int (fun _ _ => rfl)) pe_int)))
      (pss_cons (ps_set (i := 3) S.nd rfl (Or.inl rfl) (pe_op op_modN (pe_callTy call_int1 (by rfl) T.int (by decide +kernel) (pa_cons (pe_op op_add (pe_op op_mul (pv 4) pe_int) pe_int) pa_nil)) pe_int))
      (pss_cons (ps_set (i := 3) S.nd rfl (Or.inl rfl) (pe_op op_modN (pe_callTy call_int1 (by rfl) T.int (by decide +kernel) (pa_cons (pe_op op_mul (pv 3) (pe_op op_add (pe_op op_fdivN (pv 3) pe_int) pe_int)) pa_nil)) pe_int))
      (pss_cons (ps_set (i := 3) S.nd rfl (Or.inl rfl) (pe_op op_modN (pe_callTy call_int1 (by rfl) T.int (by decide +kernel) (pa_cons (pe_op op_add (pe_op op_mul (pv 3) (pe_op op_add (pe_op op_fdivN (pv 3) pe_int) pe_int)) (pv 2)) pa_nil)) pe_int))
      (pss_one (ps_ret (pe_op op_modN (pe_callTy call_int1 (by rfl) T.int (by decide +kernel) (pa_cons (pe_op op_fdivN (pv 3) pe_int) pa_nil)) (pv 1)))))))))))), ?_⟩
  -- turn = pot[2]; pot[2] = turn + 1
  refine ⟨_, rfl, p, _, _, _, rfl, rfl, SqL.of h1, rfl, ?_⟩
  refine ⟨_, rfl, _, _, rfl, rfl, _, rfl, p, _, _, 2, rfl, rfl, h1, rfl, ?_⟩
  rw [pot_set]
  have e1 : ∀ (o : HO), (upd H p o) g = some (.lst (gs.map V.int)) := fun o => by rw [upd_ne npg.symm]; exact h2
  have e2 : ∀ (o : HO), (upd H p o) sa = some (.lst (ss.map V.int)) := fun o => by rw [upd_ne nps.symm]; exact h3
  -- if len(pot[0]) > 0
  refine ⟨_, rfl, p, _, _, _, rfl, rfl, SqL.of upd_same, rfl, g, _, rfl, .inl (SqL.of (e1 _)), _, _, rfl, rfl, _, rfl, ?_⟩
  refine ite2 (fun hc => ?_) (fun hc => ?_)
  · have hc : (0 : Int) < ((gs.map V.int).length : Int) := of_decide_eq_true hc
    obtain ⟨n, gr, rfl⟩ : ∃ n gr, gs = n :: gr := by
      cases gs with
      | nil => simp at hc
      | cons n gr => exact ⟨n, gr, rfl⟩
    refine ⟨_, rfl, p, _, _, _, rfl, rfl, SqL.of upd_same, rfl, g, _, _, _, rfl, rfl, SqL.of (e1 _), at0, ?_⟩
    refine ⟨_, rfl, _, rfl, _, _, rfl, rfl, ⟨by omega, by omega⟩, _, rfl, p, _, _, _, rfl, rfl, SqL.of upd_same, rfl, g, _, _, 0, rfl, rfl, e1 _, ixN0 (by simp), ?_⟩
    refine ⟨_, rfl, _, rfl, _, _, rfl, rfl, _, rfl, ?_⟩
    have e3 : ∀ (o o' : HO), (upd (upd H p o) g o') p = some o := fun o o' => by rw [upd_ne npg, upd_same]
    have e4 : ∀ (o o' : HO), (upd (upd H p o) g o') sa = some (.lst (ss.map V.int)) := fun o o' => by rw [upd_ne ngs.symm]; exact e2 _
    obtain ⟨m0, m1⟩ := fmod_lt (x := n) hm0
    refine ite2 (fun hd => ?_) (fun hd => ?_)
    · refine ⟨_, rfl, p, _, _, _, rfl, rfl, SqL.of (e3 _ _), rfl, .inl ⟨rfl, _, SqL.of upd_same⟩, g, _, _, 0, _, rfl, rfl, upd_same, by decide, by decide, seqIx0 (by simp), rfl, ?_⟩
      refine ⟨_, rfl, .inl ⟨_, rfl, _, rfl, _, _, rfl, rfl, by omega, ?_⟩⟩
      refine k _ _ m0 m1 ⟨t + 1, c, gr, ss, ?_, ?_, ?_, hne, npg, nps, ngs, hss⟩ fun b o hb b1 b2 => ?_
      · rw [upd_ne npg, e3]
      · rw [upd_same]; rfl
      · rw [upd_ne ngs.symm]; exact e4 _ _
      · rw [upd_ne b2, upd_ne b2, upd_ne b1]; exact hb
    · refine ⟨_, rfl, .inl ⟨_, rfl, _, rfl, _, _, rfl, rfl, by omega, ?_⟩⟩
      refine k _ _ m0 m1 ⟨t + 1, c, (n.fdiv m) :: gr, ss, e3 _ _, ?_, e4 _ _, hne, npg, nps, ngs, hss⟩ fun b o hb b1 b2 => ?_
      · rw [upd_same]; rfl
      · rw [upd_ne b2, upd_ne b1]; exact hb
  · -- the reckoned ones
    obtain ⟨v, hv, hvm⟩ := at_mod t (xs := ss.map V.int) (by simpa using hne)
    obtain ⟨z, rfl⟩ := mem_int hvm
    refine ⟨_, rfl, p, _, _, _, rfl, rfl, SqL.of upd_same, rfl, _, rfl, .inl ⟨_, rfl, _, rfl, p, _, _, _, rfl, rfl, SqL.of upd_same, rfl, sa, _, rfl, .inl (SqL.of (e2 _)), _, _, rfl, rfl, ?_, sa, _, _, _, rfl, rfl, SqL.of (e2 _), hv, ?_⟩⟩
    · simpa using hne
    refine ⟨_, _, rfl, rfl, .inr ⟨by decide, by decide⟩, _, rfl, _, _, rfl, rfl, .inl ⟨by decide, by decide⟩, _, _, rfl, rfl, _, rfl, p, _, _, _, rfl, rfl, SqL.of upd_same, rfl, _, _, rfl, rfl, .inr ⟨by decide, by decide⟩, _, _, rfl, rfl, ?_⟩
    have q1 := fmod_lt (x := (z * 7919 + 104729 * t + c * 31) * 48271 + 11) (m := 2147483647) (by decide)
    have q2 := fmod_lt (x := ((z * 7919 + 104729 * t + c * 31) * 48271 + 11).fmod 2147483647 * ((((z * 7919 + 104729 * t + c * 31) * 48271 + 11).fmod 2147483647).fdiv 1009 + 69621)) (m := 2147483629) (by decide)
    refine ⟨_, rfl, _, _, rfl, rfl, .inr ⟨by decide, by decide⟩, _, _, rfl, rfl, .inl ⟨_, rfl, _, _, rfl, rfl, (by show (2147483647 : Int) ≠ 0; decide), ?_⟩⟩
    refine ⟨_, rfl, _, rfl, _, _, rfl, rfl, ⟨by decide, by decide⟩, _, _, rfl, rfl, _, _, rfl, rfl, .inl ⟨by omega, by omega⟩, .inl ⟨_, rfl, _, _, rfl, rfl, (by show (2147483629 : Int) ≠ 0; decide), ?_⟩⟩
    refine ⟨_, rfl, _, rfl, _, _, rfl, rfl, ⟨by decide, by decide⟩, _, _, rfl, rfl, _, _, rfl, rfl, .inl ⟨by omega, by omega⟩, _, rfl, _, _, rfl, rfl, .inl ⟨_, rfl, _, _, rfl, rfl, (by show (2147483399 : Int) ≠ 0; decide), ?_⟩⟩
    refine ⟨_, rfl, _, _, rfl, rfl, ⟨by decide, by decide⟩, .inl ⟨_, rfl, _, rfl, _, _, rfl, rfl, by omega, ?_⟩⟩
    refine k _ _ (fmod_lt hm0).1 (fmod_lt hm0).2 ⟨t + 1, c, gs, ss, upd_same, e1 _, e2 _, hne, npg, nps, ngs, hss⟩ fun b o hb b1 b2 => ?_
    rw [upd_ne b1]; exact hb
def spString : Sp := fun vs H Q _ => ∃ (p g s : Addr) (n m : Int), vs = [.ref p, .int n, .int m] ∧ PotAt H p g s ∧ 1 ≤ n ∧ n ≤ 3 ∧ 0 ≤ m ∧ m ≤ 1000 ∧ ∀ x H', lettB n x = true → (x.length : Int) ≤ m → PotAt H' p g s → Sb p g H H' → Q (.str x) H'
theorem sc__law_string : FnScope N__law_string ["pot", "letters", "most"] (defScope s__law_string) := ⟨rfl, rfl, rfl, by decide +kernel, rfl, by decide +kernel, by decide +kernel⟩
theorem ok__law_string {f : Addr} {fd : FuncData} (F : Fun K "_law_string" "_law_string" s__law_string f fd) (T : Txt P K mg a) (G__law_draw : DefOk P w K mg base "_law_draw" 1 ["pot", "many"] (spDraw)) : FnOk P w K mg base (L2.CX P w) 2 f fd ["pot", "letters", "most"] (spString) := by
  have S := sc__law_string
  refine F.okX S (fun vs H Q E h => ?_) (fun cdv A outer s H vs Q E hr h => ?_)
  · obtain ⟨p, g, sa, n, m, rfl, _⟩ := h; rfl
  have hu := hu_of hr
  obtain ⟨p, g, sa, n, m, rfl, P0, n1, n3, m0, m1, k⟩ := h
  refine ⟨_, ((pss_one (ps_ret (pe_join pe_str (pe_lc (own := [("k", 3)]) (g := gName 3) rfl S.nd (pi_range1 rfl T.range (pa_cons (pe_d G__law_draw hr rfl (pa_cons (pv 0) (pa_cons (pe_op op_add (pv 2) pe_int) pa_nil))) pa_nil)) (blkOk_by (own := [("k", 3)]) (N := N__law_string) (sc := defScope s__law_string) (by decide +kernel)) (fun _ _ _ _ _ => (pg_name (i := 3) S.nd rfl (by first | exact Or.inl rfl | exact Or.inr rfl))) (fun _ _ _ _ _ => pts_nil) (fun _ _ _ _ _ => (pe_ix ix_str pe_str (pe_d G__law_draw hr rfl (pa_cons (pv 0) (pa_cons (pv 1) pa_nil))) (fun _ _ => rfl)))))))), ?_⟩
  refine ⟨⟨_, rfl⟩, _, rfl, _, rfl, _, _, rfl, rfl, p, g, sa, _, rfl, P0, by omega, by omega, fun r H1 r0 r1 P1 e1 => ⟨r, rfl, by omega, by omega, fun D nD => ?_⟩⟩
  refine lc_range (lo := 0) (n := r.toNat) (fun i H' => PotAt H' p g sa ∧ Sb p g H1 H' ∧ ∃ ys : List Str, ys.length = i ∧ (∀ y ∈ ys, y.length = 1 ∧ lettB n y = true) ∧ H' D = some (.lst (ys.map V.str))) ⟨P1.upd nD, Sb.new nD, [], rfl, (fun y hy => by cases hy), upd_same⟩ ?_ ?_
  · rintro i H' hi ⟨P2, e2, ys, hy, hys, hD⟩
    refine ⟨rfl, _, rfl, _, rfl, p, g, sa, n, rfl, P2, by omega, by omega, fun c H3 c0 c1 P3 e3 => ?_⟩
    have hD3 := e3 _ _ hD (P1.ne nD).1.symm (P1.ne nD).2.1.symm
    have hc : c = 0 ∨ c = 1 ∨ c = 2 := by omega
    have done : ∀ code : Nat, (97 ≤ code ∧ (code : Int) < 97 + n) → ∃ acc, H3 D = some (.lst acc) ∧ acc.length < sizeLine ∧ PotAt (upd H3 D (.lst (acc ++ [V.str ⟨#[code]⟩]))) p g sa ∧ Sb p g H1 (upd H3 D (.lst (acc ++ [V.str ⟨#[code]⟩]))) ∧ ∃ ys : List Str, ys.length = i + 1 ∧ (∀ y ∈ ys, y.length = 1 ∧ lettB n y = true) ∧ (upd H3 D (.lst (acc ++ [V.str ⟨#[code]⟩]))) D = some (.lst (ys.map V.str)) := by
      intro code hcode
      refine ⟨_, hD3, by rw [List.length_map]; exact small1000 (by omega), P3.put (P1.ne nD), (e2.trans e3).mut nD, ys ++ [⟨#[code]⟩], by simp [hy], ?_, by rw [upd_same, List.map_append]; rfl⟩
      · intro y hy
        rcases List.mem_append.mp hy with hy | hy
        · exact hys y hy
        · rw [List.mem_singleton.mp hy]
          exact ⟨rfl, by simp [lettB, hcode]⟩
    rcases hc with rfl | rfl | rfl
    · exact ⟨_, _, 97, rfl, rfl, by decide, rfl, done 97 (by omega)⟩
    · exact ⟨_, _, 98, rfl, rfl, by decide, rfl, done 98 (by omega)⟩
    · exact ⟨_, _, 99, rfl, rfl, by decide, rfl, done 99 (by omega)⟩
  rintro H2 ⟨P2, e2, ys, hy, hys, hD⟩
  have hlen : (Txt.join "" ys).cps.toList.length = ys.length := by
    rw [tl_join0]
    clear hy hD
    induction ys with
    | nil => rfl
    | cons y r ih =>
      have h1 := (hys y (List.mem_cons_self ..)).1
      rw [str_len] at h1
      rw [List.map_cons, List.flatten_cons, List.length_append, ih (fun z hz => hys z (List.mem_cons_of_mem _ hz)), h1, List.length_cons]
      omega
  refine ⟨_, D, ys, rfl, rfl, .inl (SqL.of hD), ?_, ?_⟩
  · have hs : (ys.map (·.length)).sum = ys.length := by
      clear hy hD hlen
      induction ys with
      | nil => rfl
      | cons y r ih => rw [List.map_cons, List.sum_cons, ih (fun z hz => hys z (List.mem_cons_of_mem _ hz)), (hys y (List.mem_cons_self ..)).1, List.length_cons]; omega
    rw [hs]
    show ys.length + ys.length * 0 ≤ 16777216
    omega
  · refine k _ H2 ?_ ?_ P2 (fun b o hb b1 b2 => e2 b o (e1 b o hb b1 b2) b1 b2)
    · unfold lettB
      rw [tl_join0, List.all_eq_true]
      intro c hc
      obtain ⟨l, hl, hcl⟩ := List.mem_flatten.mp hc
      obtain ⟨y, hy2, rfl⟩ := List.mem_map.mp hl
      have := (hys y hy2).2
      unfold lettB at this
      exact List.all_eq_true.mp this c hcl
    · rw [str_len, hlen]; omega
def spLawSign : Sp := fun vs H Q _ => ∃ (x : V) (h r : Str) (p : Int), vs = [x, .int p] ∧ ConAt H x h r ∧ 0 ≤ p ∧ Q (.str (signS h r p)) H
theorem sc__law_sign : FnScope N__law_sign ["content", "place"] (defScope s__law_sign) := ⟨rfl, rfl, rfl, by decide +kernel, rfl, by decide +kernel, by decide +kernel⟩
theorem ok__law_sign {f : Addr} {fd : FuncData} (F : Fun K "_law_sign" "_law_sign" s__law_sign f fd) (T : Txt P K mg a) : FnOk P w K mg base (L2.CX P w) 1 f fd ["content", "place"] (spLawSign) := by
  have S := sc__law_sign
  refine F.okX S (fun vs H Q E h => ?_) (fun cdv A outer s H vs Q E hr h => ?_)
  · obtain ⟨x, h', r, p, rfl, _⟩ := h; rfl
  have hu := hu_of hr
  obtain ⟨x, u, r, p, rfl, ⟨a, rfl, ha, hu', hr', _⟩, hp, k⟩ := h
  refine ⟨_, ((pss_cons (ps_if (pt_cmpR op_lt (pv 1) (pe_callB call_len_str (by rfl) T.len (by decide +kernel) (pa_cons (pe_ix ix_tup (pv 0) pe_int (fun _ _ => rfl)) pa_nil)) (nomark _)) (pss_one (ps_ret (pe_ix ix_str (pe_ix ix_tup (pv 0) pe_int (fun _ _ => rfl)) (pv 1) (fun _ _ => rfl)))) pss_nil)
      (pss_cons (ps_if (pt_cmpR op_eq (pe_ix ix_tup (pv 0) pe_int (fun _ _ => rfl)) pe_str (nomark _)) (pss_one (ps_ret pe_str)) pss_nil)
      (pss_one (ps_ret (pe_ix ix_str (pe_ix ix_tup (pv 0) pe_int (fun _ _ => rfl)) (pe_op op_modN (pe_callTy call_int1 (by rfl) T.int (by decide +kernel) (pa_cons (pe_op op_sub (pv 1) (pe_callB call_len_str (by rfl) T.len (by decide +kernel) (pa_cons (pe_ix ix_tup (pv 0) pe_int (fun _ _ => rfl)) pa_nil))) pa_nil)) (pe_callB call_len_str (by rfl) T.len (by decide +kernel) (pa_cons (pe_ix ix_tup (pv 0) pe_int (fun _ _ => rfl)) pa_nil))) (fun _ _ => rfl))))))), ?_⟩
  refine ⟨_, rfl, _, rfl, a, _, _, _, rfl, rfl, SqT.of ha, rfl, _, rfl, Nat.le_trans hu' (by decide), _, _, rfl, rfl, _, rfl, ?_⟩
  unfold signS at k
  refine ite2 (fun hc => ?_) (fun hc => ?_)
  · have hc : p < (u.length : Int) := of_decide_eq_true hc
    rw [if_pos hc] at k
    exact ⟨_, rfl, a, _, _, _, rfl, rfl, SqT.of ha, rfl, _, rfl, _, _, _, rfl, rfl, Nat.le_trans hu' (by decide), at_getD hp hc, k⟩
  · have hc : ¬ p < (u.length : Int) := by simpa using hc
    rw [if_neg hc] at k
    refine ⟨_, rfl, a, _, _, _, rfl, rfl, SqT.of ha, rfl, rfl, _, rfl, ?_⟩
    refine ite2 (fun hd => ?_) (fun hd => ?_)
    · rw [if_pos (str_empty.mp (of_decide_eq_true hd))] at k
      exact k
    · have hd : ¬ r.length = 0 := fun z => hd (decide_eq_true (str_empty.mpr z))
      rw [if_neg hd] at k
      have q := fmod_lt (x := p - (u.length : Int)) (m := (r.length : Int)) (by omega)
      exact ⟨_, rfl, a, _, _, _, rfl, rfl, SqT.of ha, rfl, _, rfl, _, rfl, a, _, _, _, rfl, rfl, SqT.of ha, rfl, _, rfl, Nat.le_trans hu' (by decide), _, _, rfl, rfl, .inl ⟨_, rfl, _, rfl, a, _, _, _, rfl, rfl, SqT.of ha, rfl, _, rfl, Nat.le_trans hr' (by decide), _, _, rfl, rfl, (by show (r.length : Int) ≠ 0; omega), _, _, _, rfl, rfl, Nat.le_trans hr' (by decide), at_getD q.1 q.2, k⟩⟩
def sgs (h r : Str) (n : Nat) : List Str := (List.range n).map fun i : Nat => signS h r (i : Int)
theorem sgs_len {h r : Str} {n : Nat} : (sgs h r n).length = n := by simp [sgs]
theorem sgs_succ {h r : Str} {n : Nat} : sgs h r (n + 1) = sgs h r n ++ [signS h r (n : Int)] := by simp [sgs, List.range_succ]
def spFirst : Sp := fun vs H Q _ => ∃ (x : V) (h r : Str) (n : Int), vs = [x, .int n] ∧ ConAt H x h r ∧ 0 ≤ n ∧ n ≤ 1000 ∧ ∀ (l : Addr) H', H l = none → H' l = some (.lst ((sgs h r n.toNat).map V.str)) → Same H H' → Q (.ref l) H'
theorem sc__law_first : FnScope N__law_first ["content", "many"] (defScope s__law_first) := ⟨rfl, rfl, rfl, by decide +kernel, rfl, by decide +kernel, by decide +kernel⟩
theorem ok__law_first {f : Addr} {fd : FuncData} (F : Fun K "_law_first" "_law_first" s__law_first f fd) (T : Txt P K mg a) (G__law_sign : DefOk P w K mg base "_law_sign" 1 ["content", "place"] (spLawSign)) : FnOk P w K mg base (L2.CX P w) 2 f fd ["content", "many"] (spFirst) := by
  have S := sc__law_first
  refine F.okX S (fun vs H Q E h => ?_) (fun cdv A outer s H vs Q E hr h => ?_)
  · obtain ⟨x, h', r, p, rfl, _⟩ := h; rfl
  have hu := hu_of hr
  obtain ⟨x, u, r, n, rfl, hc, n0, n1, k⟩ := h
  refine ⟨_, ((pss_one (ps_ret (pe_lc (own := [("place", 2)]) (g := gName 2) rfl S.nd (pi_range1 rfl T.range (pa_cons (pv 1) pa_nil)) (blkOk_by (own := [("place", 2)]) (N := N__law_first) (sc := defScope s__law_first) (by decide +kernel)) (fun _ _ _ _ _ => (pg_name (i := 2) S.nd rfl (by first | exact Or.inl rfl | exact Or.inr rfl))) (fun _ _ _ _ _ => pts_nil) (fun _ _ _ _ _ => (pe_d G__law_sign hr rfl (pa_cons (pv 0) (pa_cons (pv 2) pa_nil)))))))), ?_⟩
  refine ⟨_, rfl, n, rfl, by omega, by omega, fun D nD => ?_⟩
  refine lc_range (lo := 0) (n := n.toNat) (fun i H' => Same H H' ∧ H' D = some (.lst ((sgs u r i).map V.str))) ⟨Same.new nD, upd_same⟩ ?_ ?_
  · rintro i H' hi ⟨s1, hD⟩
    refine ⟨rfl, _, rfl, _, rfl, x, u, r, 0 + (i : Int), rfl, hc.keep s1, by omega, _, hD, ?_, s1.mut nD, ?_⟩
    · rw [List.length_map, sgs_len]; exact small1000 (by omega)
    · rw [upd_same, sgs_succ, List.map_append, Int.zero_add]; rfl
  · rintro H' ⟨s1, hD⟩
    exact k D H' nD hD s1
theorem signS_sg {h r : Str} (r0 : 0 < r.length) (i : Nat) : signS h r (i : Int) = ⟨#[Rnd.sg h.cps.toList r.cps.toList i]⟩ := by
  unfold signS Rnd.sg
  have e1 := str_len h
  have e2 := str_len r
  by_cases l : i < h.length
  · rw [if_pos (by omega), if_pos (by omega), Int.toNat_natCast]
  · rw [if_neg (by omega), if_neg (by omega), if_neg (by omega)]
    have e : (((i : Int) - (h.length : Int)).fmod (r.length : Int)).toNat = (i - h.cps.toList.length) % r.cps.toList.length := by
      rw [Int.fmod_eq_emod_of_nonneg _ (by omega), show (i : Int) - (h.length : Int) = ((i - h.length : Nat) : Int) by omega, ← e1, ← e2]
      omega
    rw [e]
theorem sgs_tl {h r : Str} (r0 : 0 < r.length) (n : Nat) : ((sgs h r n).map (·.cps.toList)).flatten = Rnd.seg (Rnd.sg h.cps.toList r.cps.toList) 0 n := by
  unfold sgs Rnd.seg
  rw [List.map_map]
  induction n with
  | zero => rfl
  | succ n ih =>
    rw [List.range_succ, List.map_append, List.map_append, List.flatten_append, ih]
    congr 1
    simp [signS_sg r0]
theorem dpAll_strs {K : PySem.W.Frag} {H : Hp} : ∀ l : List Str, DpAll K H (l.map V.str) (l.map PyData.str)
  | [] => .nil
  | z :: l => .cons (.str z) (dpAll_strs l)
theorem shaped_strs {l : List Str} (h : ∀ z ∈ l, z.cps.all (· < 0x110000) = true) : SeqAt.shaped (.list (l.map PyData.str)) = true := by
  have h1 : ∀ l : List Str, (∀ z ∈ l, z.cps.all (· < 0x110000) = true) → PyData.canLayAll0 (l.map PyData.str) = true ∧ PyData.depthAll (l.map PyData.str) = 0 := by
    intro l
    induction l with
    | nil => exact fun _ => ⟨rfl, rfl⟩
    | cons z r ih =>
      intro h
      obtain ⟨i1, i2⟩ := ih fun y hy => h y (List.mem_cons_of_mem _ hy)
      refine ⟨?_, ?_⟩
      · show (PyData.strOk z && PyData.canLayAll0 (r.map PyData.str)) = true
        unfold PyData.strOk
        rw [h z (List.mem_cons_self ..), i1]; rfl
      · show max 0 (PyData.depthAll (r.map PyData.str)) = 0
        rw [i2]; rfl
  obtain ⟨a, b⟩ := h1 l h
  unfold SeqAt.shaped
  rw [Bool.and_eq_true]
  refine ⟨a, ?_⟩
  show decide (PyData.depthAll (l.map PyData.str) + 1 ≤ 64) = true
  rw [b]; rfl
theorem eqv_strs : ∀ l m : List Str, PyData.eqv (.list (l.map PyData.str)) (.list (m.map PyData.str)) = decide (l = m) := by
  have key : ∀ l m : List Str, PyData.eqvAll (l.map PyData.str) (m.map PyData.str) = decide (l = m) := by
    intro l
    induction l with
    | nil => intro m; cases m <;> simp [PyData.eqvAll]
    | cons z r ih =>
      intro m
      cases m with
      | nil => simp [PyData.eqvAll]
      | cons y q =>
        rw [List.map_cons, List.map_cons, PyData.eqvAll, ih]
        rw [Bool.eq_iff_iff]
        simp [PyData.eqv]
  intro l m
  rw [PyData.eqv]
  exact key l m
theorem signS_ok {h r : Str} (hh : lettB 3 h = true) (hr : lettB 3 r = true) (i : Nat) : (signS h r (i : Int)).cps.all (· < 0x110000) = true := by
  by_cases r0 : 0 < r.length
  · rw [signS_sg r0]
    have := sg_lett hh hr r0 i
    simp
    omega
  · by_cases l : i < h.length
    · unfold signS
      rw [if_pos (by omega), Int.toNat_natCast]
      unfold lettB at hh
      have hj : i < h.cps.toList.length := by rw [← str_len]; exact l
      have e : h.cps.toList.getD i 0 = h.cps.toList[i] := by rw [List.getD_eq_getElem?_getD, List.getElem?_eq_getElem hj]; rfl
      have := of_decide_eq_true (List.all_eq_true.mp hh _ (List.getElem_mem hj))
      rw [e]
      simp
      simp at this
      omega
    · rw [signS_end (by omega) (by omega)]
      decide +kernel
theorem sgs_ok {h r : Str} (hh : lettB 3 h = true) (hr : lettB 3 r = true) {n : Nat} : ∀ z ∈ sgs h r n, z.cps.all (· < 0x110000) = true := fun z hz => by
  obtain ⟨i, _, rfl⟩ := List.mem_map.mp hz
  exact signS_ok hh hr i
theorem sgs_eq {h r u v : Str} (r0 : 0 < r.length) (v0 : 0 < v.length) {n : Nat} : sgs u v n = sgs h r n ↔ ∀ i, i < n → Rnd.sg u.cps.toList v.cps.toList i = Rnd.sg h.cps.toList r.cps.toList i := by
  unfold sgs
  rw [List.map_inj_left]
  constructor
  · intro e i hi
    have := e i (List.mem_range.mpr hi)
    rw [signS_sg r0, signS_sg v0] at this
    have := congrArg (fun s : Str => s.cps.toList) this
    simpa using this
  · intro e i hi
    rw [signS_sg r0, signS_sg v0, e i (List.mem_range.mp hi)]
def spLawLeast : Sp := fun vs H Q _ => ∃ (x y : V) (h r : Str), vs = [x, y] ∧ ConAt H x h r ∧ h.length ≤ 12 ∧ r.length ≤ 10 ∧ ∀ (u v : Str) (a : Addr) H', Least h r u v → H' a = some (.tup [.str u, .str v]) → Same H H' → Q (.ref a) H'
theorem sc__law_least : FnScope N__law_least ["content", "letters"] (defScope s__law_least) := ⟨rfl, rfl, rfl, by decide +kernel, rfl, by decide +kernel, by decide +kernel⟩
theorem ok__law_least {f : Addr} {fd : FuncData} (F : Fun K "_law_least" "_law_least" s__law_least f fd) (T : Txt P K mg a) (G__law_first : DefOk P w K mg base "_law_first" 2 ["content", "many"] (spFirst)) : FnOk P w K mg base (L2.CX P w) 3 f fd ["content", "letters"] (spLawLeast) := by
  have S := sc__law_least
  refine F.okX S (fun vs H Q E h => ?_) (fun cdv A outer s H vs Q E hr h => ?_)
  · obtain ⟨x, h', r, p, rfl, _⟩ := h; rfl
  have hu := hu_of hr
  obtain ⟨x, y, u, r, rfl, hc, u1, r1, k⟩ := h
  have hc0 := hc
  obtain ⟨ad, rfl, ha, _, _, l1, l2⟩ := hc0
  have hcr : ConAt H (.ref ad) u r := hc
  clear hc
  refine ⟨_, ((pss_cons (ps_if (pt_cmpR op_eq (pe_ix ix_tup (pv 0) pe_int (fun _ _ => rfl)) pe_str (nomark _)) (pss_one (ps_ret (pv 0))) pss_nil)
      (pss_cons (ps_for (passes_of rfl) rfl (pi_range2 rfl T.range (pa_cons pe_int (pa_cons (pe_op op_add (pe_callB call_len_str (by rfl) T.len (by decide +kernel) (pa_cons (pe_ix ix_tup (pv 0) pe_int (fun _ _ => rfl)) pa_nil)) pe_int) pa_nil))) (pg_name (i := 2) S.nd rfl (by first | exact Or.inl rfl | exact Or.inr rfl)) (pss_one (ps_for (passes_of rfl) rfl (pi_range1 rfl T.range (pa_cons (pe_op op_add (pe_op op_add (pe_callB call_len_str (by rfl) T.len (by decide +kernel) (pa_cons (pe_ix ix_tup (pv 0) pe_int (fun _ _ => rfl)) pa_nil)) (pe_callB call_len_str (by rfl) T.len (by decide +kernel) (pa_cons (pe_ix ix_tup (pv 0) pe_int (fun _ _ => rfl)) pa_nil))) pe_int) pa_nil)) (pg_name (i := 3) S.nd rfl (by first | exact Or.inl rfl | exact Or.inr rfl)) (pss_cons (ps_set (i := 4) S.nd rfl (Or.inl rfl) (pe_join pe_str (pe_d G__law_first hr rfl (pa_cons (pv 0) (pa_cons (pe_op op_add (pv 3) (pv 2)) pa_nil)))))
              (pss_cons (ps_set (i := 5) S.nd rfl (Or.inl rfl) (pe_tup (pa_cons (pe_slice sl_str (pv 4) po_none (po_some (pv 3))) (pa_cons (pe_slice sl_str (pv 4) (po_some (pv 3)) po_none) pa_nil))))
              (pss_one (ps_if (pt_cmpR (op_eqD hr.units) (pe_d G__law_first hr rfl (pa_cons (pv 5) (pa_cons pe_int pa_nil))) (pe_d G__law_first hr rfl (pa_cons (pv 0) (pa_cons pe_int pa_nil))) (nomark _)) (pss_one (ps_ret (pv 5))) pss_nil)))))))
      (pss_one (ps_ret (pv 0)))))), ?_⟩
  refine ⟨_, rfl, ad, _, _, _, rfl, rfl, SqT.of ha, rfl, rfl, _, rfl, ?_⟩
  refine ite2 (fun hd => ?_) (fun hd => ?_)
  · exact ⟨_, rfl, k u r ad H (.inl ⟨str_empty.mp (of_decide_eq_true hd), rfl, rfl⟩) ha (Same.refl H)⟩
  have r0 : 0 < r.length := by
    have : ¬ r.length = 0 := fun z => hd (decide_eq_true (str_empty.mpr z))
    omega
  -- the least one
  obtain ⟨m, p, C⟩ : ∃ m p, Rnd.Canon (Rnd.sg u.cps.toList r.cps.toList) m p := Rnd.canon_any (by rw [← str_len]; exact r0) (Rnd.sg_per _ _)
  have hb := C.2.2 u.cps.toList.length r.cps.toList.length (by rw [← str_len]; exact r0) (Rnd.sg_per _ _)
  rw [← str_len, ← str_len] at hb
  have p0 := C.1
  refine ⟨_, rfl, ad, _, _, _, rfl, rfl, SqT.of ha, rfl, _, rfl, Nat.le_trans r1 (by decide), _, _, rfl, rfl, 1, (r.length : Int) + 1, rfl, ⟨by decide, by decide, by omega, by omega⟩, ?_⟩
  refine for_range (lo := 1) (n := ((r.length : Int) + 1 - 1).toNat) (fun i σ H' => Same H H' ∧ i + 1 ≤ p ∧ ∃ v2 v3 v4 v5, σ = [some (.ref ad), some y, v2, v3, v4, v5]) ⟨Same.refl H, p0, _, _, _, _, rfl⟩ ?_ ?_
  · rintro i σ H1 hi ⟨s1, hip, v2, v3, v4, v5, rfl⟩
    have ha1 := s1 _ _ ha
    have ei : (1 : Int) + (i : Int) = ((i + 1 : Nat) : Int) := by omega
    rw [ei]
    refine ⟨_, rfl, ad, _, _, _, rfl, rfl, SqT.of ha1, rfl, _, rfl, Nat.le_trans u1 (by decide), _, rfl, ad, _, _, _, rfl, rfl, SqT.of ha1, rfl, _, rfl, Nat.le_trans r1 (by decide), _, _, rfl, rfl, _, _, rfl, rfl, _, rfl, by omega, by omega, ?_⟩
    refine for_range (lo := 0) (n := ((u.length : Int) + (r.length : Int) + 1).toNat) (fun j σ H' => Same H H' ∧ (i + 1 = p → j ≤ m) ∧ ∃ v3 v4 v5, σ = [some (.ref ad), some y, some (.int ((i + 1 : Nat) : Int)), v3, v4, v5]) ⟨s1, fun _ => Nat.zero_le _, _, _, _, rfl⟩ ?_ ?_
    · rintro j σ H2 hj ⟨s2, hjm, v3, v4, v5, rfl⟩
      have ej : (0 : Int) + (j : Int) = (j : Int) := Int.zero_add _
      rw [ej]
      have ea : (j : Int) + ((i + 1 : Nat) : Int) = ((j + (i + 1) : Nat) : Int) := by omega
      -- line
      refine ⟨⟨_, rfl⟩, _, rfl, _, rfl, _, rfl, _, _, rfl, rfl, .ref ad, u, r, (j : Int) + ((i + 1 : Nat) : Int), rfl, hcr.keep s2, by omega, by omega, fun l H3 nl hl s3 => ?_⟩
      rw [ea, Int.toNat_natCast] at hl
      refine ⟨_, l, sgs u r (j + (i + 1)), rfl, rfl, .inl (SqL.of hl), ?_, ?_⟩
      · have hs : ∀ n, ((sgs u r n).map (·.length)).sum = n := by
          intro n
          induction n with
          | zero => rfl
          | succ n ih =>
            rw [sgs_succ, List.map_append, List.sum_append, ih, signS_sg r0]
            rfl
        rw [hs, sgs_len]
        show _ + _ * 0 ≤ _
        omega
      have hline := tl_join0 (sgs u r (j + (i + 1)))
      rw [sgs_tl r0] at hline
      generalize Txt.join "" (sgs u r (j + (i + 1))) = line at hline ⊢
      have linel : line.length = j + (i + 1) := by rw [str_len, hline, Rnd.seg_len]
      have lineok : line.length ≤ sizeLine := by rw [linel]; exact Nat.le_trans (by omega : _ ≤ 1000) (by decide)
      -- found
      refine ⟨_, rfl, _, rfl, _, rfl, _, rfl, lineok, _, rfl, _, rfl, _, rfl, _, rfl, lineok, (by show 2 ≤ sizeLine; decide), fun ft nft => ?_⟩
      have tf : (cutS line none (some (j : Int))).cps.toList = Rnd.seg (Rnd.sg u.cps.toList r.cps.toList) 0 j := by
        rw [tl_cut_to, hline]
        exact Rnd.seg_take
      have tg : (cutS line (some (j : Int)) none).cps.toList = Rnd.seg (Rnd.sg u.cps.toList r.cps.toList) j (i + 1) := by
        rw [tl_cut_from, hline]
        exact Rnd.seg_drop
      have hft : (upd H3 ft (.tup [.str (cutS line none (some (j : Int))), .str (cutS line (some (j : Int)) none)])) ft = some (.tup [.str (cutS line none (some (j : Int))), .str (cutS line (some (j : Int)) none)]) := upd_same
      have s4 : Same H (upd H3 ft (.tup [.str (cutS line none (some (j : Int))), .str (cutS line (some (j : Int)) none)])) := (s2.trans s3).trans (Same.new nft)
      generalize cutS line none (some (j : Int)) = fu at tf hft s4 ⊢
      generalize cutS line (some (j : Int)) none = fv at tg hft s4 ⊢
      generalize upd H3 ft (.tup [.str fu, .str fv]) = H4 at hft s4 ⊢
      have fv0 : 0 < fv.length := by rw [str_len, tg, Rnd.seg_len]; omega
      have lfu := seg_lett l1 l2 r0 tf
      have lfv := seg_lett l1 l2 r0 tg
      have ful : fu.length ≤ 100000 := by rw [str_len, tf, Rnd.seg_len]; omega
      have fvl : fv.length ≤ 100000 := by rw [str_len, tg, Rnd.seg_len]; omega
      have hcf : ConAt H4 (.ref ft) fu fv := ⟨ft, rfl, hft, ful, fvl, lfu, lfv⟩
      -- the first sixty
      refine ⟨_, rfl, .ref ft, fu, fv, 60, rfl, hcf, by decide, by decide, fun w1 H5 nw1 hw1 s5 => ?_⟩
      refine ⟨_, rfl, .ref ad, u, r, 60, rfl, hcr.keep (s4.trans s5), by decide, by decide, fun w2 H6 nw2 hw2 s6 => ?_⟩
      refine ⟨_, _, .lst (SqL.of (s6 _ _ hw1)) (dpAll_strs _), .lst (SqL.of hw2) (dpAll_strs _), shaped_strs (sgs_ok lfu lfv), shaped_strs (sgs_ok l1 l2), _, rfl, ?_⟩
      rw [eqv_strs]
      refine ite2 (fun he => ?_) (fun he => ?_)
      · have he := (sgs_eq r0 fv0).mp (of_decide_eq_true he)
        rw [tf, tg] at he
        have hP := Rnd.per_of_agree (N := 60) (by rw [← str_len]; exact r0) (Nat.succ_pos i) (Rnd.sg_per _ _) (by rw [← str_len, ← str_len]; omega) he
        have := C.2.2 j (i + 1) (Nat.succ_pos i) hP
        have e1 : i + 1 = p := by omega
        have e2 : j = m := by have := hjm e1; omega
        subst e1 e2
        exact ⟨_, rfl, k fu fv ft H6 (.inr ⟨r0, j, i + 1, C, tf, tg⟩) (s6 _ _ (s5 _ _ hft)) ((s4.trans s5).trans s6)⟩
      · refine ⟨(s4.trans s5).trans s6, fun e1 => ?_, _, _, _, rfl⟩
        have hjm := hjm e1
        have : j ≠ m := fun e2 => by
          apply he
          refine decide_eq_true ((sgs_eq r0 fv0).mpr fun q _ => ?_)
          rw [tf, tg, e1, e2]
          exact Rnd.sg_seg p0 C.2.1 q
        omega
    · rintro σ H2 ⟨s2, hjm, v3, v4, v5, rfl⟩
      refine ⟨s2, ?_, _, _, _, _, rfl⟩
      have : i + 1 ≠ p := fun e1 => by have := hjm e1; omega
      omega
  · rintro σ H2 ⟨s2, hip, v2, v3, v4, v5, rfl⟩
    omega
theorem lett_app {n : Int} {a b : Str} : lettB n (a ++ b) = (lettB n a && lettB n b) := by
  unfold lettB
  rw [tl_app, List.all_append]
theorem lett_cut {n : Int} {a b : Str} (h : ∀ c, c ∈ b.cps.toList → c ∈ a.cps.toList) (ha : lettB n a = true) : lettB n b = true := by
  unfold lettB at *
  rw [List.all_eq_true] at *
  exact fun c hc => ha c (h c hc)
theorem sg_rot (h w : List Nat) (c i : Nat) : Rnd.sg (h ++ [c]) (w ++ [c]) i = Rnd.sg h (c :: w) i := by
  have n1 : (w ++ [c]).length = w.length + 1 := by simp
  have n2 : (c :: w).length = w.length + 1 := by simp
  have n3 : (h ++ [c]).length = h.length + 1 := by simp
  by_cases l : i < h.length
  · rw [Rnd.sg_head (by omega), Rnd.sg_head l, getD_app l]
  by_cases l2 : i = h.length
  · subst l2
    rw [Rnd.sg_head (by omega), Rnd.sg_tail (Nat.le_refl _), getD_app2 (Nat.le_refl _), Nat.sub_self, Nat.zero_mod]
    rfl
  · rw [Rnd.sg_tail (by omega), Rnd.sg_tail (by omega), n1, n2, n3]
    obtain ⟨j, hj⟩ : ∃ j, i = h.length + 1 + j := ⟨i - (h.length + 1), by omega⟩
    subst hj
    rw [show h.length + 1 + j - (h.length + 1) = j by omega, show h.length + 1 + j - h.length = j + 1 by omega]
    have hm := Nat.mod_lt j (show 0 < w.length + 1 by omega)
    by_cases e : j % (w.length + 1) = w.length
    · have : (j + 1) % (w.length + 1) = 0 := by rw [Nat.add_mod, e]; rcases Nat.eq_zero_or_pos w.length with z | z
                                                · rw [z]
                                                · rw [Nat.mod_eq_of_lt (show 1 < w.length + 1 by omega), Nat.mod_self]
      rw [this, e, getD_app2 (Nat.le_refl _), Nat.sub_self]
      rfl
    · have hl : j % (w.length + 1) < w.length := by omega
      have : (j + 1) % (w.length + 1) = j % (w.length + 1) + 1 := by
        rw [Nat.add_mod, Nat.mod_eq_of_lt (show 1 < w.length + 1 by omega), Nat.mod_eq_of_lt (by omega)]
      rw [this, getD_app hl]
      rfl
theorem sg_rep {h w : List Nat} (w0 : 0 < w.length) {k : Nat} (k0 : 0 < k) (i : Nat) : Rnd.sg h (List.replicate k w).flatten i = Rnd.sg h w i := by
  unfold Rnd.sg
  split
  · rfl
  · have hk : 0 < k * w.length := Nat.mul_pos k0 w0
    rw [len_rep, get_rep w0 _ _ (Nat.mod_lt _ hk), Nat.mod_mod_of_dvd _ ⟨k, Nat.mul_comm _ _⟩]
/-- written otherwise -/
def SameSg (h r u v : Str) : Prop := (r.length = 0 ∧ u = h ∧ v = r) ∨ (0 < r.length ∧ 0 < v.length ∧ ∀ i, Rnd.sg u.cps.toList v.cps.toList i = Rnd.sg h.cps.toList r.cps.toList i)
def spWritten : Sp := fun vs H Q _ => ∃ (p g s : Addr) (x : V) (h r : Str), vs = [.ref p, x] ∧ PotAt H p g s ∧ ConAt H x h r ∧ h.length ≤ 12 ∧ r.length ≤ 10 ∧ ∀ (a : Addr) (u v : Str) H', ConAt H' (.ref a) u v → u.length ≤ 100 → v.length ≤ 100 → SameSg h r u v → PotAt H' p g s → Sb p g H H' → Q (.ref a) H'
theorem sc__law_written : FnScope N__law_written ["pot", "content"] (defScope s__law_written) := ⟨rfl, rfl, rfl, by decide +kernel, rfl, by decide +kernel, by decide +kernel⟩
theorem ok__law_written {f : Addr} {fd : FuncData} (F : Fun K "_law_written" "_law_written" s__law_written f fd) (T : Txt P K mg a) (G__law_draw : DefOk P w K mg base "_law_draw" 1 ["pot", "many"] (spDraw)) : FnOk P w K mg base (L2.CX P w) 2 f fd ["pot", "content"] (spWritten) := by
  have S := sc__law_written
  refine F.okX S (fun vs H Q E h => ?_) (fun cdv A outer s H vs Q E hr h => ?_)
  · obtain ⟨p, g, sa, x, h', r, rfl, _⟩ := h; rfl
  have hu := hu_of hr
  obtain ⟨p, g, sa, x, u, r, rfl, P0, hc, u1, r1, k⟩ := h
  have hc0 := hc
  obtain ⟨ad, rfl, ha, _, _, l1, l2⟩ := hc0
  refine ⟨_, ((pss_cons (ps_asg (pv 1) (pg_tup rfl (pgs_cons (pg_name (i := 2) S.nd rfl (by first | exact Or.inl rfl | exact Or.inr rfl)) (pgs_cons (pg_name (i := 3) S.nd rfl (by first | exact Or.inl rfl | exact Or.inr rfl)) pgs_nil))))
      (pss_cons (ps_if (pt_cmpR op_eq (pv 3) pe_str (nomark _)) (pss_one (ps_ret (pv 1))) pss_nil)
      (pss_cons (ps_set (i := 3) S.nd rfl (Or.inl rfl) (pe_op op_mulS (pv 3) (pe_op op_add pe_int (pe_d G__law_draw hr rfl (pa_cons (pv 0) (pa_cons pe_int pa_nil))))))
      (pss_cons (ps_for (passes_of rfl) rfl (pi_range1 rfl T.range (pa_cons (pe_d G__law_draw hr rfl (pa_cons (pv 0) (pa_cons pe_int pa_nil))) pa_nil)) (pg_name (i := 4) S.nd rfl (by first | exact Or.inl rfl | exact Or.inr rfl)) (pss_one (ps_par (i := 2) (j := 3) (by rfl) S.nd rfl rfl (by decide) rfl rfl (pa_cons (pe_op op_add_str (pv 2) (pe_ix ix_str (pv 3) pe_int (fun _ _ => rfl))) (pa_cons (pe_op op_add_str (pe_slice sl_str (pv 3) (po_some pe_int) po_none) (pe_ix ix_str (pv 3) pe_int (fun _ _ => rfl))) pa_nil)) (by rfl))))
      (pss_one (ps_ret (pe_tup (pa_cons (pv 2) (pa_cons (pv 3) pa_nil)))))))))), ?_⟩
  refine ⟨_, rfl, ad, _, rfl, SqT.of ha, rfl, _, _, rfl, _, _, rfl, rfl, ?_⟩
  refine ⟨_, rfl, rfl, _, rfl, ?_⟩
  refine ite2 (fun hd => ?_) (fun hd => ?_)
  · have e0 := str_empty.mp (of_decide_eq_true hd)
    exact ⟨_, rfl, k ad u r H hc (by omega) (by omega) (.inl ⟨e0, rfl, rfl⟩) P0 (Sb.refl H)⟩
  have r0 : 0 < r.length := by
    have : ¬ r.length = 0 := fun z => hd (decide_eq_true (str_empty.mpr z))
    omega
  have r0' : 0 < r.cps.toList.length := by rw [← str_len]; exact r0
  refine ⟨_, rfl, _, rfl, p, g, sa, 3, rfl, P0, by decide, by decide, fun d H1 d0 d1 P1 e1 => ?_⟩
  refine ⟨_, _, rfl, rfl, _, _, rfl, rfl, mulOk_small (by omega) (by omega) (by omega), ?_⟩
  have tm := tl_mul r (n := 1 + d) (by omega)
  have tlen : (Txt.mul r (1 + d)).length ≤ 30 := by
    rw [str_len, tm, len_rep, ← str_len]
    have : (1 + d).toNat ≤ 3 := by omega
    exact Nat.le_trans (Nat.mul_le_mul this r1) (by decide)
  have tpos : 0 < (Txt.mul r (1 + d)).length := by
    rw [str_len, tm, len_rep]
    exact Nat.mul_pos (by omega) r0'
  have tlet : lettB 3 (Txt.mul r (1 + d)) = true := lett_cut (fun c hc => by
    rw [tm] at hc
    obtain ⟨l, hl, hcl⟩ := List.mem_flatten.mp hc
    rw [List.eq_of_mem_replicate hl] at hcl
    exact hcl) l2
  have tsg : ∀ i, Rnd.sg u.cps.toList (Txt.mul r (1 + d)).cps.toList i = Rnd.sg u.cps.toList r.cps.toList i := fun i => by
    rw [tm]; exact sg_rep r0' (by omega) i
  generalize Txt.mul r (1 + d) = w at tlen tpos tlet tsg ⊢
  refine ⟨_, rfl, p, g, sa, 5, rfl, P1, by decide, by decide, fun t H2 t0 t1 P2 e2 => ?_⟩
  refine ⟨t, rfl, by omega, by omega, ?_⟩
  have e12 : Sb p g H H2 := e1.trans e2
  refine for_range (lo := 0) (n := t.toNat) (fun i σ H' => H2 = H' ∧ ∃ (h' w' : Str) (v4 : Option V), σ = [some (.ref p), some (.ref ad), some (.str h'), some (.str w'), v4] ∧ h'.length = u.length + i ∧ w'.length = w.length ∧ lettB 3 h' = true ∧ lettB 3 w' = true ∧ ∀ j, Rnd.sg h'.cps.toList w'.cps.toList j = Rnd.sg u.cps.toList r.cps.toList j) ⟨rfl, u, w, none, rfl, rfl, rfl, l1, tlet, tsg⟩ ?_ ?_
  · rintro i σ _ hi ⟨rfl, h', w', v4, rfl, hl, wl, lh, lw, hs⟩
    obtain ⟨c, q, hq⟩ : ∃ c q, w'.cps.toList = c :: q := by
      cases e : w'.cps.toList with
      | nil => rw [str_len, e] at wl; simp at wl; omega
      | cons c q => exact ⟨c, q, rfl⟩
    have hat : atI w'.cps.toList 0 = some c := by rw [hq]; exact at0
    have wok : w'.length ≤ sizeLine := Nat.le_trans (by omega : _ ≤ 1000) (by decide)
    have one : (⟨#[c]⟩ : Str).length = 1 := rfl
    have tone : (⟨#[c]⟩ : Str).cps.toList = [c] := rfl
    refine ⟨_, rfl, _, rfl, _, _, c, rfl, rfl, wok, hat, _, _, rfl, rfl, by rw [one]; exact Nat.le_trans (by omega : _ ≤ 1000) (by decide), ?_⟩
    have hcl := cutS_len w' (some ((1 : Nat) : Int)) none
    have hct := tl_cut_from (z := w') (c := 1)
    rw [hq] at hct
    refine ⟨_, rfl, _, rfl, _, rfl, wok, _, rfl, _, _, c, rfl, rfl, wok, hat, _, _, rfl, rfl, by rw [one]; exact Nat.le_trans (by have : (cutS w' (some (1 : Int)) none).length ≤ w'.length := hcl; omega : _ ≤ 1000) (by decide), ?_⟩
    have lc : lettB 3 (⟨#[c]⟩ : Str) = true := lett_cut (fun z hz => by rw [tone] at hz; rw [hq]; rw [List.mem_singleton.mp hz]; exact List.mem_cons_self ..) lw
    have lq : lettB 3 (cutS w' (some (1 : Int)) none) = true := lett_cut (fun z hz => by
      have hz : z ∈ (cutS w' (some ((1 : Nat) : Int)) none).cps.toList := hz
      rw [hct] at hz; rw [hq]; exact List.mem_cons_of_mem _ hz) lw
    have tq : (cutS w' (some (1 : Int)) none).cps.toList = q := hct
    refine ⟨_, _, rfl, rfl, h' ++ ⟨#[c]⟩, cutS w' (some (1 : Int)) none ++ ⟨#[c]⟩, _, rfl, ?_, ?_, ?_, ?_, fun j => ?_⟩
    · rw [str_len, tl_app, List.length_append, tone, ← str_len]; simp; omega
    · rw [str_len, tl_app, List.length_append, tone, tq, ← wl, str_len, hq]; rfl
    · rw [lett_app, lh, lc]; rfl
    · rw [lett_app, lq, lc]; rfl
    · rw [tl_app, tl_app, tone, tq, sg_rot, ← hq]; exact hs j
  · rintro σ _ ⟨rfl, h', w', v4, rfl, hl, wl, lh, lw, hs⟩
    refine ⟨_, rfl, _, rfl, (by show 2 ≤ sizeLine; decide), fun a na => ?_⟩
    exact k a h' w' _ ⟨a, rfl, upd_same, by omega, by omega, lh, lw⟩ (by omega) (by omega) (.inr ⟨r0, by omega, hs⟩) (P2.upd na) (e12.trans (Sb.new na))
theorem Least.sg {h r u v : Str} (l : Least h r u v) (r0 : 0 < r.length) : 0 < v.length ∧ ∀ i, Rnd.sg u.cps.toList v.cps.toList i = Rnd.sg h.cps.toList r.cps.toList i := by
  rcases l with ⟨z, _⟩ | ⟨_, m, p, c, e1, e2⟩
  · omega
  · refine ⟨by rw [str_len, e2, Rnd.seg_len]; exact c.1, fun i => ?_⟩
    rw [e1, e2]
    exact Rnd.sg_seg c.1 c.2.1 i
theorem Least.uniq {h r u v h' r' u' v' : Str} (l : Least h r u v) (l' : Least h' r' u' v') (r0 : 0 < r.length) (r0' : 0 < r'.length) (e : ∀ i, Rnd.sg h.cps.toList r.cps.toList i = Rnd.sg h'.cps.toList r'.cps.toList i) : u = u' ∧ v = v' := by
  rcases l with ⟨z, _⟩ | ⟨_, m, p, c, e1, e2⟩
  · omega
  rcases l' with ⟨z, _⟩ | ⟨_, m', p', c', e1', e2'⟩
  · omega
  have ef : Rnd.sg h.cps.toList r.cps.toList = Rnd.sg h'.cps.toList r'.cps.toList := funext e
  rw [← ef] at c' e1' e2'
  obtain ⟨rfl, rfl⟩ := c.uniq c'
  exact ⟨str_eq.mpr (e1.trans e1'.symm), str_eq.mpr (e2.trans e2'.symm)⟩
/-- a head that ends with a letter that the round has not -/
theorem canon_long {A w : List Nat} {m p c : Nat} (w0 : 0 < w.length) (hc : ∀ j, j < w.length → w.getD j 0 ≠ c) (a0 : 0 < A.length) (ha : A.getD (A.length - 1) 0 = c) (C : Rnd.Canon (Rnd.sg [] w) m p) : Rnd.Canon (Rnd.sg A w) A.length p ∧ m = 0 := by
  have tail : ∀ i, Rnd.sg A w (A.length + i) = Rnd.sg [] w i := fun i => by
    rw [Rnd.sg_tail (by omega), Rnd.sg_tail (Nat.zero_le _), show A.length + i - A.length = i by omega]; rfl
  have m0 : m = 0 := by
    have := (C.2.2 0 w.length w0 (by have := Rnd.sg_per [] w; exact this)).2
    omega
  subst m0
  refine ⟨⟨C.1, fun i hi => ?_, fun m' p' p0 hp => ?_⟩, rfl⟩
  · obtain ⟨j, rfl⟩ : ∃ j, i = A.length + j := ⟨i - A.length, by omega⟩
    rw [Nat.add_assoc, tail, tail]
    exact C.2.1 j (Nat.zero_le _)
  · refine ⟨(C.2.2 m' p' p0 fun i hi => ?_).1, Nat.le_of_not_lt fun l => ?_⟩
    · rw [← tail, ← tail, ← Nat.add_assoc]
      exact hp _ (by omega)
    · have e := hp (A.length - 1) (by omega)
      rw [Rnd.sg_head (i := A.length - 1) (by omega), ha, Rnd.sg_tail (by omega)] at e
      exact hc _ (Nat.mod_lt _ w0) e
theorem sg_turn (A w : List Nat) : ∀ d, d ≤ w.length → ∀ i, Rnd.sg (A ++ w.take d) (w.drop d ++ w.take d) i = Rnd.sg A w i
  | 0, _, i => by simp
  | d + 1, h, i => by
    have hd : w.drop d = w[d] :: w.drop (d + 1) := List.drop_eq_getElem_cons (by omega)
    have ht : w.take (d + 1) = w.take d ++ [w[d]] := List.take_succ_eq_append_getElem (by omega)
    rw [ht, ← List.append_assoc, ← List.append_assoc, sg_rot, ← List.cons_append, ← hd]
    exact sg_turn A w d (by omega) i
theorem eqv_ne {u v u' v' : Str} (h : u = u' ∧ v = v') : (!PyData.eqv (.tuple [.str u, .str v]) (.tuple [.str u', .str v'])) = false := by
  rw [eqv_pair, decide_eq_true h]; rfl
def spLong : Sp := fun vs H Q _ => ∃ (p g s : Addr), vs = [.ref p] ∧ PotAt H p g s ∧ ∀ H', PotAt H' p g s → Sb p g H H' → Q (.bl true) H'
theorem sc__law_long_right : FnScope N__law_long_right ["pot"] (defScope s__law_long_right) := ⟨rfl, rfl, rfl, by decide +kernel, rfl, by decide +kernel, by decide +kernel⟩
theorem ok__law_long_right {f : Addr} {fd : FuncData} (F : Fun K "_law_long_right" "_law_long_right" s__law_long_right f fd) (T : Txt P K mg a) (G__law_least : DefOk P w K mg base "_law_least" 3 ["content", "letters"] (spLawLeast)) (G__law_string : DefOk P w K mg base "_law_string" 2 ["pot", "letters", "most"] (spString)) (G__law_draw : DefOk P w K mg base "_law_draw" 1 ["pot", "many"] (spDraw)) (G_least_content : DefOk P w K mg base "least_content" 5 ["content"] (spLeastContent)) (G_same_signs : DefOk P w K mg base "same_signs" 6 ["content", "second"] (spSameSigns)) : FnOk P w K mg base (L2.CX P w) 7 f fd ["pot"] (spLong) := by
  have S := sc__law_long_right
  refine F.okX S (fun vs H Q E h => ?_) (fun cdv A outer s H vs Q E hr h => ?_)
  · obtain ⟨p, g, sa, rfl, _⟩ := h; rfl
  have hu := hu_of hr
  obtain ⟨p, g, sa, rfl, P0, k⟩ := h
  refine ⟨_, ((pss_cons (ps_par (i := 1) (j := 2) (by rfl) S.nd rfl rfl (by decide) rfl rfl (pa_cons (pe_op op_add_str (pe_d G__law_string hr rfl (pa_cons (pv 0) (pa_cons pe_int (pa_cons pe_int pa_nil)))) pe_str) (pa_cons (pe_op op_add pe_int (pe_d G__law_draw hr rfl (pa_cons (pv 0) (pa_cons pe_int pa_nil)))) pa_nil)) (by rfl))
      (pss_cons (ps_set (i := 3) S.nd rfl (Or.inl rfl) (pe_tup (pa_cons (pe_op op_add_str (pe_op op_mulS pe_str (pe_d G__law_draw hr rfl (pa_cons (pv 0) (pa_cons pe_int pa_nil)))) pe_str) (pa_cons (pv 1) pa_nil))))
      (pss_cons (ps_set (i := 4) S.nd rfl (Or.inl rfl) (pe_tup (pa_cons (pe_op op_add_str (pe_ix ix_tup (pv 3) pe_int (fun _ _ => rfl)) (pe_slice sl_str (pv 1) po_none (po_some (pe_d G__law_draw hr rfl (pa_cons (pv 0) (pa_cons (pe_callB call_len_str (by rfl) T.len (by decide +kernel) (pa_cons (pv 1) pa_nil)) pa_nil)))))) (pa_cons pe_str pa_nil))))
      (pss_cons (ps_set (i := 5) S.nd rfl (Or.inl rfl) (pe_op op_sub (pe_callB call_len_str (by rfl) T.len (by decide +kernel) (pa_cons (pe_ix ix_tup (pv 4) pe_int (fun _ _ => rfl)) pa_nil)) (pe_callB call_len_str (by rfl) T.len (by decide +kernel) (pa_cons (pe_ix ix_tup (pv 3) pe_int (fun _ _ => rfl)) pa_nil))))
      (pss_cons (ps_set (i := 4) S.nd rfl (Or.inl rfl) (pe_tup (pa_cons (pe_ix ix_tup (pv 4) pe_int (fun _ _ => rfl)) (pa_cons (pe_op op_mulS (pe_op op_add_str (pe_slice sl_str (pv 1) (po_some (pv 5)) po_none) (pe_slice sl_str (pv 1) po_none (po_some (pv 5)))) (pv 2)) pa_nil))))
      (pss_cons (ps_set (i := 6) S.nd rfl (Or.inl rfl) (pe_mid (pe_ifExp (pt_cmpR op_lt (pe_callB call_len_str (by rfl) T.len (by decide +kernel) (pa_cons (pe_ix ix_tup (pv 3) pe_int (fun _ _ => rfl)) pa_nil)) pe_int (nomark _)) (pe_d G__law_least hr rfl (pa_cons (pv 3) (pa_cons pe_int pa_nil))) (pe_op op_catT (pe_slice sl_tupA (pv 3) po_none (po_some pe_int)) (pe_tup (pa_cons (pe_ix ix_tup (pe_d G__law_least hr rfl (pa_cons (pe_tup (pa_cons pe_str (pa_cons (pv 1) pa_nil))) (pa_cons pe_int pa_nil))) pe_int (fun _ _ => rfl)) pa_nil))))))
      (pss_cons (ps_if (PW.pt (pw_or (pt_cmpR (op_neD hr.units) (pe_d G_least_content hr rfl (pa_cons (pv 4) pa_nil)) (pv 6) (nomark _)) (pw_or1 (pt_cmpR op_notBl (pe_d G_same_signs hr rfl (pa_cons (pv 4) (pa_cons (pv 6) pa_nil))) pe_bl (nomark _))))) (pss_one (ps_ret pe_bl)) pss_nil)
      (pss_one (ps_ret (pe_and (pe_cmpR op_isBl (pe_d G_same_signs hr rfl (pa_cons (pv 4) (pa_cons (pe_tup (pa_cons (pe_op op_add_str (pe_ix ix_tup (pv 4) pe_int (fun _ _ => rfl)) pe_str) (pa_cons (pe_ix ix_tup (pv 4) pe_int (fun _ _ => rfl)) pa_nil))) pa_nil))) pe_bl (nomark _)) (pe_one (pe_cmpR op_isBl (pe_d G_same_signs hr rfl (pa_cons (pv 4) (pa_cons (pe_tup (pa_cons (pe_ix ix_tup (pv 4) pe_int (fun _ _ => rfl)) (pa_cons pe_str pa_nil))) pa_nil))) pe_bl (nomark _)))))))))))))), ?_⟩
  have tb : (("b" : Str)).cps.toList = [98] := by decide +kernel
  have tc : (("c" : Str)).cps.toList = [99] := by decide +kernel
  have ta : (("a" : Str)).cps.toList = [97] := by decide +kernel
  have e0 : (("" : Str)).cps.toList = [] := by decide +kernel
  have line : ∀ n : Nat, n ≤ 1000 → n ≤ sizeLine := fun n h => Nat.le_trans h (by decide)
  -- inner, again
  refine ⟨_, rfl, p, g, sa, 2, 9, rfl, P0, by decide, by decide, by decide, by decide, fun i0 H1 li ii P1 e1 => ?_⟩
  refine ⟨_, _, rfl, rfl, (by show i0.length + 1 ≤ sizeLine; exact line _ (by omega)), _, rfl, p, g, sa, 5, rfl, P1, by decide, by decide, fun ag H2 a0 a1 P2 e2 => ⟨_, _, rfl, rfl, _, _, rfl, ?_⟩⟩
  have inl : (i0 ++ "b").length = i0.length + 1 := by rw [str_len, tl_app, List.length_append, tb, ← str_len]; rfl
  have inlett : lettB 2 (i0 ++ "b") = true := by
    rw [lett_app, li]
    unfold lettB
    rw [tb]; decide
  generalize i0 ++ "b" = inner at inl inlett ⊢
  have in0 : 0 < inner.length := by omega
  have in10 : inner.length ≤ 10 := by omega
  have inl3 : lettB 3 inner = true := lett_mono (by decide) inlett
  -- due
  refine ⟨_, rfl, p, g, sa, 30, rfl, P2, by decide, by decide, fun d3 H3 d30 d31 P3 e3 => ⟨_, _, rfl, rfl, mulOk_small (by omega) (by omega) (by decide), _, _, rfl, rfl, ?_, ?_⟩⟩
  · refine line _ ?_
    rw [str_len, tl_mul _ d30, len_rep, ta]
    show d3.toNat * 1 + 1 ≤ 1000
    omega
  have tA : (Txt.mul "a" d3 ++ "c").cps.toList = List.replicate d3.toNat 97 ++ [99] := by
    rw [tl_app, tl_mul _ d30, ta, tc]
    congr 1
    induction d3.toNat with
    | zero => rfl
    | succ n ih => rw [List.replicate_succ, List.flatten_cons, ih]; rfl
  generalize Txt.mul "a" d3 ++ "c" = A at tA ⊢
  have Al : A.length = d3.toNat + 1 := by rw [str_len, tA]; simp
  have Alett : lettB 3 A = true := by
    unfold lettB
    rw [tA, List.all_append]
    rw [Bool.and_eq_true]
    refine ⟨?_, by decide⟩
    rw [List.all_eq_true]
    intro c hc
    rw [List.eq_of_mem_replicate hc]; decide
  have Alast : A.cps.toList.getD (A.cps.toList.length - 1) 0 = 99 := by
    rw [tA, getD_app2 (by simp)]
    simp
  refine ⟨_, rfl, (by show 2 ≤ sizeLine; decide), fun dt ndt => ?_⟩
  have P4 := P3.upd (o := .tup [.str A, .str inner]) ndt
  have hdt : (upd H3 dt (.tup [.str A, .str inner])) dt = some (.tup [.str A, .str inner]) := upd_same
  have x3 : Sb p g H (upd H3 dt (.tup [.str A, .str inner])) := ((e1.trans e2).trans e3).trans (Sb.new ndt)
  generalize upd H3 dt (.tup [.str A, .str inner]) = H4 at P4 hdt x3 ⊢
  -- other, first
  refine ⟨_, rfl, dt, _, _, _, rfl, rfl, SqT.of hdt, rfl, _, rfl, _, rfl, _, rfl, _, rfl, line _ (by omega), p, g, sa, (inner.length : Int), rfl, P4, by omega, by omega, fun d4 H5 d40 d41 P5 e5 => ⟨_, rfl, _, rfl, line _ (by omega), _, _, rfl, rfl, ?_, ?_⟩⟩
  · exact line _ (by have := cutS_len inner none (some d4); omega)
  obtain ⟨d, rfl⟩ : ∃ d : Nat, d4 = (d : Int) := ⟨d4.toNat, by omega⟩
  have hd : d < inner.length := by omega
  have hdt5 := e5.tup P4 hdt
  have tcut := tl_cut_to (z := inner) (c := d)
  have lcut : (cutS inner none (some (d : Int))).length = d := by rw [str_len, tcut, List.length_take, ← str_len]; omega
  have tO : (A ++ cutS inner none (some (d : Int))).cps.toList = A.cps.toList ++ inner.cps.toList.take d := by rw [tl_app, tcut]
  have Ol : (A ++ cutS inner none (some (d : Int))).length = A.length + d := by rw [str_len, tl_app, List.length_append, ← str_len, ← str_len, lcut]
  have Olett : lettB 3 (A ++ cutS inner none (some (d : Int))) = true := by
    rw [lett_app, Alett, lett_cut (fun c hc => by rw [tcut] at hc; exact List.mem_of_mem_take hc) inl3]; rfl
  generalize A ++ cutS inner none (some (d : Int)) = O at tO Ol Olett ⊢
  refine ⟨(by show 2 ≤ sizeLine; decide), fun ot not => ?_⟩
  have hot : (upd H5 ot (.tup [.str O, .str ""])) ot = some (.tup [.str O, .str ""]) := upd_same
  have hdt6 := (Same.new (o := .tup [.str O, .str ""]) not) _ _ hdt5
  have P6 := P5.upd (o := .tup [.str O, .str ""]) not
  have x6 : Sb p g H (upd H5 ot (.tup [.str O, .str ""])) := (x3.trans e5).trans (Sb.new not)
  generalize upd H5 ot (.tup [.str O, .str ""]) = H6 at hot hdt6 P6 x6 ⊢
  -- at
  refine ⟨_, rfl, ot, _, _, _, rfl, rfl, SqT.of hot, rfl, _, rfl, line _ (by omega), _, rfl, dt, _, _, _, rfl, rfl, SqT.of hdt6, rfl, _, rfl, line _ (by omega), _, _, rfl, rfl, ?_⟩
  rw [show (fun i j : Int => V.int (i - j)) (O.length : Int) (A.length : Int) = V.int (d : Int) from congrArg V.int (by omega)]
  -- other
  refine ⟨_, rfl, ot, _, _, _, rfl, rfl, SqT.of hot, rfl, _, rfl, _, rfl, _, rfl, _, rfl, line _ (by omega), _, rfl, _, rfl, _, rfl, _, rfl, line _ (by omega), _, _, rfl, rfl, ?_, _, rfl, _, _, rfl, rfl, ?_, ?_⟩
  · exact line _ (by have q1 := cutS_len inner none (some (d : Int)); have q2 := cutS_len inner (some (d : Int)) none; omega)
  · have q1 := cutS_len inner none (some (d : Int))
    have q2 := cutS_len inner (some (d : Int)) none
    refine mulOk_small (by omega) (by omega) ?_
    rw [str_len, tl_app, List.length_append, ← str_len, ← str_len]
    omega
  have tw : (cutS inner (some (d : Int)) none ++ cutS inner none (some (d : Int))).cps.toList = inner.cps.toList.drop d ++ inner.cps.toList.take d := by rw [tl_app, tl_cut_from, tcut]
  have tR := tl_mul (cutS inner (some (d : Int)) none ++ cutS inner none (some (d : Int))) (n := 1 + ag) (by omega)
  rw [tw] at tR
  have wl : (inner.cps.toList.drop d ++ inner.cps.toList.take d).length = inner.length := by
    rw [List.length_append, List.length_drop, List.length_take, ← str_len]; omega
  generalize Txt.mul (cutS inner (some (d : Int)) none ++ cutS inner none (some (d : Int))) (1 + ag) = R at tR ⊢
  have Rl : R.length = (1 + ag).toNat * inner.length := by rw [str_len, tR, len_rep, wl]
  have R0 : 0 < R.length := by rw [Rl]; exact Nat.mul_pos (by omega) in0
  have R50 : R.length ≤ 50 := by
    rw [Rl]
    exact Nat.le_trans (Nat.mul_le_mul (show (1 + ag).toNat ≤ 5 by omega) in10) (by decide)
  have Rmem : ∀ c, c ∈ R.cps.toList → c ∈ inner.cps.toList := fun c hc => by
    rw [tR] at hc
    obtain ⟨l, hl, hcl⟩ := List.mem_flatten.mp hc
    rw [List.eq_of_mem_replicate hl] at hcl
    rcases List.mem_append.mp hcl with q | q
    · exact List.mem_of_mem_drop q
    · exact List.mem_of_mem_take q
  have Rlett : lettB 3 R = true := lett_cut Rmem inl3
  have hsg : ∀ i, Rnd.sg O.cps.toList R.cps.toList i = Rnd.sg A.cps.toList inner.cps.toList i := fun i => by
    rw [tO, tR, sg_rep (by rw [wl]; exact in0) (by omega)]
    exact sg_turn _ _ d (by rw [← str_len]; omega) i
  refine ⟨(by show 2 ≤ sizeLine; decide), fun o2 no2 => ?_⟩
  have ho2 : (upd H6 o2 (.tup [.str O, .str R])) o2 = some (.tup [.str O, .str R]) := upd_same
  have hdt7 := (Same.new (o := .tup [.str O, .str R]) no2) _ _ hdt6
  have P7 := P6.upd (o := .tup [.str O, .str R]) no2
  have x7 : Sb p g H (upd H6 o2 (.tup [.str O, .str R])) := x6.trans (Sb.new no2)
  generalize upd H6 o2 (.tup [.str O, .str R]) = H7 at ho2 hdt7 P7 x7 ⊢
  -- least
  refine ⟨fun v H' => ∃ (a : Addr) (u w : Str), v = .ref a ∧ H' a = some (.tup [.str u, .str w]) ∧ Least A inner u w ∧ Same H7 H', ?_, ?_⟩
  · refine ⟨_, rfl, dt, _, _, _, rfl, rfl, SqT.of hdt7, rfl, _, rfl, line _ (by omega), _, _, rfl, rfl, _, rfl, ?_⟩
    refine ite2 (fun hc => ?_) (fun hc => ?_)
    · have hc : A.length ≤ 12 := by have := of_decide_eq_true hc; omega
      exact ⟨_, rfl, .ref dt, .int 3, A, inner, rfl, .of hdt7 (by omega) (by omega) Alett inl3, hc, in10, fun u w a H' L ha s => ⟨a, u, w, rfl, ha, L, s⟩⟩
    · have hA : (1 : Int) = ((1 : Nat) : Int) := rfl
      refine ⟨_, rfl, 1, rfl, dt, _, rfl, SqT.of hdt7, (fun z => absurd z.2 (show ¬ (HT.sIx 2 2 (some 1) = 2) by decide)), fun _ t1 nt1 => ?_⟩
      have s1 := Same.new (o := .tup (cutV [.str A, .str inner] none (some 1))) nt1
      have h1 : (upd H7 t1 (.tup (cutV [.str A, .str inner] none (some 1)))) t1 = some (.tup [.str A]) := upd_same
      generalize upd H7 t1 (.tup (cutV [.str A, .str inner] none (some 1))) = H8 at s1 h1 ⊢
      refine ⟨_, rfl, (by show 2 ≤ sizeLine; decide), fun t2 nt2 => ?_⟩
      refine ⟨.ref t2, .int 3, "", inner, rfl, .of upd_same (by decide) (by omega) lett_empty inl3, by decide, in10, fun u w a H9 L ha s2 => ?_⟩
      refine ⟨a, _, _, _, rfl, rfl, SqT.of ha, rfl, (by show 1 ≤ sizeLine; decide), fun t3 nt3 => ?_⟩
      have s3 := (Same.new (o := .tup [.str "", .str inner]) nt2).trans s2
      have s4 := Same.new (o := .tup [.str w]) nt3
      refine ⟨t1, t3, _, _, rfl, rfl, SqT.of (s4 _ _ (s3 _ _ h1)), SqT.of upd_same, by simp, (by show 2 ≤ sizeLine; decide), (fun z => by cases z), fun _ t4 nt4 => ⟨t4, A, w, rfl, upd_same, ?_, ((s1.trans s3).trans s4).trans (Same.new nt4)⟩⟩
      rcases L with ⟨z, _⟩ | ⟨_, m, pp, C, e1', e2'⟩
      · omega
      rw [e0] at C e2'
      have q := canon_long (A := A.cps.toList) (c := 99) (by rw [← str_len]; exact in0) (fun j hj => by
        unfold lettB at inlett
        have e : inner.cps.toList.getD j 0 = inner.cps.toList[j] := by rw [List.getD_eq_getElem?_getD, List.getElem?_eq_getElem hj]; rfl
        have := of_decide_eq_true (List.all_eq_true.mp inlett _ (List.getElem_mem hj))
        rw [e]; omega) (by rw [← str_len]; omega) Alast C
      refine .inr ⟨in0, A.cps.toList.length, pp, q.1, ?_, ?_⟩
      · exact Rnd.list_seg fun i hi => by rw [Nat.zero_add, Rnd.sg_head hi]
      · rw [e2', q.2]
        unfold Rnd.seg
        refine List.map_congr_left fun i _ => ?_
        rw [Nat.zero_add, Rnd.sg_tail (Nat.zero_le _), Rnd.sg_tail (by omega), Nat.add_sub_cancel_left]; rfl
  rintro _ H8 ⟨la, lu, lw, rfl, hla, L, s8⟩
  have ho8 := s8 _ _ ho2
  have P8 := P7.keep s8
  have x8 : Sb p g H H8 := x7.trans s8.sb
  have Ll := L.lett Alett inl3
  have Llen := L.len
  have Lsg := L.sg in0
  have co : ∀ H', Same H8 H' → ConAt H' (.ref o2) O R := fun H' s => .of (s _ _ ho8) (by omega) (by omega) Olett Rlett
  have cl : ∀ H', Same H8 H' → ConAt H' (.ref la) lu lw := fun H' s => .of (s _ _ hla) (by omega) (by omega) Ll.1 Ll.2
  -- least_content(other) != least
  refine ⟨_, rfl, .ref o2, O, R, rfl, co _ (Same.refl _), by omega, by omega, fun u1 v1 a1 H9 L1 n1 h1 s9 => ?_⟩
  have eq1 := L1.uniq L R0 in0 hsg
  have l1 := L1.lett Olett Rlett
  refine ⟨_, rfl, _, _, dp_pair h1, dp_pair (s9 _ _ hla), shaped_pair l1.1 l1.2, shaped_pair Ll.1 Ll.2, _, rfl, ?_⟩
  rw [eqv_ne eq1]
  refine iteF ?_
  -- same_signs(other, least) is not True
  refine ⟨_, rfl, _, rfl, .ref o2, .ref la, O, R, lu, lw, rfl, co _ s9, cl _ s9, by omega, by omega, by omega, by omega, fun u v u' v' H10 M1 M2 s10 => ?_⟩
  have eq2 : u = u' ∧ v = v' := M1.uniq M2 R0 Lsg.1 fun i => by rw [hsg, Lsg.2]
  rw [decide_eq_true eq2]
  refine ⟨true, true, rfl, rfl, _, rfl, iteF ?_⟩
  have s10' := s9.trans s10
  -- same_signs(other, (other[0] + 'c', other[1])) is False
  have ho10 := s10' _ _ ho8
  refine ⟨_, rfl, _, rfl, o2, _, _, _, rfl, rfl, SqT.of ho10, rfl, _, _, rfl, rfl, (by show O.length + 1 ≤ sizeLine; exact line _ (by omega)), _, rfl, o2, _, _, _, rfl, rfl, SqT.of ho10, rfl, (by show 2 ≤ sizeLine; decide), fun t5 nt5 => ?_⟩
  have s11 := s10'.trans (Same.new (o := .tup [.str (O ++ "c"), .str R]) nt5)
  have h5 : (upd H10 t5 (.tup [.str (O ++ "c"), .str R])) t5 = some (.tup [.str (O ++ "c"), .str R]) := upd_same
  generalize upd H10 t5 (.tup [.str (O ++ "c"), .str R]) = H11 at s11 h5 ⊢
  have tOc : (O ++ "c").cps.toList = O.cps.toList ++ [99] := by rw [tl_app, tc]
  have lOc : (O ++ "c").length = O.length + 1 := by rw [str_len, tOc, List.length_append, ← str_len]; rfl
  have lettOc : lettB 3 (O ++ "c") = true := by
    rw [lett_app, Olett]
    unfold lettB
    rw [tc]; decide
  refine ⟨.ref o2, .ref t5, O, R, O ++ "c", R, rfl, co _ s11, .of h5 (by omega) (by omega) lettOc Rlett, by omega, by omega, by omega, by omega, fun u v u' v' H12 M3 M4 s12 => ?_⟩
  have ne3 : ¬ (u = u' ∧ v = v') := fun ⟨e1', e2'⟩ => by
    subst e1' e2'
    have q := ((M3.sg R0).2 O.cps.toList.length).symm.trans ((M4.sg R0).2 O.cps.toList.length)
    rw [Rnd.sg_tail (Nat.le_refl _), Nat.sub_self, Nat.zero_mod, tOc, Rnd.sg_head (by simp), getD_app2 (Nat.le_refl _), Nat.sub_self] at q
    have hm : R.cps.toList.getD 0 0 ∈ R.cps.toList := by
      have : 0 < R.cps.toList.length := by rw [← str_len]; exact R0
      rw [List.getD_eq_getElem?_getD, List.getElem?_eq_getElem this]
      exact List.getElem_mem this
    have := List.all_eq_true.mp inlett _ (Rmem _ hm)
    have := of_decide_eq_true this
    rw [q] at this
    simp at this
  rw [decide_eq_false ne3]
  refine ⟨false, false, rfl, rfl, _, rfl, iteT ?_⟩
  -- same_signs(other, (other[0], '')) is False
  have s12' := s11.trans s12
  have ho12 := s12' _ _ ho8
  refine ⟨_, rfl, _, rfl, o2, _, _, _, rfl, rfl, SqT.of ho12, rfl, (by show 2 ≤ sizeLine; decide), fun t6 nt6 => ?_⟩
  have s13 := s12'.trans (Same.new (o := .tup [.str O, .str ""]) nt6)
  have h6 : (upd H12 t6 (.tup [.str O, .str ""])) t6 = some (.tup [.str O, .str ""]) := upd_same
  generalize upd H12 t6 (.tup [.str O, .str ""]) = H13 at s13 h6 ⊢
  refine ⟨.ref o2, .ref t6, O, R, O, "", rfl, co _ s13, .of h6 (by omega) (by decide) Olett lett_empty, by omega, by omega, by omega, by decide, fun u v u' v' H14 M5 M6 s14 => ?_⟩
  have ne5 : ¬ (u = u' ∧ v = v') := fun ⟨e1', e2'⟩ => by
    subst e1' e2'
    have q1 := (M5.sg R0).1
    rcases M6 with ⟨_, _, z⟩ | ⟨z, _⟩
    · rw [z] at q1
      exact absurd q1 (by decide)
    · exact absurd z (by decide)
  rw [decide_eq_false ne5]
  exact ⟨false, false, rfl, rfl, k H14 (P8.keep (s13.trans s14)) (x8.trans (s13.trans s14).sb)⟩
theorem Least.uniq0 {h r u v u' v' : Str} (l : Least h r u v) (l' : Least h r u' v') : u = u' ∧ v = v' := by
  by_cases r0 : 0 < r.length
  · exact l.uniq l' r0 r0 fun _ => rfl
  · rcases l with ⟨_, rfl, rfl⟩ | ⟨z, _⟩
    · rcases l' with ⟨_, rfl, rfl⟩ | ⟨z, _⟩
      · exact ⟨rfl, rfl⟩
      · omega
    · omega
theorem Least.same {h r h' r' u v u' v' : Str} (s : SameSg h r h' r') (l : Least h r u v) (l' : Least h' r' u' v') : u = u' ∧ v = v' := by
  rcases s with ⟨_, rfl, rfl⟩ | ⟨r0, r0', e⟩
  · exact l.uniq0 l'
  · exact l.uniq l' r0 r0' fun i => (e i).symm
theorem sign_ne_end {h r : Str} {i : Nat} (hr : 0 < r.length ∨ i < h.length) : signS h r (i : Int) ≠ "end" := by
  intro e
  have : (signS h r (i : Int)).length = 1 := by
    by_cases r0 : 0 < r.length
    · rw [signS_sg r0]; rfl
    · rcases hr with z | z
      · omega
      · unfold signS
        rw [if_pos (by omega)]; rfl
  rw [e] at this
  exact absurd this (by decide)
theorem sgs_at {h r h' r' : Str} {n i : Nat} (e : sgs h r n = sgs h' r' n) (hi : i < n) : signS h r (i : Int) = signS h' r' (i : Int) := by
  unfold sgs at e
  rw [List.map_inj_left] at e
  exact e i (List.mem_range.mpr hi)
theorem told_iff {h r h' r' u v u' v' : Str} (l : Least h r u v) (l' : Least h' r' u' v') (h1 : h.length ≤ 5) (r1 : r.length ≤ 4) (h2 : h'.length ≤ 5) (r2 : r'.length ≤ 4) : decide (u = u' ∧ v = v') = decide (sgs h r 60 = sgs h' r' 60) := by
  have zero : ∀ z : Str, z.length = 0 → z = "" := fun z hz => by
    have e0 : (("" : Str)).cps.toList = [] := by decide +kernel
    rw [str_len] at hz
    exact str_eq.mpr (by rw [e0]; exact List.length_eq_zero_iff.mp hz)
  apply decide_eq_decide.mpr
  by_cases r0 : 0 < r.length
  · by_cases r0' : 0 < r'.length
    · constructor
      · rintro ⟨rfl, rfl⟩
        rw [sgs_eq r0' r0]
        intro i _
        rw [← (l.sg r0).2 i, ← (l'.sg r0').2 i]
      · intro e
        refine l.uniq l' r0 r0' ?_
        exact Rnd.agree (N := 10) (by rw [← str_len]; exact r0) (by rw [← str_len]; exact r0') (Rnd.sg_per _ _) (Rnd.sg_per _ _) (by rw [← str_len]; omega) (by rw [← str_len]; omega) fun i hi => (sgs_eq r0' r0).mp e i (by rw [← str_len, ← str_len] at hi; omega)
    · constructor
      · rintro ⟨rfl, rfl⟩
        have q := (l.sg r0).1
        rcases l' with ⟨z, _, rfl⟩ | ⟨z, _⟩ <;> omega
      · intro e
        have := sgs_at e (i := h'.length) (by omega)
        rw [signS_end (h := h') (by omega) (by omega)] at this
        exact absurd this (sign_ne_end (.inl r0))
  · by_cases r0' : 0 < r'.length
    · constructor
      · rintro ⟨rfl, rfl⟩
        have q := (l'.sg r0').1
        rcases l with ⟨z, _, rfl⟩ | ⟨z, _⟩ <;> omega
      · intro e
        have := sgs_at e (i := h.length) (by omega)
        rw [signS_end (h := h) (by omega) (by omega)] at this
        exact absurd this.symm (sign_ne_end (.inl r0'))
    · have er := zero r (by omega)
      have er' := zero r' (by omega)
      rcases l with ⟨_, rfl, rfl⟩ | ⟨z, _⟩
      · rcases l' with ⟨_, rfl, rfl⟩ | ⟨z, _⟩
        · constructor
          · rintro ⟨rfl, rfl⟩; rfl
          · intro e
            have hl : u.length = u'.length := by
              rcases Nat.lt_trichotomy u.length u'.length with q | q | q
              · have := sgs_at e (i := u.length) (by omega)
                rw [signS_end (h := u) (by omega) (by omega)] at this
                exact absurd this.symm (sign_ne_end (.inr q))
              · exact q
              · have := sgs_at e (i := u'.length) (by omega)
                rw [signS_end (h := u') (by omega) (by omega)] at this
                exact absurd this (sign_ne_end (.inr q))
            refine ⟨str_eq.mpr (List.ext_getElem (by rw [← str_len, ← str_len]; exact hl) fun i i1 i2 => ?_), er.trans er'.symm⟩
            have := sgs_at e (i := i) (by rw [← str_len] at i1; omega)
            rw [← str_len] at i1 i2
            unfold signS at this
            rw [if_pos (by omega), if_pos (by omega), Int.toNat_natCast] at this
            have := congrArg (fun s : Str => s.cps.toList) this
            rw [str_len] at i1 i2
            simpa [List.getD_eq_getElem?_getD, List.getElem?_eq_getElem i1, List.getElem?_eq_getElem i2] using this
        · omega
      · omega
theorem dec_bool {a b : Bool} (h : a = b) : (!decide (V.bl a = V.bl b)) = false := by
  rw [h]; simp
def spLaw (K : PySem.W.Frag) : Sp := fun vs H Q _ => ∃ (a : Addr) (ns : List Int), vs = [.ref a] ∧ SqL K H a (ns.map V.int) ∧ ns.length ≤ 63 ∧ ∀ H', Q (.bl true) H'
theorem sc_law : FnScope N_law ["script"] (defScope s_law) := ⟨rfl, rfl, rfl, by decide +kernel, rfl, by decide +kernel, by decide +kernel⟩
theorem ok_law {f : Addr} {fd : FuncData} (F : Fun K "law" "law" s_law f fd) (T : Txt P K mg a) (G__law_pot : DefOk P w K mg base "_law_pot" 1 ["script"] (spPot K)) (G__law_least : DefOk P w K mg base "_law_least" 3 ["content", "letters"] (spLawLeast)) (G__law_written : DefOk P w K mg base "_law_written" 2 ["pot", "content"] (spWritten)) (G_same_signs : DefOk P w K mg base "same_signs" 6 ["content", "second"] (spSameSigns)) (G__law_draw : DefOk P w K mg base "_law_draw" 1 ["pot", "many"] (spDraw)) (G__law_long_right : DefOk P w K mg base "_law_long_right" 7 ["pot"] (spLong)) (G__law_string : DefOk P w K mg base "_law_string" 2 ["pot", "letters", "most"] (spString)) (G_least_content : DefOk P w K mg base "least_content" 5 ["content"] (spLeastContent)) (G__law_first : DefOk P w K mg base "_law_first" 2 ["content", "many"] (spFirst)) : FnOk P w K mg base (L2.CX P w) 8 f fd ["script"] (spLaw K) := by
  have S := sc_law
  refine F.okX S (fun vs H Q E h => ?_) (fun cdv A outer s H vs Q E hr h => ?_)
  · obtain ⟨x, o, rfl, _⟩ := h; rfl
  have hu := hu_of hr
  obtain ⟨ad, ns, rfl, hS, hl, k⟩ := h
  refine ⟨_, ((pss_cons (ps_set (i := 1) S.nd rfl (Or.inl rfl) (pe_d G__law_pot hr rfl (pa_cons (pv 0) pa_nil)))
      (pss_cons (ps_mid (ps_if (PW.pt (pw_and (pt_cmpR op_eq (pe_d G__law_draw hr rfl (pa_cons (pv 1) (pa_cons pe_int pa_nil))) pe_int (nomark _)) (pw_and1 (pt_not (pt_val (pe_d G__law_long_right hr rfl (pa_cons (pv 1) pa_nil))))))) (pss_one (ps_ret pe_bl)) pss_nil))
      (pss_cons (ps_for (passes_of rfl) rfl (pi_range1 rfl T.range (pa_cons pe_int pa_nil)) (pg_name (i := 2) S.nd rfl (by first | exact Or.inl rfl | exact Or.inr rfl)) (pss_cons (ps_set (i := 3) S.nd rfl (Or.inl rfl) (pe_op op_add pe_int (pe_d G__law_draw hr rfl (pa_cons (pv 1) (pa_cons pe_int pa_nil)))))
          (pss_cons (ps_set (i := 4) S.nd rfl (Or.inl rfl) (pe_tup (pa_cons (pe_d G__law_string hr rfl (pa_cons (pv 1) (pa_cons (pv 3) (pa_cons pe_int pa_nil)))) (pa_cons (pe_mid (pe_ifExp (pt_cmpR op_gt (pe_d G__law_draw hr rfl (pa_cons (pv 1) (pa_cons pe_int pa_nil))) pe_int (nomark _)) (pe_d G__law_string hr rfl (pa_cons (pv 1) (pa_cons (pv 3) (pa_cons pe_int pa_nil)))) pe_str)) pa_nil))))
          (pss_cons (ps_set (i := 5) S.nd rfl (Or.inl rfl) (pe_d G__law_least hr rfl (pa_cons (pv 4) (pa_cons (pv 3) pa_nil))))
          (pss_cons (ps_set (i := 6) S.nd rfl (Or.inl rfl) (pe_d G__law_written hr rfl (pa_cons (pv 1) (pa_cons (pv 4) pa_nil))))
          (pss_cons (ps_if (PW.pt (pw_or (pt_cmpR (op_neD hr.units) (pe_d G_least_content hr rfl (pa_cons (pv 4) pa_nil)) (pv 5) (nomark _)) (pw_or (pt_cmpR (op_neD hr.units) (pe_d G_least_content hr rfl (pa_cons (pv 6) pa_nil)) (pv 5) (nomark _)) (pw_or1 (pt_cmpR op_notBl (pe_d G_same_signs hr rfl (pa_cons (pv 4) (pa_cons (pv 6) pa_nil))) pe_bl (nomark _)))))) (pss_one (ps_ret pe_bl)) pss_nil)
          (pss_cons (ps_set (i := 7) S.nd rfl (Or.inl rfl) (pe_tup (pa_cons (pe_d G__law_string hr rfl (pa_cons (pv 1) (pa_cons (pv 3) (pa_cons pe_int pa_nil)))) (pa_cons (pe_mid (pe_ifExp (pt_cmpR op_gt (pe_d G__law_draw hr rfl (pa_cons (pv 1) (pa_cons pe_int pa_nil))) pe_int (nomark _)) (pe_d G__law_string hr rfl (pa_cons (pv 1) (pa_cons (pv 3) (pa_cons pe_int pa_nil)))) pe_str)) pa_nil))))
          (pss_cons (ps_set (i := 8) S.nd rfl (Or.inl rfl) (pe_d G_same_signs hr rfl (pa_cons (pv 4) (pa_cons (pv 7) pa_nil))))
          (pss_cons (ps_if (PW.pt (pw_or (pt_not (pt_val (pe_callB call_isi (by rfl) T.isinstance (by decide +kernel) (pa_cons (pv 8) (pa_cons (pe_bltn (v := .ty "bool") (by rfl) T.bool (by decide +kernel) rfl) pa_nil))))) (pw_or1 (pt_cmpR op_ne (pv 8) (pe_cmpR (op_eqD hr.units) (pe_d G__law_first hr rfl (pa_cons (pv 4) (pa_cons pe_int pa_nil))) (pe_d G__law_first hr rfl (pa_cons (pv 7) (pa_cons pe_int pa_nil))) (nomark _)) (nomark _))))) (pss_one (ps_ret pe_bl)) pss_nil)
          (pss_one (ps_if (pt_cmpR (op_neD hr.units) (pe_d G_least_content hr rfl (pa_cons (pv 5) pa_nil)) (pv 5) (nomark _)) (pss_one (ps_ret pe_bl)) pss_nil)))))))))))
      (pss_one (ps_ret pe_bl)))))), ?_⟩
  refine ⟨_, rfl, ad, ns, rfl, hS, hl, fun p g sa H1 np ng nsa P1 s1 => ?_⟩
  refine ⟨fun σ' H' => PotAt H' p g sa ∧ σ' = [some (.ref ad), some (.ref p), none, none, none, none, none, none, none], ?_, ?_⟩
  · refine ⟨_, rfl, p, g, sa, 8, rfl, P1, by decide, by decide, fun d H2 d0 d1 P2 e2 => ⟨rfl, _, rfl, ?_⟩⟩
    refine ite2 (fun _ => ?_) (fun _ => iteF ⟨P2, rfl⟩)
    exact ⟨_, rfl, p, g, sa, rfl, P2, fun H3 P3 e3 => ⟨_, rfl, iteF ⟨P3, rfl⟩⟩⟩
  rintro _ H2 ⟨P2, rfl⟩
  clear P1 s1
  refine ⟨4, rfl, by decide, by decide, ?_⟩
  refine for_range (lo := 0) (n := 4) (fun i σ H2 => PotAt H2 p g sa ∧ ∃ v2 v3 v4 v5 v6 v7 v8, σ = [some (.ref ad), some (.ref p), v2, v3, v4, v5, v6, v7, v8]) ⟨P2, _, _, _, _, _, _, _, rfl⟩ ?_ ?_
  · rintro i σ H2 hi ⟨P2, v2, v3, v4, v5, v6, v7, v8, rfl⟩
    have line : ∀ n : Nat, n ≤ 1000 → n ≤ sizeLine := fun n h => Nat.le_trans h (by decide)
    -- letters, content
    refine ⟨_, rfl, p, g, sa, 3, rfl, P2, by decide, by decide, fun l0 H3 l1 l2 P3 e3 => ⟨_, _, rfl, rfl, ?_⟩⟩
    refine ⟨_, rfl, _, rfl, p, g, sa, 1 + l0, 5, rfl, P3, by omega, by omega, by decide, by decide, fun h H4 hh hh5 P4 e4 => ?_⟩
    refine ⟨fun v H' => ∃ r, v = .str r ∧ lettB (1 + l0) r = true ∧ (r.length : Int) ≤ 4 ∧ PotAt H' p g sa, ?_, ?_⟩
    · refine ⟨_, rfl, p, g, sa, 4, rfl, P4, by decide, by decide, fun d H5 d1 d2 P5 e5 => ⟨_, _, rfl, rfl, _, rfl, ?_⟩⟩
      refine ite2 (fun _ => ?_) (fun _ => ⟨"", rfl, lett_empty, by decide, P5⟩)
      exact ⟨_, rfl, _, rfl, p, g, sa, 1 + l0, 4, rfl, P5, by omega, by omega, by decide, by decide, fun r H6 hr hr4 P6 e6 => ⟨r, rfl, hr, hr4, P6⟩⟩
    rintro _ H5 ⟨r, rfl, hr, hr4, P5⟩
    have hh3 : lettB 3 h = true := lett_mono (by omega) hh
    have hr3 : lettB 3 r = true := lett_mono (by omega) hr
    refine ⟨by show 2 ≤ sizeLine; decide, fun ct nct => ?_⟩
    have P6 := P5.upd (o := .tup [.str h, .str r]) nct
    have hct : (upd H5 ct (.tup [.str h, .str r])) ct = some (.tup [.str h, .str r]) := upd_same
    generalize upd H5 ct (.tup [.str h, .str r]) = H6 at P6 hct ⊢
    -- due
    refine ⟨_, rfl, _, rfl, .ref ct, _, h, r, rfl, .of hct (by omega) (by omega) hh3 hr3, by omega, by omega, fun u v dt H7 L hdt s7 => ?_⟩
    have P7 := P6.keep s7
    have hct7 := s7 _ _ hct
    have Ll := L.lett hh3 hr3
    have Le := L.len
    -- other
    refine ⟨_, rfl, _, rfl, p, g, sa, .ref ct, h, r, rfl, P7, .of hct7 (by omega) (by omega) hh3 hr3, by omega, by omega, fun ot h' r' H8 cot h'l r'l ss P8 e8 => ?_⟩
    have hct8 := e8.tup P7 hct7
    have hdt8 := e8.tup P7 hdt
    have hc : ∀ H', Same H8 H' → ConAt H' (.ref ct) h r := fun H' s => .of (s _ _ hct8) (by omega) (by omega) hh3 hr3
    have hd : ∀ H', Same H8 H' → ConAt H' (.ref dt) u v := fun H' s => .of (s _ _ hdt8) (by omega) (by omega) Ll.1 Ll.2
    have hl' : lettB 3 h' = true ∧ lettB 3 r' = true := by
      obtain ⟨_, _, _, _, _, a, b⟩ := cot
      exact ⟨a, b⟩
    -- least_content(content) != due
    refine ⟨_, rfl, .ref ct, h, r, rfl, hc _ (Same.refl _), by omega, by omega, fun u1 v1 a1 H9 L1 n1 w1 s9 => ?_⟩
    have l1 := L1.lett hh3 hr3
    refine ⟨_, rfl, _, _, dp_pair w1, dp_pair (s9 _ _ hdt8), shaped_pair l1.1 l1.2, shaped_pair Ll.1 Ll.2, _, rfl, ?_⟩
    rw [eqv_ne (L1.uniq0 L)]
    refine iteF ?_
    -- least_content(other) != due
    refine ⟨_, rfl, .ref ot, h', r', rfl, cot.keep s9, by omega, by omega, fun u2 v2 a2 H10 L2 n2 w2 s10 => ?_⟩
    have l2' := L2.lett hl'.1 hl'.2
    have s10' := s9.trans s10
    refine ⟨_, rfl, _, _, dp_pair w2, dp_pair (s10' _ _ hdt8), shaped_pair l2'.1 l2'.2, shaped_pair Ll.1 Ll.2, _, rfl, ?_⟩
    have q2 := L.same ss L2
    rw [eqv_ne ⟨q2.1.symm, q2.2.symm⟩]
    refine iteF ?_
    -- same_signs(content, other) is not True
    refine ⟨_, rfl, _, rfl, .ref ct, .ref ot, h, r, h', r', rfl, hc _ s10', cot.keep s10', by omega, by omega, by omega, by omega, fun m1 m2 m3 m4 H11 M1 M2 s11 => ?_⟩
    rw [decide_eq_true (M1.same ss M2)]
    refine ⟨true, true, rfl, rfl, _, rfl, iteF ?_⟩
    have s11' := s10'.trans s11
    have P11 := P8.keep s11'
    -- second
    refine ⟨_, rfl, _, rfl, p, g, sa, 1 + l0, 5, rfl, P11, by omega, by omega, by decide, by decide, fun y H12 hy hy5 P12 e12 => ?_⟩
    refine ⟨fun v H' => ∃ z, v = .str z ∧ lettB (1 + l0) z = true ∧ (z.length : Int) ≤ 4 ∧ PotAt H' p g sa ∧ Sb p g H12 H', ?_, ?_⟩
    · refine ⟨_, rfl, p, g, sa, 2, rfl, P12, by decide, by decide, fun d H5 d1 d2 P5 e5 => ⟨_, _, rfl, rfl, _, rfl, ?_⟩⟩
      refine ite2 (fun _ => ?_) (fun _ => ⟨"", rfl, lett_empty, by decide, P5, e5⟩)
      exact ⟨_, rfl, _, rfl, p, g, sa, 1 + l0, 4, rfl, P5, by omega, by omega, by decide, by decide, fun r H6 hr hr4 P6 e6 => ⟨r, rfl, hr, hr4, P6, e5.trans e6⟩⟩
    rintro _ H13 ⟨z, rfl, hz, hz4, P13, e13⟩
    have hy3 : lettB 3 y = true := lett_mono (by omega) hy
    have hz3 : lettB 3 z = true := lett_mono (by omega) hz
    have hct13 := (e12.trans e13).tup P11 (s11' _ _ hct8)
    have hdt13 := (e12.trans e13).tup P11 (s11' _ _ hdt8)
    refine ⟨by show 2 ≤ sizeLine; decide, fun st nst => ?_⟩
    have s14 := Same.new (o := .tup [.str y, .str z]) nst
    have hst : (upd H13 st (.tup [.str y, .str z])) st = some (.tup [.str y, .str z]) := upd_same
    have P14 := P13.keep s14
    have hct14 := s14 _ _ hct13
    have hdt14 := s14 _ _ hdt13
    generalize upd H13 st (.tup [.str y, .str z]) = H14 at s14 hst P14 hct14 hdt14 ⊢
    have hc : ∀ H', Same H14 H' → ConAt H' (.ref ct) h r := fun H' s => .of (s _ _ hct14) (by omega) (by omega) hh3 hr3
    have hsd : ∀ H', Same H14 H' → ConAt H' (.ref st) y z := fun H' s => .of (s _ _ hst) (by omega) (by omega) hy3 hz3
    -- told
    refine ⟨_, rfl, _, rfl, .ref ct, .ref st, h, r, y, z, rfl, hc _ (Same.refl _), hsd _ (Same.refl _), by omega, by omega, by omega, by omega, fun m1 m2 m3 m4 H15 M1 M2 s15 => ?_⟩
    have hb : decide (m1 = m3 ∧ m2 = m4) = decide (sgs h r (Int.toNat 60) = sgs y z (Int.toNat 60)) := told_iff M1 M2 (by omega) (by omega) (by omega) (by omega)
    refine ⟨_, rfl, _, _, _, _, true, rfl, .ty _, .base (.bl _), kit_ty (by decide +kernel), _, rfl, iteF ?_⟩
    refine ⟨_, rfl, _, rfl, .ref ct, h, r, 60, rfl, hc _ s15, by decide, by decide, fun w1 H16 nw1 hw1 s16 => ?_⟩
    refine ⟨_, rfl, .ref st, y, z, 60, rfl, hsd _ (s15.trans s16), by decide, by decide, fun w2 H17 nw2 hw2 s17 => ?_⟩
    refine ⟨_, _, .lst (SqL.of (s17 _ _ hw1)) (dpAll_strs _), .lst (SqL.of hw2) (dpAll_strs _), shaped_strs (sgs_ok hh3 hr3), shaped_strs (sgs_ok hy3 hz3), rfl, _, rfl, ?_⟩
    rw [eqv_strs, dec_bool hb]
    refine iteF ?_
    -- least_content(due) != due
    have s17' := (s15.trans s16).trans s17
    refine ⟨_, rfl, .ref dt, u, v, rfl, .of (s17' _ _ hdt14) (by omega) (by omega) Ll.1 Ll.2, by omega, by omega, fun u3 v3 a3 H18 L3 n3 w3 s18 => ?_⟩
    have l3 := L3.lett Ll.1 Ll.2
    have q3 : u3 = u ∧ v3 = v := by
      by_cases r0 : 0 < r.length
      · have q := L.sg r0
        exact L3.uniq L q.1 r0 q.2
      · rcases L with ⟨_, rfl, rfl⟩ | ⟨q, _⟩
        · rcases L3 with ⟨_, rfl, rfl⟩ | ⟨q, _⟩
          · exact ⟨rfl, rfl⟩
          · omega
        · omega
    refine ⟨_, rfl, _, _, dp_pair w3, dp_pair (s18 _ _ (s17' _ _ hdt14)), shaped_pair l3.1 l3.2, shaped_pair Ll.1 Ll.2, _, rfl, ?_⟩
    rw [eqv_ne q3]
    exact iteF ⟨P14.keep (s17'.trans s18), _, _, _, _, _, _, _, rfl⟩
  · rintro σ H2 _
    exact k H2
end
theorem all_mk {l : PySem.W.OpenLaw} (hP : l.prog = PySem.Challenge.pw_wholewalks_k02_whole_least_contents) {w : World} {K : PySem.W.Frag} {h : Heap} {mg : Str → Option Value} {fa : Addr} {f_is_tuple_of f_is_lettered f_shortest_round f_shortest f_is_content_of f_is_content f_need_content f_least_content f_same_signs f__law_pot f__law_draw f__law_string f__law_sign f__law_first f__law_least f__law_written f__law_long_right f_law A_NoContent : Addr} (X : K.In h) (G : h.Ns mainGlobals mg) (hfa : mg "law" = some (.ref fa))
    {od_is_tuple_of an_is_tuple_of od_is_lettered an_is_lettered od_shortest_round an_shortest_round od_shortest an_shortest od_is_content_of an_is_content_of od_is_content an_is_content od_need_content an_need_content od_least_content an_least_content od_same_signs an_same_signs od__law_pot an__law_pot od__law_draw an__law_draw od__law_string an__law_string od__law_sign an__law_sign od__law_first an__law_first od__law_least an__law_least od__law_written an__law_written od__law_long_right an__law_long_right od_law an_law : Option Addr} {sl_is_tuple_of sl_is_lettered sl_shortest_round sl_shortest sl_is_content_of sl_is_content sl_need_content sl_least_content sl_same_signs sl__law_pot sl__law_draw sl__law_string sl__law_sign sl__law_first sl__law_least sl__law_written sl__law_long_right sl_law : Array (Option Value)}
    {oc_is_tuple_of kV_is_tuple_of dc_is_tuple_of pm_is_tuple_of cd_is_tuple_of ct_is_tuple_of oc_is_lettered kV_is_lettered dc_is_lettered pm_is_lettered cd_is_lettered ct_is_lettered oc_shortest_round kV_shortest_round dc_shortest_round pm_shortest_round cd_shortest_round ct_shortest_round oc_shortest kV_shortest dc_shortest pm_shortest cd_shortest ct_shortest oc_is_content_of kV_is_content_of dc_is_content_of pm_is_content_of cd_is_content_of ct_is_content_of oc_is_content kV_is_content dc_is_content pm_is_content cd_is_content ct_is_content oc_need_content kV_need_content dc_need_content pm_need_content cd_need_content ct_need_content oc_least_content kV_least_content dc_least_content pm_least_content cd_least_content ct_least_content oc_same_signs kV_same_signs dc_same_signs pm_same_signs cd_same_signs ct_same_signs oc__law_pot kV__law_pot dc__law_pot pm__law_pot cd__law_pot ct__law_pot oc__law_draw kV__law_draw dc__law_draw pm__law_draw cd__law_draw ct__law_draw oc__law_string kV__law_string dc__law_string pm__law_string cd__law_string ct__law_string oc__law_sign kV__law_sign dc__law_sign pm__law_sign cd__law_sign ct__law_sign oc__law_first kV__law_first dc__law_first pm__law_first cd__law_first ct__law_first oc__law_least kV__law_least dc__law_least pm__law_least cd__law_least ct__law_least oc__law_written kV__law_written dc__law_written pm__law_written cd__law_written ct__law_written oc__law_long_right kV__law_long_right dc__law_long_right pm__law_long_right cd__law_long_right ct__law_long_right oc_law kV_law dc_law pm_law cd_law ct_law : Value}
    (a_is_tuple_of : PySem.W.nsIn K mainGlobals "is_tuple_of" = some (some (.ref f_is_tuple_of))) (l_is_tuple_of : K.lookup f_is_tuple_of = some ⟨oc_is_tuple_of, od_is_tuple_of, .func (PySem.W.fnOf "is_tuple_of" "is_tuple_of" (defArgs s_is_tuple_of) (defBody s_is_tuple_of) (defScope s_is_tuple_of) .none kV_is_tuple_of dc_is_tuple_of pm_is_tuple_of an_is_tuple_of cd_is_tuple_of ct_is_tuple_of), sl_is_tuple_of⟩) (c_is_tuple_of : PySem.W.codeIn K cd_is_tuple_of "is_tuple_of" = true) (k_is_tuple_of : PySem.W.keepIn K (.ref f_is_tuple_of) = true)
    (a_is_lettered : PySem.W.nsIn K mainGlobals "is_lettered" = some (some (.ref f_is_lettered))) (l_is_lettered : K.lookup f_is_lettered = some ⟨oc_is_lettered, od_is_lettered, .func (PySem.W.fnOf "is_lettered" "is_lettered" (defArgs s_is_lettered) (defBody s_is_lettered) (defScope s_is_lettered) .none kV_is_lettered dc_is_lettered pm_is_lettered an_is_lettered cd_is_lettered ct_is_lettered), sl_is_lettered⟩) (c_is_lettered : PySem.W.codeIn K cd_is_lettered "is_lettered" = true) (k_is_lettered : PySem.W.keepIn K (.ref f_is_lettered) = true)
    (a_shortest_round : PySem.W.nsIn K mainGlobals "shortest_round" = some (some (.ref f_shortest_round))) (l_shortest_round : K.lookup f_shortest_round = some ⟨oc_shortest_round, od_shortest_round, .func (PySem.W.fnOf "shortest_round" "shortest_round" (defArgs s_shortest_round) (defBody s_shortest_round) (defScope s_shortest_round) .none kV_shortest_round dc_shortest_round pm_shortest_round an_shortest_round cd_shortest_round ct_shortest_round), sl_shortest_round⟩) (c_shortest_round : PySem.W.codeIn K cd_shortest_round "shortest_round" = true) (k_shortest_round : PySem.W.keepIn K (.ref f_shortest_round) = true)
    (a_shortest : PySem.W.nsIn K mainGlobals "shortest" = some (some (.ref f_shortest))) (l_shortest : K.lookup f_shortest = some ⟨oc_shortest, od_shortest, .func (PySem.W.fnOf "shortest" "shortest" (defArgs s_shortest) (defBody s_shortest) (defScope s_shortest) .none kV_shortest dc_shortest pm_shortest an_shortest cd_shortest ct_shortest), sl_shortest⟩) (c_shortest : PySem.W.codeIn K cd_shortest "shortest" = true) (k_shortest : PySem.W.keepIn K (.ref f_shortest) = true)
    (a_is_content_of : PySem.W.nsIn K mainGlobals "is_content_of" = some (some (.ref f_is_content_of))) (l_is_content_of : K.lookup f_is_content_of = some ⟨oc_is_content_of, od_is_content_of, .func (PySem.W.fnOf "is_content_of" "is_content_of" (defArgs s_is_content_of) (defBody s_is_content_of) (defScope s_is_content_of) .none kV_is_content_of dc_is_content_of pm_is_content_of an_is_content_of cd_is_content_of ct_is_content_of), sl_is_content_of⟩) (c_is_content_of : PySem.W.codeIn K cd_is_content_of "is_content_of" = true) (k_is_content_of : PySem.W.keepIn K (.ref f_is_content_of) = true)
    (a_is_content : PySem.W.nsIn K mainGlobals "is_content" = some (some (.ref f_is_content))) (l_is_content : K.lookup f_is_content = some ⟨oc_is_content, od_is_content, .func (PySem.W.fnOf "is_content" "is_content" (defArgs s_is_content) (defBody s_is_content) (defScope s_is_content) .none kV_is_content dc_is_content pm_is_content an_is_content cd_is_content ct_is_content), sl_is_content⟩) (c_is_content : PySem.W.codeIn K cd_is_content "is_content" = true) (k_is_content : PySem.W.keepIn K (.ref f_is_content) = true)
    (a_need_content : PySem.W.nsIn K mainGlobals "need_content" = some (some (.ref f_need_content))) (l_need_content : K.lookup f_need_content = some ⟨oc_need_content, od_need_content, .func (PySem.W.fnOf "need_content" "need_content" (defArgs s_need_content) (defBody s_need_content) (defScope s_need_content) .none kV_need_content dc_need_content pm_need_content an_need_content cd_need_content ct_need_content), sl_need_content⟩) (c_need_content : PySem.W.codeIn K cd_need_content "need_content" = true) (k_need_content : PySem.W.keepIn K (.ref f_need_content) = true)
    (a_least_content : PySem.W.nsIn K mainGlobals "least_content" = some (some (.ref f_least_content))) (l_least_content : K.lookup f_least_content = some ⟨oc_least_content, od_least_content, .func (PySem.W.fnOf "least_content" "least_content" (defArgs s_least_content) (defBody s_least_content) (defScope s_least_content) .none kV_least_content dc_least_content pm_least_content an_least_content cd_least_content ct_least_content), sl_least_content⟩) (c_least_content : PySem.W.codeIn K cd_least_content "least_content" = true) (k_least_content : PySem.W.keepIn K (.ref f_least_content) = true)
    (a_same_signs : PySem.W.nsIn K mainGlobals "same_signs" = some (some (.ref f_same_signs))) (l_same_signs : K.lookup f_same_signs = some ⟨oc_same_signs, od_same_signs, .func (PySem.W.fnOf "same_signs" "same_signs" (defArgs s_same_signs) (defBody s_same_signs) (defScope s_same_signs) .none kV_same_signs dc_same_signs pm_same_signs an_same_signs cd_same_signs ct_same_signs), sl_same_signs⟩) (c_same_signs : PySem.W.codeIn K cd_same_signs "same_signs" = true) (k_same_signs : PySem.W.keepIn K (.ref f_same_signs) = true)
    (a__law_pot : PySem.W.nsIn K mainGlobals "_law_pot" = some (some (.ref f__law_pot))) (l__law_pot : K.lookup f__law_pot = some ⟨oc__law_pot, od__law_pot, .func (PySem.W.fnOf "_law_pot" "_law_pot" (defArgs s__law_pot) (defBody s__law_pot) (defScope s__law_pot) .none kV__law_pot dc__law_pot pm__law_pot an__law_pot cd__law_pot ct__law_pot), sl__law_pot⟩) (c__law_pot : PySem.W.codeIn K cd__law_pot "_law_pot" = true) (k__law_pot : PySem.W.keepIn K (.ref f__law_pot) = true)
    (a__law_draw : PySem.W.nsIn K mainGlobals "_law_draw" = some (some (.ref f__law_draw))) (l__law_draw : K.lookup f__law_draw = some ⟨oc__law_draw, od__law_draw, .func (PySem.W.fnOf "_law_draw" "_law_draw" (defArgs s__law_draw) (defBody s__law_draw) (defScope s__law_draw) .none kV__law_draw dc__law_draw pm__law_draw an__law_draw cd__law_draw ct__law_draw), sl__law_draw⟩) (c__law_draw : PySem.W.codeIn K cd__law_draw "_law_draw" = true) (k__law_draw : PySem.W.keepIn K (.ref f__law_draw) = true)
    (a__law_string : PySem.W.nsIn K mainGlobals "_law_string" = some (some (.ref f__law_string))) (l__law_string : K.lookup f__law_string = some ⟨oc__law_string, od__law_string, .func (PySem.W.fnOf "_law_string" "_law_string" (defArgs s__law_string) (defBody s__law_string) (defScope s__law_string) .none kV__law_string dc__law_string pm__law_string an__law_string cd__law_string ct__law_string), sl__law_string⟩) (c__law_string : PySem.W.codeIn K cd__law_string "_law_string" = true) (k__law_string : PySem.W.keepIn K (.ref f__law_string) = true)
    (a__law_sign : PySem.W.nsIn K mainGlobals "_law_sign" = some (some (.ref f__law_sign))) (l__law_sign : K.lookup f__law_sign = some ⟨oc__law_sign, od__law_sign, .func (PySem.W.fnOf "_law_sign" "_law_sign" (defArgs s__law_sign) (defBody s__law_sign) (defScope s__law_sign) .none kV__law_sign dc__law_sign pm__law_sign an__law_sign cd__law_sign ct__law_sign), sl__law_sign⟩) (c__law_sign : PySem.W.codeIn K cd__law_sign "_law_sign" = true) (k__law_sign : PySem.W.keepIn K (.ref f__law_sign) = true)
    (a__law_first : PySem.W.nsIn K mainGlobals "_law_first" = some (some (.ref f__law_first))) (l__law_first : K.lookup f__law_first = some ⟨oc__law_first, od__law_first, .func (PySem.W.fnOf "_law_first" "_law_first" (defArgs s__law_first) (defBody s__law_first) (defScope s__law_first) .none kV__law_first dc__law_first pm__law_first an__law_first cd__law_first ct__law_first), sl__law_first⟩) (c__law_first : PySem.W.codeIn K cd__law_first "_law_first" = true) (k__law_first : PySem.W.keepIn K (.ref f__law_first) = true)
    (a__law_least : PySem.W.nsIn K mainGlobals "_law_least" = some (some (.ref f__law_least))) (l__law_least : K.lookup f__law_least = some ⟨oc__law_least, od__law_least, .func (PySem.W.fnOf "_law_least" "_law_least" (defArgs s__law_least) (defBody s__law_least) (defScope s__law_least) .none kV__law_least dc__law_least pm__law_least an__law_least cd__law_least ct__law_least), sl__law_least⟩) (c__law_least : PySem.W.codeIn K cd__law_least "_law_least" = true) (k__law_least : PySem.W.keepIn K (.ref f__law_least) = true)
    (a__law_written : PySem.W.nsIn K mainGlobals "_law_written" = some (some (.ref f__law_written))) (l__law_written : K.lookup f__law_written = some ⟨oc__law_written, od__law_written, .func (PySem.W.fnOf "_law_written" "_law_written" (defArgs s__law_written) (defBody s__law_written) (defScope s__law_written) .none kV__law_written dc__law_written pm__law_written an__law_written cd__law_written ct__law_written), sl__law_written⟩) (c__law_written : PySem.W.codeIn K cd__law_written "_law_written" = true) (k__law_written : PySem.W.keepIn K (.ref f__law_written) = true)
    (a__law_long_right : PySem.W.nsIn K mainGlobals "_law_long_right" = some (some (.ref f__law_long_right))) (l__law_long_right : K.lookup f__law_long_right = some ⟨oc__law_long_right, od__law_long_right, .func (PySem.W.fnOf "_law_long_right" "_law_long_right" (defArgs s__law_long_right) (defBody s__law_long_right) (defScope s__law_long_right) .none kV__law_long_right dc__law_long_right pm__law_long_right an__law_long_right cd__law_long_right ct__law_long_right), sl__law_long_right⟩) (c__law_long_right : PySem.W.codeIn K cd__law_long_right "_law_long_right" = true) (k__law_long_right : PySem.W.keepIn K (.ref f__law_long_right) = true)
    (a_law : PySem.W.nsIn K mainGlobals "law" = some (some (.ref f_law))) (l_law : K.lookup f_law = some ⟨oc_law, od_law, .func (PySem.W.fnOf "law" "law" (defArgs s_law) (defBody s_law) (defScope s_law) .none kV_law dc_law pm_law an_law cd_law ct_law), sl_law⟩) (c_law : PySem.W.codeIn K cd_law "law" = true) (k_law : PySem.W.keepIn K (.ref f_law) = true)
    (z_abs : PySem.W.nsIn K mainGlobals "abs" = some none)
    (z_bool : PySem.W.nsIn K mainGlobals "bool" = some none)
    (z_int : PySem.W.nsIn K mainGlobals "int" = some none)
    (z_isinstance : PySem.W.nsIn K mainGlobals "isinstance" = some none)
    (z_len : PySem.W.nsIn K mainGlobals "len" = some none)
    (z_range : PySem.W.nsIn K mainGlobals "range" = some none)
    (z_str : PySem.W.nsIn K mainGlobals "str" = some none)
    (z_sum : PySem.W.nsIn K mainGlobals "sum" = some none)
    (z_tuple : PySem.W.nsIn K mainGlobals "tuple" = some none)
    (z_super : PySem.W.nsIn K mainGlobals "super" = some none)
    {t_LETTERS : Tok} (g_LETTERS : PySem.W.nsIn K mainGlobals "LETTERS" = some (some (.str "abc" t_LETTERS)))
    (stat : PySem.W.nsIn K PySem.cStatics "thirdparty.any" = some none)
    {nm_NoContent qn_NoContent : Str} {Nn_NoContent : Addr} {bs_NoContent bm_NoContent : List Value} {sn_NoContent : List Str} {sub_NoContent : List Value} {ab_NoContent : Bool} {col_NoContent : Option Bool} {dd_NoContent : Option Addr} {k0_NoContent k1_NoContent k2_NoContent k3_NoContent k5_NoContent : Option Value}
    (n_NoContent : PySem.W.nsIn K mainGlobals "NoContent" = some (some (.ref A_NoContent))) (x_NoContent : K.lookup A_NoContent = some (excClassObj nm_NoContent qn_NoContent A_NoContent Nn_NoContent bs_NoContent bm_NoContent true sn_NoContent sub_NoContent ab_NoContent col_NoContent dd_NoContent k0_NoContent k1_NoContent k2_NoContent k3_NoContent k5_NoContent "ValueError.__new__")) (r_NoContent : PySem.HandSPX.refsVE bm_NoContent = true)
    (kp_NoContent : PySem.W.keepIn K (.ref A_NoContent) = true) (ex_NoContent : PySem.W.subIn K (.ref A_NoContent) (.type "BaseException") = some true) (ty_NoContent : PySem.W.typeIn K (.ref A_NoContent) = some (.type "type")) (su_NoContent : PySem.W.ks_superIn K A_NoContent A_NoContent "__init__" = some (some (.builtin "ValueError.__init__"))) (ve_NoContent : PySem.W.subIn K (.ref A_NoContent) (.type "ValueError") = some true) (mr_NoContent : PySem.W.mroIn K A_NoContent (.ref A_NoContent) = some true) (ic_NoContent : PySem.W.isClsIn K A_NoContent = true)
    {fI_NoContent cda_NoContent cc_NoContent : Addr} {ioc_NoContent : Value} {iod_NoContent : Option Addr} {iqn_NoContent : Str} {ikV_NoContent idc_NoContent ipm_NoContent : Value} {ian_NoContent : Option Addr} {ict_NoContent : Value} {iosl_NoContent : Array (Option Value)} {p0_NoContent q1_NoContent q2_NoContent q3_NoContent q4_NoContent q5_NoContent : Pos}
    (i_NoContent : PySem.W.findIn K (.ref A_NoContent) "__init__" = some (some (.ref fI_NoContent))) (it_NoContent : PySem.W.typeIn K (.ref fI_NoContent) = some (.type "function")) (il_NoContent : K.lookup fI_NoContent = some ⟨ioc_NoContent, iod_NoContent, .func (PySem.W.ksFn "__init__" iqn_NoContent (PySem.NoX.nA p0_NoContent) (PySem.NoX.nB q1_NoContent q2_NoContent q3_NoContent q4_NoContent q5_NoContent) PySem.NoX.nS .none ikV_NoContent idc_NoContent ipm_NoContent ian_NoContent (.ref cda_NoContent) ict_NoContent cc_NoContent), iosl_NoContent⟩) (icd_NoContent : PySem.W.codeIn K (.ref cda_NoContent) iqn_NoContent = true)
    {ccl_NoContent : Value} {cdd_NoContent : Option Addr} {vs_NoContent : Array Value} {ccs_NoContent : Array (Option Value)} {fi_NoContent : Str} {tf_NoContent : Tok} (co_NoContent : K.lookup cda_NoContent = some ⟨ccl_NoContent, cdd_NoContent, .fields vs_NoContent, ccs_NoContent⟩) (cv_NoContent : vs_NoContent[2]? = some (.str fi_NoContent tf_NoContent)) (cf_NoContent : ((PySem.Challenge.pw_wholewalks_k02_whole_least_contents.main.file : Str) == fi_NoContent) = true)
    {cl_NoContent : Value} {cld_NoContent : Option Addr} {csl_NoContent : Array (Option Value)} (ce_NoContent : K.lookup cc_NoContent = some ⟨cl_NoContent, cld_NoContent, .cell (some (.ref A_NoContent)), csl_NoContent⟩) (se_NoContent : PySem.NoX.SupEq q1_NoContent q2_NoContent q3_NoContent q4_NoContent)
    : ∃ fd : FuncData, (∀ (s : Shared) (v : Value), BindsTo s fd ⟨[v], []⟩ [("script", v)]) ∧ ∀ base : Heap, K.In base → base.Ns mainGlobals mg → FnOk l.prog w K mg base (L2.CX l.prog w) 8 fa fd ["script"] (spLaw K) := by
  rw [hP]
  have e := hfa.symm.trans (PySem.W.mg_of X G a_law)
  cases e
  have T : Txt PySem.Challenge.pw_wholewalks_k02_whole_least_contents K mg ⟨A_NoContent, 0⟩ := ⟨PySem.W.mg_none_of X G z_abs,
    PySem.W.mg_none_of X G z_bool,
    PySem.W.mg_none_of X G z_int,
    PySem.W.mg_none_of X G z_isinstance,
    PySem.W.mg_none_of X G z_len,
    PySem.W.mg_none_of X G z_range,
    PySem.W.mg_none_of X G z_str,
    PySem.W.mg_none_of X G z_sum,
    PySem.W.mg_none_of X G z_tuple,
    ⟨PySem.W.mg_of X G n_NoContent, ⟨_, _, _, _, _, _, _, _, _, _, _, _, _, _, _, x_NoContent, r_NoContent⟩, kp_NoContent, ex_NoContent, ty_NoContent, su_NoContent, ve_NoContent, mr_NoContent, PySem.W.mg_none_of X G z_super, by decide +kernel, stat, ⟨fI_NoContent, _, _, _, _, _, _, _, _, _, _, _, _, _, _, _, _, _, i_NoContent, it_NoContent, il_NoContent, icd_NoContent, ⟨_, _, _, _, _, _, co_NoContent, cv_NoContent, cf_NoContent⟩, ⟨_, _, _, ce_NoContent⟩, se_NoContent⟩⟩,
    ⟨_, PySem.W.mg_of X G g_LETTERS⟩⟩
  have F_is_tuple_of := fun_mk (st := s_is_tuple_of) l_is_tuple_of c_is_tuple_of k_is_tuple_of
  have b_is_tuple_of := F_is_tuple_of.binds (ps := ["many", "thing"]) fun _ _ _ _ _ _ us hl => match us, hl with | [_, _], _ => rfl
  have F_is_lettered := fun_mk (st := s_is_lettered) l_is_lettered c_is_lettered k_is_lettered
  have b_is_lettered := F_is_lettered.binds (ps := ["letters", "thing"]) fun _ _ _ _ _ _ us hl => match us, hl with | [_, _], _ => rfl
  have F_shortest_round := fun_mk (st := s_shortest_round) l_shortest_round c_shortest_round k_shortest_round
  have b_shortest_round := F_shortest_round.binds (ps := ["items"]) fun _ _ _ _ _ _ us hl => match us, hl with | [_], _ => rfl
  have F_shortest := fun_mk (st := s_shortest) l_shortest c_shortest k_shortest
  have b_shortest := F_shortest.binds (ps := ["first", "ring"]) fun _ _ _ _ _ _ us hl => match us, hl with | [_, _], _ => rfl
  have F_is_content_of := fun_mk (st := s_is_content_of) l_is_content_of c_is_content_of k_is_content_of
  have b_is_content_of := F_is_content_of.binds (ps := ["letters", "thing"]) fun _ _ _ _ _ _ us hl => match us, hl with | [_, _], _ => rfl
  have F_is_content := fun_mk (st := s_is_content) l_is_content c_is_content k_is_content
  have b_is_content := F_is_content.binds (ps := ["thing"]) fun _ _ _ _ _ _ us hl => match us, hl with | [_], _ => rfl
  have F_need_content := fun_mk (st := s_need_content) l_need_content c_need_content k_need_content
  have b_need_content := F_need_content.binds (ps := ["thing"]) fun _ _ _ _ _ _ us hl => match us, hl with | [_], _ => rfl
  have F_least_content := fun_mk (st := s_least_content) l_least_content c_least_content k_least_content
  have b_least_content := F_least_content.binds (ps := ["content"]) fun _ _ _ _ _ _ us hl => match us, hl with | [_], _ => rfl
  have F_same_signs := fun_mk (st := s_same_signs) l_same_signs c_same_signs k_same_signs
  have b_same_signs := F_same_signs.binds (ps := ["content", "second"]) fun _ _ _ _ _ _ us hl => match us, hl with | [_, _], _ => rfl
  have F__law_pot := fun_mk (st := s__law_pot) l__law_pot c__law_pot k__law_pot
  have b__law_pot := F__law_pot.binds (ps := ["script"]) fun _ _ _ _ _ _ us hl => match us, hl with | [_], _ => rfl
  have F__law_draw := fun_mk (st := s__law_draw) l__law_draw c__law_draw k__law_draw
  have b__law_draw := F__law_draw.binds (ps := ["pot", "many"]) fun _ _ _ _ _ _ us hl => match us, hl with | [_, _], _ => rfl
  have F__law_string := fun_mk (st := s__law_string) l__law_string c__law_string k__law_string
  have b__law_string := F__law_string.binds (ps := ["pot", "letters", "most"]) fun _ _ _ _ _ _ us hl => match us, hl with | [_, _, _], _ => rfl
  have F__law_sign := fun_mk (st := s__law_sign) l__law_sign c__law_sign k__law_sign
  have b__law_sign := F__law_sign.binds (ps := ["content", "place"]) fun _ _ _ _ _ _ us hl => match us, hl with | [_, _], _ => rfl
  have F__law_first := fun_mk (st := s__law_first) l__law_first c__law_first k__law_first
  have b__law_first := F__law_first.binds (ps := ["content", "many"]) fun _ _ _ _ _ _ us hl => match us, hl with | [_, _], _ => rfl
  have F__law_least := fun_mk (st := s__law_least) l__law_least c__law_least k__law_least
  have b__law_least := F__law_least.binds (ps := ["content", "letters"]) fun _ _ _ _ _ _ us hl => match us, hl with | [_, _], _ => rfl
  have F__law_written := fun_mk (st := s__law_written) l__law_written c__law_written k__law_written
  have b__law_written := F__law_written.binds (ps := ["pot", "content"]) fun _ _ _ _ _ _ us hl => match us, hl with | [_, _], _ => rfl
  have F__law_long_right := fun_mk (st := s__law_long_right) l__law_long_right c__law_long_right k__law_long_right
  have b__law_long_right := F__law_long_right.binds (ps := ["pot"]) fun _ _ _ _ _ _ us hl => match us, hl with | [_], _ => rfl
  have F_law := fun_mk (st := s_law) l_law c_law k_law
  refine ⟨PySem.W.fnOf "law" "law" (defArgs s_law) (defBody s_law) (defScope s_law) .none kV_law dc_law pm_law an_law cd_law ct_law, fun s v => .of_eq rfl, fun base _ _ => ?_⟩
  have D_is_tuple_of := defOk_of (base := base) (w := w) (PySem.W.mg_of X G a_is_tuple_of) k_is_tuple_of b_is_tuple_of (ok_is_tuple_of F_is_tuple_of T)
  have D_is_lettered := defOk_of (base := base) (w := w) (PySem.W.mg_of X G a_is_lettered) k_is_lettered b_is_lettered (ok_is_lettered F_is_lettered T)
  have D_shortest_round := defOk_of (base := base) (w := w) (PySem.W.mg_of X G a_shortest_round) k_shortest_round b_shortest_round (ok_shortest_round F_shortest_round T)
  have D_shortest := defOk_of (base := base) (w := w) (PySem.W.mg_of X G a_shortest) k_shortest b_shortest (ok_shortest F_shortest T D_shortest_round)
  have D_is_content_of := defOk_of (base := base) (w := w) (PySem.W.mg_of X G a_is_content_of) k_is_content_of b_is_content_of (ok_is_content_of F_is_content_of T D_is_tuple_of D_is_lettered)
  have D_is_content := defOk_of (base := base) (w := w) (PySem.W.mg_of X G a_is_content) k_is_content b_is_content (ok_is_content F_is_content T D_is_content_of)
  have D_need_content := defOk_of (base := base) (w := w) (PySem.W.mg_of X G a_need_content) k_need_content b_need_content (ok_need_content F_need_content T D_is_content)
  have D_least_content := defOk_of (base := base) (w := w) (PySem.W.mg_of X G a_least_content) k_least_content b_least_content (ok_least_content F_least_content T D_need_content D_shortest)
  have D_same_signs := defOk_of (base := base) (w := w) (PySem.W.mg_of X G a_same_signs) k_same_signs b_same_signs (ok_same_signs F_same_signs T D_least_content)
  have D__law_pot := defOk_of (base := base) (w := w) (PySem.W.mg_of X G a__law_pot) k__law_pot b__law_pot (ok__law_pot F__law_pot T)
  have D__law_draw := defOk_of (base := base) (w := w) (PySem.W.mg_of X G a__law_draw) k__law_draw b__law_draw (ok__law_draw F__law_draw T)
  have D__law_string := defOk_of (base := base) (w := w) (PySem.W.mg_of X G a__law_string) k__law_string b__law_string (ok__law_string F__law_string T D__law_draw)
  have D__law_sign := defOk_of (base := base) (w := w) (PySem.W.mg_of X G a__law_sign) k__law_sign b__law_sign (ok__law_sign F__law_sign T)
  have D__law_first := defOk_of (base := base) (w := w) (PySem.W.mg_of X G a__law_first) k__law_first b__law_first (ok__law_first F__law_first T D__law_sign)
  have D__law_least := defOk_of (base := base) (w := w) (PySem.W.mg_of X G a__law_least) k__law_least b__law_least (ok__law_least F__law_least T D__law_first)
  have D__law_written := defOk_of (base := base) (w := w) (PySem.W.mg_of X G a__law_written) k__law_written b__law_written (ok__law_written F__law_written T D__law_draw)
  have D__law_long_right := defOk_of (base := base) (w := w) (PySem.W.mg_of X G a__law_long_right) k__law_long_right b__law_long_right (ok__law_long_right F__law_long_right T D__law_least D__law_string D__law_draw D_least_content D_same_signs)
  exact ok_law F_law T D__law_pot D__law_least D__law_written D_same_signs D__law_draw D__law_long_right D__law_string D_least_content D__law_first
end Law
open PySem PySem.W PyProof.Rows
set_option maxRecDepth 100000 in
set_option maxHeartbeats 0 in
theorem PySem.Challenge.cw_wholewalks_k02_whole_least_contents_holds : PySem.Challenge.rw_wholewalks_k02_whole_least_contents.Holds := by
  w_on; o_law; k_head; (case hw => w_witness2)
  k_fill
  refine L2.walk_of (l := PySem.Challenge.rw_wholewalks_k02_whole_least_contents) (n := 63) (k := 8) (x := "script") (CX := fun w => L2.CX PySem.Challenge.rw_wholewalks_k02_whole_least_contents.prog w) (sp := fun w => Law.spLaw _) rfl (by decide) rfl ⟨rfl, by decide, by decide⟩ (fun w h Y => PySem.W.kIn_of Y) ?F (fun _ _ a ns hl _ hS => ⟨a, ns, rfl, hS, hl, fun _ => rfl⟩) (fun _ _ _ _ _ z => by obtain ⟨_, _, _, _, _, _, _, _, _, _, _, _, z⟩ := z; exact z.elim)
  case F =>
    intro w mg fa h KX G hmg
    refine' Law.all_mk (l := PySem.Challenge.rw_wholewalks_k02_whole_least_contents) rfl KX G hmg ?a_is_tuple_of ?l_is_tuple_of ?c_is_tuple_of ?k_is_tuple_of ?a_is_lettered ?l_is_lettered ?c_is_lettered ?k_is_lettered ?a_shortest_round ?l_shortest_round ?c_shortest_round ?k_shortest_round ?a_shortest ?l_shortest ?c_shortest ?k_shortest ?a_is_content_of ?l_is_content_of ?c_is_content_of ?k_is_content_of ?a_is_content ?l_is_content ?c_is_content ?k_is_content ?a_need_content ?l_need_content ?c_need_content ?k_need_content ?a_least_content ?l_least_content ?c_least_content ?k_least_content ?a_same_signs ?l_same_signs ?c_same_signs ?k_same_signs ?a__law_pot ?l__law_pot ?c__law_pot ?k__law_pot ?a__law_draw ?l__law_draw ?c__law_draw ?k__law_draw ?a__law_string ?l__law_string ?c__law_string ?k__law_string ?a__law_sign ?l__law_sign ?c__law_sign ?k__law_sign ?a__law_first ?l__law_first ?c__law_first ?k__law_first ?a__law_least ?l__law_least ?c__law_least ?k__law_least ?a__law_written ?l__law_written ?c__law_written ?k__law_written ?a__law_long_right ?l__law_long_right ?c__law_long_right ?k__law_long_right ?a_law ?l_law ?c_law ?k_law ?z_abs ?z_bool ?z_int ?z_isinstance ?z_len ?z_range ?z_str ?z_sum ?z_tuple ?z_super ?g_LETTERS ?stat ?n_NoContent ?x_NoContent ?r_NoContent ?kp_NoContent ?ex_NoContent ?ty_NoContent ?su_NoContent ?ve_NoContent ?mr_NoContent ?ic_NoContent ?i_NoContent ?it_NoContent ?il_NoContent ?icd_NoContent ?co_NoContent ?cv_NoContent ?cf_NoContent ?ce_NoContent ?se_NoContent
    (case a_is_tuple_of => k_is)
    (case l_is_tuple_of => k_is)
    (case c_is_tuple_of => k_is)
    (case k_is_tuple_of => k_is)
    (case a_is_lettered => k_is)
    (case l_is_lettered => k_is)
    (case c_is_lettered => k_is)
    (case k_is_lettered => k_is)
    (case a_shortest_round => k_is)
    (case l_shortest_round => k_is)
    (case c_shortest_round => k_is)
    (case k_shortest_round => k_is)
    (case a_shortest => k_is)
    (case l_shortest => k_is)
    (case c_shortest => k_is)
    (case k_shortest => k_is)
    (case a_is_content_of => k_is)
    (case l_is_content_of => k_is)
    (case c_is_content_of => k_is)
    (case k_is_content_of => k_is)
    (case a_is_content => k_is)
    (case l_is_content => k_is)
    (case c_is_content => k_is)
    (case k_is_content => k_is)
    (case a_need_content => k_is)
    (case l_need_content => k_is)
    (case c_need_content => k_is)
    (case k_need_content => k_is)
    (case a_least_content => k_is)
    (case l_least_content => k_is)
    (case c_least_content => k_is)
    (case k_least_content => k_is)
    (case a_same_signs => k_is)
    (case l_same_signs => k_is)
    (case c_same_signs => k_is)
    (case k_same_signs => k_is)
    (case a__law_pot => k_is)
    (case l__law_pot => k_is)
    (case c__law_pot => k_is)
    (case k__law_pot => k_is)
    (case a__law_draw => k_is)
    (case l__law_draw => k_is)
    (case c__law_draw => k_is)
    (case k__law_draw => k_is)
    (case a__law_string => k_is)
    (case l__law_string => k_is)
    (case c__law_string => k_is)
    (case k__law_string => k_is)
    (case a__law_sign => k_is)
    (case l__law_sign => k_is)
    (case c__law_sign => k_is)
    (case k__law_sign => k_is)
    (case a__law_first => k_is)
    (case l__law_first => k_is)
    (case c__law_first => k_is)
    (case k__law_first => k_is)
    (case a__law_least => k_is)
    (case l__law_least => k_is)
    (case c__law_least => k_is)
    (case k__law_least => k_is)
    (case a__law_written => k_is)
    (case l__law_written => k_is)
    (case c__law_written => k_is)
    (case k__law_written => k_is)
    (case a__law_long_right => k_is)
    (case l__law_long_right => k_is)
    (case c__law_long_right => k_is)
    (case k__law_long_right => k_is)
    (case a_law => k_is)
    (case l_law => k_is)
    (case c_law => k_is)
    (case k_law => k_is)
    (case z_abs => k_is)
    (case z_bool => k_is)
    (case z_int => k_is)
    (case z_isinstance => k_is)
    (case z_len => k_is)
    (case z_range => k_is)
    (case z_str => k_is)
    (case z_sum => k_is)
    (case z_tuple => k_is)
    (case z_super => k_is)
    (case g_LETTERS => k_is)
    (case stat => k_is)
    (case n_NoContent => k_is)
    (case x_NoContent => k_is)
    (case r_NoContent => decide +kernel)
    (case kp_NoContent => k_is)
    (case ex_NoContent => k_is)
    (case ty_NoContent => k_is)
    (case su_NoContent => first | k_is | ks_is)
    (case ve_NoContent => k_is)
    (case mr_NoContent => k_is)
    (case ic_NoContent => k_is)
    (case i_NoContent => k_is)
    (case it_NoContent => k_is)
    (case il_NoContent => k_is)
    (case icd_NoContent => k_is)
    (case co_NoContent => k_is)
    (case cv_NoContent => rfl)
    (case cf_NoContent => decide +kernel)
    (case ce_NoContent => k_is)
    (case se_NoContent => exact ⟨_, fun _ => rfl⟩)
#print axioms PySem.Challenge.cw_wholewalks_k02_whole_least_contents_holds
