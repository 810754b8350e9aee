import PyProof.Rows.All
import Wide.All
import OpenK.AllK
import Wide.FinOn
import HandS.ForMost
import HandS.ForExc
import HandS.Flow
import HandS.More
import HandS.Strs
import HandS.IsInst
import HandS.TupAny
import KE.KExcSuper
import KE.KSuper
import HandS.ExcField
import HandS.ExcIs
import HandS.ExcValue
import HandS.FStr
import HandS.Defaults
import HandS.Lambda
import KE.GoesEnumKw
import KE.GoesMore
import PyProof.Rows.CallKwBuiltin
import HandS.WordsExc
import HandS.EndTab
import HandS.RaiseMore
import HandS.WideBits
import HandS.TupMul
import HandS.Style
import KE.GoesComp
import KE.GoesEnum
import PySem.Challenge.RW_lanternwatch_k21_sectors
set_option Elab.async false
set_option linter.all false
set_option maxRecDepth 100000
set_option maxHeartbeats 1000001
/-! An error of the program that sets its own line behind super().__init__(..): made, raised. -/
namespace BTX
open PySem PySem.W PySem.Calls PyProof.Rows PySem.HandSPX
/-! its __init__, as it stands in the text -/
def bArgs (p1 p2 p3 : Pos) (j : Nat) : Arguments := { posonlyargs := [], args := [{ arg := "self", annotation := none, pos := p1 }, { arg := "line", annotation := none, pos := p2 }], vararg := none, kwonlyargs := [], kw_defaults := [], kwarg := none, defaults := [.Constant (.int 0) j p3] }
def bBody (msg : Str) (j : Nat) (a1 a2 a3 a4 a5 b1 b2 b3 b4 c1 c2 c3 c4 : Pos) : List Stmt :=
  [.Expr (.Call (.Attribute (.Call (.Name "super" a1) [] [] a2) "__init__" a3) [.JoinedStr [.Constant (.str msg) j b1, .FormattedValue (.Name "line" b2) (-1) none b3] b4] [] a4) a5,
   .Assign [.Attribute (.Name "self" c1) "line" c2] (.Name "line" c3) c4]
def bScope : Scope := { kind := .function, names := [(PySem.Str.ofString "self", .local), (PySem.Str.ofString "line", .local), (PySem.Str.ofString "__class__", .free), (PySem.Str.ofString "super", .globalImplicit)], isGenerator := false, isCoroutine := false, more := [] }
/-- what the program's top has written of the class at C and of its __init__ at fI -/
structure BadTxt (prog : Program) (K : Frag) (mg : Str → Option Value) (x : Str) (C fI : Addr) : Prop where
  here : mg x = some (.ref C)
  noSuper : mg "super" = none
  cls : ∃ nm q N bs bm sn sub ab col dd k0 k1 k2 k3 k5, K.lookup C = some (excClassObj nm q C N bs bm true sn sub ab col dd k0 k1 k2 k3 k5 "ValueError.__new__") ∧ refsVE bm = true
  sets : findIn K (.ref C) "__setattr__" = some (some (.builtin "object.__setattr__"))
  gets : findIn K (.ref C) "__getattribute__" = some (some (.builtin "BaseException.__getattribute__"))
  noGet : findIn K (.ref C) "__getattr__" = some none
  noLine : findIn K (.ref C) "line" = some none
  ini : findIn K (.ref C) "__init__" = some (some (.ref fI))
  iniTy : typeIn K (.ref fI) = some (.type "function")
  keep : keepIn K (.ref C) = true
  exc : subIn K (.ref C) (.type "BaseException") = some true
  ty : typeIn K (.ref C) = some (.type "type")
  dict : hasDictIn K C = true
  up : ks_superIn K C C "__init__" = some (some (.builtin "ValueError.__init__"))
  noAny : nsIn K cStatics "thirdparty.any" = some none
  val : subIn K (.ref C) (.type "ValueError") = some true
  self : mroIn K C (.ref C) = some true
  top : (prog.main.scope.names.lookup ("super" : Str)).isSome = false
  fn : ∃ (oc : Value) (od : Option Addr) (dT : Addr) (doc pm : Value) (an : Option Addr) (cda cc : Addr) (ct : Value) (osl : Array (Option Value)) (msg : Str) (j j' : Nat) (p1 p2 p3 a1 a2 a3 a4 a5 b1 b2 b3 b4 c1 c2 c3 c4 : Pos),
    K.lookup fI = some ⟨oc, od, .func (ksFn "__init__" (x ++ ".__init__") (bArgs p1 p2 p3 j') (bBody msg j a1 a2 a3 a4 a5 b1 b2 b3 b4 c1 c2 c3 c4) bScope (.ref dT) .none doc pm an (.ref cda) ct cc), osl⟩ ∧ codeIn K (.ref cda) (x ++ ".__init__") = true ∧
    (∃ (o2 : Value) (d2 : Option Addr) (vs : Array Value) (s2 : Array (Option Value)) (file : Str) (tf : Tok), K.lookup cda = some ⟨o2, d2, .fields vs, s2⟩ ∧ vs[2]? = some (.str file tf) ∧ ((prog.main.file : Str) == file) = true) ∧
    (∃ (o3 : Value) (d3 : Option Addr) (s3 : Array (Option Value)), K.lookup cc = some ⟨o3, d3, .cell (some (.ref C)), s3⟩) ∧ msg.length ≤ 200 ∧ (a3.endLine == a4.line) = true ∧ ∃ (oT : Obj) (d0 : Value) (m : Nat), K.lookup dT = some oT ∧ oT.data = .seq #[d0] m
/-- behind __init__ of a fresh one at x -/
structure After (h h' : Heap) (x C dx t1 : Addr) (v : Value) : Prop where
  old : ∀ b o, b ≠ x → h.get? b = some o → h'.get? b = some o
  it : h'.get? x = some { cls := .ref C, dict := some dx, data := .fields #[.ref t1, .none, .none, .none, .bool false, .none] }
  far : h.objs.size ≤ dx
  apart : dx ≠ x
  line : h'.Ns1 dx (fun y => if y = "line" then some v else none)
/-- one made -/
structure MadeOne (h h' : Heap) (e C d : Addr) (v : Value) : Prop where
  old : ∀ b o, h.get? b = some o → h'.get? b = some o
  fresh : h.objs.size ≤ e
  it : ∃ oe vs, h'.get? e = some oe ∧ oe.cls = .ref C ∧ oe.dict = some d ∧ oe.data = .fields vs ∧ vs[1]? = some .none
  far : h.objs.size ≤ d
  apart : d ≠ e
  line : h'.Ns1 d (fun y => if y = "line" then some v else none)
/-- a method's call whose dot stands in the call's first line -/
theorem mcall_line {o : Expr} {name : Str} {apos pos : Pos} {args : List Expr} {env : Env} (hl : (apos.endLine == pos.line) = true) (few : methodCallForm (args.length + 0) (backTo pos (starEach args env)) [] = true) : eval (.Call (.Attribute o name apos) args [] pos) env = (do
      let ov ← attributeBase o name env (eval o env)
      standAt apos.atName
      let (f, first) ← holding [ov] (getMethod ov name (do return (← importBound o env).getD true))
      callWith pos f first (backTo pos (starEach args env)) []) := by
  have e2 : backToKw pos (keywordEach [] env) = [] := by rfl
  rw [arm_eval_Call, e2]
  simp only [methodCall, calleeOf, methodCallPos, List.length_nil, few, hl, if_true, Bool.or_true, pure_bind, Bool.not_true, Bool.false_or]
section
variable {prog : Program} {w : World} {A : Around} {E : Value → Shared → Prop} {R : Result → Shared → Prop} {K : Frag} {mg : Str → Option Value} {C fI : Addr} {nx : Str}
/-- ValueError.__init__, bound to the object by super, called -/
theorem up_call {h : Heap} {g : Array GenState} {d : Drawn} {t : Nat} {os : OsState} {nm q : Str} {N : Addr} {bs bm : List Value} {hdct : Bool} {sn : List Str} {sub : List Value} {ab : Bool} {col : Option Bool} {dd : Option Addr} {k0 k1 k2 k3 k5 : Option Value}
    {u e t0 : Addr} {rest : List Value} {Q : Value → Shared → Prop} (hc : h.get? C = some (excClassObj nm q C N bs bm hdct sn sub ab col dd k0 k1 k2 k3 k5 "ValueError.__new__")) (hx : h.get? e = some (excO C t0)) (hw : h.get? u = some (kxs_mw "ValueError.__init__" e)) (few : rest.length ≤ sizeLine)
    (hq : ∀ h' t1, (∀ b o, b ≠ e → h.get? b = some o → h'.get? b = some o) → h'.get? e = some (excO C t1) → Q .none ⟨h', g, d, t, os⟩) :
    wpAny (model prog w) A (call (.ref u) rest) Q E ⟨h, g, d, t, os⟩ := by
  refine wpAny_call (codeAny_of_tree ?_)
  show wpAny _ A.in1 (callAny (.ref u) ⟨rest, []⟩) _ _ _
  simp only [callAny]
  refine wpAny_bind (wpAny_load hw ?_)
  simp only [kxs_mw, show (Value.type "method-wrapper" == Value.type "method" || Value.type "method-wrapper" == Value.type "builtin_function_or_method" || Value.type "method-wrapper" == Value.type "method-wrapper") = true by decide, if_true]
  refine KFB.if_so (by decide) ?_
  refine wpAny_bind (check_bound_init F.excBase_ValueError.toExcCallFacts hc hx rfl ?_)
  refine wpAny_bind (wpAny_pure (wpAny_pure ?_))
  refine ⟨plainId_quiet F.excBase_ValueError.init.plain _, codeAny_builtin F.excBase_ValueError.initEntry ?_⟩
  exact exc_init_tree (cls := .ref C) (t0 := t0) (dv := none) (c2 := .none) (c3 := .none) (b4 := .bool false) hx few fun h' k e' _ => hq h' _ k e'
theorem bad_init (T : BadTxt prog K mg nx C fI) {s : Shared} {x t0 : Addr} {n : Int} {t : Tok} {mb : Str → Option Value} (X : K.In s.heap) (hg : s.heap.Ns mainGlobals mg) (hb : s.heap.Ns builtinsNs mb) (hmb : mb "super" = bootBuiltins "super")
    (hlim : s.heap.NoLimit) (hx : s.heap.get? x = some (excO C t0)) (hroom : A.depth < recursionLimit) (hn : n.natAbs.log2 < 1920) (hz : (Str.ofString (toString n)).length ≤ 1000) (hxC : x ≠ C) (hnx : K.lookup x = none)
    (hq : ∀ h' tk dx t1, After s.heap h' x C dx t1 (.int n t) → R (.ok (.ret .none)) { s with heap := h', toks := tk }) :
    codeAny (model prog w) A (.call (.ref fI) ⟨[.ref x, .int n t], []⟩) R s := by
  obtain ⟨oc, od, dT, doc, pm, an, cda, cc, ct, osl, msg, j, j', p1, p2, p3, a1, a2, a3, a4, a5, b1, b2, b3, b4, c1, c2, c3, c4, ho, hcd, ⟨o2, d2, vs2, s2, file, tf, hcda, hv2, hfile⟩, ⟨o3, d3, s3, hcc⟩, hmsg, hdot, oT, d0, mT, lT, hT⟩ := T.fn
  obtain ⟨nm, q, N, bs, bm, sn, sub, ab, col, dd, k0, k1, k2, k3, k5, hC, hbm⟩ := T.cls
  have hcl : clsIn K C = some { name := nm, bases := bs, mro := .ref C :: bm, ns := N, qualname := q, hasDict := true, slotNames := sn, subclasses := sub, abstract := ab, collection := col, hasDel := false } := by unfold clsIn; rw [hC] <;> rfl
  refine ks_codeAny_call_defAt (binds := [("self", .ref x), ("line", .int n t)]) hroom (X _ _ ho) rfl hlim (codeRec_of X hcd) rfl (L2.BindsTo.of_looks fun M => L2.looks_items X lT hT (.of_pure rfl)) (show ∀ y ∈ bScope.names, y.2 ≠ .cell by decide) (fun y hy => by rcases List.mem_cons.mp hy with rfl | hy <;> first | rfl | (rcases List.mem_cons.mp hy with rfl | hy <;> first | rfl | cases hy)) (fun h1 hns k1 => ?_) rfl rfl rfl
  show PySem.wpAt _ _ _ (execs _ (ksEnv (nx ++ ".__init__") bScope s.heap.objs.size fI (.ref cda) cc)) _ _ _
  refine ks_wpAt_execs_cons (ks_wpAt_Expr_any ?_ rfl rfl)
  refine ks_wpAt_MethodCall ?_ (mcall_line hdot (by rfl))
  have X1 : K.In h1 := X.keeps k1
  have it1 := k1 _ _ hx
  have hC1 := X1 _ _ hC
  obtain ⟨hp, gg, dr, tk0, os⟩ := s
  refine ks_wpAt_super_base (env := ksEnv (nx ++ ".__init__") bScope hp.objs.size fI (.ref cda) cc) rfl rfl (by decide) rfl (k1 _ _ (X _ _ ho)) rfl rfl rfl (k1 _ _ (X _ _ hcda)) rfl hv2 hfile T.top ?_
  refine ks_loadName_global rfl rfl (loadGlobal_builtin (env := ksEnv (nx ++ ".__init__") bScope hp.objs.size fI (.ref cda) cc) (hg.keeps k1) T.noSuper (hb.keeps k1) (hmb.trans rfl) ⟨rfl, ?_⟩)
  refine wpAny_loadName_free rfl rfl rfl ⟨_, k1 _ _ (X _ _ hcc), rfl⟩ ?_
  refine wpAny_loadName_local rfl rfl hns (by first | rfl | with_unfolding_all rfl | kernel_rfl) ?_
  refine ks_wpAny_isType_cls hC1 rfl ⟨rfl, ?_⟩
  refine ks_wpAny_call_super hC1 rfl it1 rfl (fun c e => by cases e) (looks_mroIn X1 T.self) (fun h2 so k2 => ?_)
  have X2 : K.In h2 := X1.keeps k2
  have I2 : InstAt h2 x (excO C t0) C none := ⟨k2 _ _ it1, rfl, rfl, trivial⟩
  have up := T.up
  unfold ks_superIn at up
  rw [hcl, Option.bind_some] at up
  refine kxs_getMethod kxs_ValueError so (looks_opaque X2 T.noAny) (l₀ := .ref C :: bm) ?_ rfl X2 up (I2.type.andThen (looks_subIn X2 T.val)) hxC (by decide) ?_
  · exact fun A Q E s k q => wpAny_bind ((looks_clsIn X2 hcl) A _ E s k (wpAny_pure q))
  have k3 : ∀ b o, h2.get? b = some o → (h2.push (kxs_mw "ValueError.__init__" x)).get? b = some o := fun b o e => Heap.get?_push_of_some _ e
  have hu : (h2.push (kxs_mw "ValueError.__init__" x)).get? h2.objs.size = some (kxs_mw "ValueError.__init__" x) := Heap.get?_push_at rfl rfl
  refine kxs_callWith (i := "ValueError.__init__") (x := x) (by rfl) (evalArgs_plain (spliced_cons ?_))
  refine wpAny_JoinedStr (pos := b4) ?_
  show Joins _ _ _ [eval (.Constant (.str msg) j b1) _, eval (.FormattedValue (.Name "line" b2) (-1) none b3) _] _ _ _
  refine wpAny_Constant_str ⟨msg, _, rfl, by show (Str.empty ++ msg).length ≤ sizeLine; rw [Str.length_append]; show 0 + msg.length ≤ _; rw [sizeLine_eq]; omega, ?_⟩
  have hxL : hp.objs.size ≠ x := Nat.ne_of_gt (Heap.lt_size hx)
  have k13 : ∀ b o, h1.get? b = some o → (h2.push (kxs_mw "ValueError.__init__" x)).get? b = some o := fun b o e => k3 _ _ (k2 _ _ e)
  have hns3 := hns.keeps k13
  refine wpAny_FormattedValue_plain (wpAny_Name (wpAny_loadName_local (v := .int n t) rfl rfl hns3 (by first | rfl | with_unfolding_all rfl | kernel_rfl) ?_) (by decide))
  refine wpAny_formatField_int hn ?_
  have few : (Str.empty ++ msg ++ Str.ofString (toString n)).length ≤ sizeLine := by
    rw [Str.length_append, Str.length_append]
    show 0 + msg.length + _ ≤ _
    rw [sizeLine_eq]; omega
  refine ⟨Str.ofString (toString n), _, rfl, few, few, spliced_nil ⟨hu, ?_⟩⟩
  show wpAny _ _ (call (.ref h2.objs.size) [_]) _ _ _
  refine up_call (k3 _ _ (k2 _ _ hC1)) (k3 _ _ (k2 _ _ it1)) hu (by rw [sizeLine_eq]; exact (by decide : 1 ≤ 16777216)) (fun h4 t1 k4 it4 => ?_)
  have hns4 : h4.Ns hp.objs.size (fun y => List.lookup y (List.reverse [(("self" : Str), Value.ref x), ("line", .int n t)])) := by
    obtain ⟨oL, es, ep, hL, r⟩ := hns
    exact ⟨oL, es, ep, k4 _ _ hxL (k13 _ _ hL), r⟩
  have X4 : K.In h4 := fun b o e => k4 b o (fun z => by rw [z, hnx] at e; cases e) (k13 _ _ (X1 b o e))
  have k04 : ∀ b o, b ≠ x → hp.get? b = some o → h4.get? b = some o := fun b o hb e => k4 b o hb (k13 _ _ (k1 _ _ e))
  refine wpAt_of_wpAny (wpAny_execs_cons (plainObj_wpAny_Assign_Attribute ?_))
  refine wpAny_Name (wpAny_loadName_local (v := .int n t) rfl rfl hns4 (by first | rfl | with_unfolding_all rfl | kernel_rfl) ?_) (by decide)
  refine wpAny_Name (wpAny_loadName_local (v := .ref x) rfl rfl hns4 (by first | rfl | with_unfolding_all rfl | kernel_rfl) ?_) (by decide)
  refine set_plain X4 (ox := excO C t1) (od := none) ⟨it4, rfl, rfl, trivial⟩ T.sets ?_
  refine exc_osa X4 it4 hcl (show refsVE (.ref C :: bm) = true from hbm) rfl T.noLine (fun h5 tk5 dx k5 far apart it5 line5 => ?_)
  have z4 : hp.objs.size ≤ h4.objs.size := Nat.le_of_lt hns4.lt
  exact wpAny_execs_nil (hq h5 tk5 dx t1 ⟨fun b o hb e => k5 b o hb (k04 b o hb e), it5, Nat.le_trans z4 far, apart, line5⟩)
end
end BTX
set_option Elab.async false
set_option linter.all false
set_option maxRecDepth 100000
set_option maxHeartbeats 1000001
namespace BTX
open PySem PySem.W PySem.Calls PyProof.Rows PySem.HandSPX
section
variable {prog : Program} {w : World} {A : Around} {E : Value → Shared → Prop} {R : Result → Shared → Prop} {K : Frag} {mg : Str → Option Value} {C fI : Addr} {nx : Str}
theorem bad_made (T : BadTxt prog K mg nx C fI) {s : Shared} {n : Int} {t : Tok} {mb : Str → Option Value} (X : K.In s.heap) (hg : s.heap.Ns mainGlobals mg) (hb : s.heap.Ns builtinsNs mb) (hmb : mb "super" = bootBuiltins "super")
    (hlim : s.heap.NoLimit) (hroom : A.depth + 1 < recursionLimit) (hn : n.natAbs.log2 < 1920) (hz : (Str.ofString (toString n)).length ≤ 1000)
    (hq : ∀ h' tk e d, MadeOne s.heap h' e C d (.int n t) → R (.ok (.ret (.ref e))) { s with heap := h', toks := tk }) :
    codeAny (model prog w) A (.call (.ref C) ⟨[.int n t], []⟩) R s := by
  obtain ⟨nm, q, N, bs, bm, sn, sub, ab, col, dd, k0, k1, k2, k3, k5, hC, hbm⟩ := T.cls
  obtain ⟨hp, g, dr, tk, os⟩ := s
  have up : ∀ b o, hp.get? b = some o → ((hp.push (kdv_tup [.int n t])).push (excO C hp.objs.size)).get? b = some o := fun b o e => Heap.get?_push_of_some _ (Heap.get?_push_of_some _ e)
  have here : ((hp.push (kdv_tup [.int n t])).push (excO C hp.objs.size)).get? (hp.objs.size + 1) = some (excO C hp.objs.size) := by heap_get
  have new : ∀ b o, hp.get? b = some o → hp.objs.size + 1 ≠ b := fun b o e z => by
    have y := Heap.lt_size e
    rw [← z] at y
    exact absurd (Nat.lt_of_succ_lt y) (Nat.lt_irrefl _)
  have hnx : K.lookup (hp.objs.size + 1) = none := by
    cases e : K.lookup (hp.objs.size + 1) with
    | none => rfl
    | some o => exact absurd rfl (new _ o (X _ _ e))
  refine call_own F.excBase_ValueError (fun Y => refsVE_contains Y bm hbm) (X _ _ hC) (looks_findIn X T.ini) (fun self => bind_fn X self T.iniTy) (by rw [sizeLine_eq]; exact (by decide : 1 ≤ 16777216)) ?_
  refine bad_init (s := ⟨(hp.push (kdv_tup [.int n t])).push (excO C hp.objs.size), g, dr, tk, os⟩) T (X.keeps up) (hg.keeps up) (hb.keeps up) hmb (hlim.keeps up) here hroom hn hz (new _ _ (X _ _ hC)) hnx fun h' tk' dx t1 M => ?_
  have old : ∀ b o, hp.get? b = some o → h'.get? b = some o := fun b o e => M.old b o (fun z => new b o e z.symm) (up b o e)
  have z : hp.objs.size + 1 + 1 ≤ dx := by
    have q := M.far
    first
      | (simpa only [Heap.size_push] using q)
      | exact q
  exact ⟨rfl, hq h' tk' (hp.objs.size + 1) dx ⟨old, Nat.le_succ _, ⟨_, _, M.it, rfl, rfl, rfl, rfl⟩, (show hp.objs.size ≤ dx by omega), M.apart, M.line⟩⟩
end
end BTX
namespace L2
open PySem PySem.Spec PyProof.Rows
/-- what an error bears: its numbers by name -/
def numF (fs : List (Str × Int)) : List (Str × V) := fs.map fun q => (q.1, V.int q.2)
theorem line_rel {n : Int} {t : Tok} (f : Str) : RelO (List.lookup f (numF [(("line" : Str), n)])) (if f = "line" then some (.int n t) else none) := by
  unfold numF
  rw [List.map_cons, List.map_nil]
  by_cases hw : f = "line"
  · rw [if_pos hw]
    have e : List.lookup f [(("line" : Str), V.int n)] = some (.int n) := by rw [hw]; simp [List.lookup]
    rw [e]
    exact ⟨t, rfl⟩
  · rw [if_neg hw]
    have e : (f == ("line" : Str)) = false := by simpa using hw
    have e2 : List.lookup f [(("line" : Str), V.int n)] = none := by simp [List.lookup, e]
    rw [e2]
    trivial
/-- C(n), C such a class -/
def tBad (C : Addr) (ta : TA) : St → Hp → XK → Prop := fun σ H Q => ta σ H fun vs H1 => ∃ n : Int, vs = [.int n] ∧ n.natAbs.log2 < 1920 ∧ (Str.ofString (toString n)).length ≤ 1000 ∧ ∀ d, H1 d = none → Q (.ref C) (some d) (upd H1 d (.xd (numF [("line", n)])))
section
variable {X : Cx} {C fI : Addr} {nx : Str}
theorem pmk_bad {a : Expr} {ta : TA} {p pos : Pos} {k : Nat} (T : BTX.BadTxt X.prog X.K X.mg nx C fI) (hr : Room k X.A) (hk : 1 ≤ k) (ha : PA X [a] ta) (hg : Gl X nx) (hd : (nx == ("__debug__" : Str)) = false)
    (he : starEach (a :: []) X.env = (false, eval a X.env) :: starEach [] X.env := by rfl) (hpl : (backTo pos (starEach [] X.env)).any (·.1) = false := by rfl) :
    PMk X (.Call (.Name nx p) [a] [] pos) (tBad C ta) := by
  intro pins s σ H Q I h
  refine wpAny_Call_Name_kw (ld_glob I hg T.here ?_ hd)
  refine PySem.W.callWith_K (h₀ := X.base) I.ok.mod.kin T.keep (thn (ha.run pos pins s σ H _ I h) fun us s1 hh => ?_) he hpl
  obtain ⟨vs, H1, I1, r1, n, ev, hn, hz, q1⟩ := hh
  subst ev
  refine ⟨I1.kIn, ?_⟩
  cases r1 with
  | cons rv rn =>
    cases rn
    obtain ⟨t, rfl⟩ := rv
    show wpAny _ _ (call (.ref C) [.int n t]) _ _ _
    obtain ⟨mb, hb1, hb2⟩ := I1.mod.blt
    have hlim := I1.nolimit
    obtain ⟨hp, g, dr, tk, os⟩ := s1
    refine wpAny_call (BTX.bad_made T I1.kIn (I1.mod.glob.keeps I1.bk) (hb1.keeps I1.bk) (hb2 _ (by decide)) hlim (by have := hr.dp; omega) hn hz fun h' tk' e d M => ?_)
    show MkP X pins σ Q (.ref e) ⟨h', g, dr, tk', os⟩
    obtain ⟨oe, fv, hoe, hc, hd', hdat, h1⟩ := M.it
    obtain ⟨G', g1, g2⟩ := restrict h' fun b => decide (b ≠ e)
    have same : ∀ b, b ≠ e → G'.get? b = h'.get? b := fun b hb => g1 b (decide_eq_true hb)
    have gone : G'.get? e = none := g2 e (by simp)
    have old : ∀ b o, hp.get? b = some o → G'.get? b = some o := fun b o q => (same b (Nat.ne_of_lt (Nat.lt_of_lt_of_le (Heap.lt_size q) M.fresh))).trans (M.old b o q)
    have ob : ObjOk X.prog X.w (upd H1 d (.xd (numF [("line", n)]))) G' d (.xd (numF [("line", n)])) := ⟨_, M.line.at (fun o q => (same d M.apart).trans q), fun f => line_rel f⟩
    have J : Inv X pins σ (upd H1 d (.xd (numF [("line", n)]))) ⟨G', g, dr, tk', os⟩ := I1.laid (t' := tk') old M.far ob
    refine ⟨e, oe, fv, ⟨G', g, dr, tk', os⟩, _, .ref C, some d, rfl, J, fun b o q => ?_, gone, hoe, ⟨hc, hd'⟩, hdat, h1, ?_, rfl, I1.bare, raises_own T.exc T.ty, q1 d (I1.hok.fresh M.far)⟩
    · by_cases hb : b = e
      · have q' : G'.get? b = some o := q
        rw [hb, gone] at q'; cases q'
      · exact (same b hb).symm.trans q
    · rw [upd_ne (Ne.symm M.apart)]
      exact I1.hok.fresh M.fresh
end

/-! ### a caught one is tracked -/
/-- at a: an error of the class cls, its dict d, caught -/
def XT (cls : Value) (d : Option Addr) (a : Addr) : HO := .ext fun h => ∃ (oe : Obj) (vs : Array Value), h.get? a = some oe ∧ Zc cls d oe ∧ oe.data = .fields vs
theorem xt_ok {P : Program} {w : World} {H : Hp} {h : Heap} {a : Addr} {cls : Value} {d : Option Addr} {oe : Obj} {vs : Array Value} (e : h.get? a = some oe) (z : Zc cls d oe) (dd : oe.data = .fields vs) : ObjOk P w H h a (XT cls d a) :=
  ⟨⟨oe, vs, e, z, dd⟩, ⟨oe, e⟩, fun _ _ ⟨o, v, q, r⟩ k => ⟨o, v, k o q, r⟩⟩
theorem xt_at {P : Program} {w : World} {H : Hp} {h : Heap} {a : Addr} {cls : Value} {d : Option Addr} (x : ObjOk P w H h a (XT cls d a)) : ∃ (oe : Obj) (vs : Array Value), h.get? a = some oe ∧ Zc cls d oe ∧ oe.data = .fields vs := x.1
section
variable {X : Cx} {pins : List (Addr × Obj)} {σ : St} {H : Hp} {s : Shared}
theorem Inv.take {a : Addr} {o : HO} {oe : Obj} {vs : Array Value} (I : Inv X pins σ H s) (he : s.heap.get? a = some oe) (hd : oe.data = .fields vs) (n0 : X.s_0.heap.get? a = none) (na : H a = none) (nL : a ≠ X.env.locals) (nC : ∀ x c, X.env.cells.lookup x = some c → c ≠ a) (nP : ∀ p ∈ X.pn ++ pins, p.1 ≠ a)
    (new : ObjOk X.prog X.w (upd H a o) s.heap a o) : Inv X pins σ (upd H a o) s := by
  have nb : ∀ b ob, X.s_0.heap.get? b = some ob → b ≠ a := fun b ob q z => by rw [z, n0] at q; cases q
  refine ⟨I.ok, I.os, I.bare, ⟨I.base.keep, I.base.slot, fun b ob q n hx => ?_, I.base.there, fun b xs q => ?_, fun b ob u q => ?_, fun b ps q => ?_⟩, I.loc, I.cell, ?_, fun x c e => ?_, fun p hp => ?_, fun b u e => ?_, I.len⟩
  · rw [upd_ne (nb b ob q)]; exact I.base.free b ob q n hx
  · have y := I.base.tups b xs q
    rw [upd_ne (ne_of_none y na)]; exact y
  · have y := I.base.frzs b ob u q
    rw [upd_ne (ne_of_none y na)]; exact y
  · obtain ⟨m, y⟩ := I.base.tbls b ps q
    exact ⟨m, by rw [upd_ne (ne_of_none y na)]; exact y⟩
  · rw [upd_ne (Ne.symm nL)]; exact I.free
  · rw [upd_ne (nC x c e)]; exact I.freeC x c e
  · obtain ⟨h1, h2, h3⟩ := I.pin p hp
    exact ⟨h1, by rw [upd_ne (nP p hp)]; exact h2, h3⟩
  · by_cases hb : b = a
    · rw [hb, upd_same] at e
      cases e
      rw [hb]; exact new
    · rw [upd_ne hb] at e
      exact (I.hok b u e).stay (fun c v _ q => q) (fun c q => by rw [upd_ne (ne_of_none q na)]; exact q) fun c xs q => by rw [upd_ne (ne_of_none q na)]; exact q
end
end L2
set_option Elab.async false
set_option linter.all false
set_option maxRecDepth 100000
set_option maxHeartbeats 1000001
namespace L2
open PySem PySem.Spec PyProof.Rows
/-- what 'except x as n: y = n' wishes of an exception: slot i is n's, slot j is y's; the exception is kept -/
def wKeep (K : PySem.W.Frag) (c : Value) (i j : Nat) (Wout : WX) (D : Ends) : WX := fun cls d σ H =>
  ∃ b, PySem.W.exmOne K cls c = some b ∧ (b = true → ∀ a, H a = none → D.nx (((σ.set i (some (.ref a))).set j (some (.ref a))).set i none) (upd H a (XT cls d a))) ∧ (b = false → Wout cls d σ H)
section
variable {X : Cx} {x n y : Str} {c : Value} {i j : Nat} {body : List Stmt} {np yp mp ap pos pos' : Pos} {tb : WX → TS} {Wout : WX}
theorem ps_try_keep (st : X.stack = X.env :: X.outer) (fr : X.env.frame = some X.env.locals) (nd : X.N.Nodup) (iN : X.N[i]? = some n) (jN : X.N[j]? = some y) (nl : X.env.kindOf n = some .local) (yl : X.env.scope.names.lookup y = some .local) (nsl : X.env.scope.names.lookup n = some .local) (ij : i ≠ j)
    (names : Names X x c) (tk : Takes X Wout) (nex : X.ex = []) (ndb : (n == ("__debug__" : Str)) = false) (ncd : (n == ("__classdict__" : Str)) = false)
    (sw : ∀ (A : Cx), A.env = X.env → swapsWith (.Name n mp) (some (.Name y yp)) ap.line A.env = pure false)
    (hb : ∀ (W : WX) (pn : List (Addr × Obj)) (xe : Value → Shared → Prop), Takes (X.tr pn xe) W → PassesOwn (model X.prog X.w) X.A X.env xe → PSs (X.tr pn xe) body (tb W)) :
    PS X (.Try body [.ExceptHandler (some (.Name x np)) (some n) [.Assign [.Name y yp] (.Name n mp) ap] pos'] [] [] pos) (fun D σ H => tb (wKeep X.K c i j Wout D) D σ H) := by
  refine ⟨fun pins s σ H D I0 want => ?_⟩
  have okX := I0.ok
  have frm : X.A.frames = some (X.env :: X.outer) := by rw [okX.frames, st]
  refine wpAny_Try_except ?_
  refine wpAny_mono ((hb (wKeep X.K c i j Wout D) (X.pn ++ pins) (fun ev s₁ => wpAny (model X.prog X.w) X.A (noteFrame ev X.env) (fun _ s₂ => wpAny (model X.prog X.w) X.A (setFlight ev none) (fun _ s₃ =>
    wpAny (model X.prog X.w) X.A (handleBy ev X.env [.ExceptHandler (some (.Name x np)) (some n) [.Assign [.Name y yp] (.Name n mp) ap] pos']) (SP X pins D) X.xe s₃) X.xe s₂) X.xe s₁) (fun u s' air => ?_) PassesOwn.looking).run [] s σ H D (I0.toTry _) want) (fun fl s1 hsp => ?_) (fun _ _ z => z)
  · obtain ⟨a, B, sI, pins', σ', H', cls, d, rfl, Jt, nb, up, sky, na, os, ag, b, hb1, hyes, hno⟩ := air
    have J : Inv X pins σ' H' sI := Jt.ofTry okX
    have sky2 : Sky B (X.env :: X.outer) a (Zc cls d) X.env.locals s'.heap := by rw [← st]; exact sky
    have Ba : B.get? a = none := by
      rcases sky2 with z | z | z
      · exact z.2.1
      · exact z.2.1
      · exact z.2.1
    show wpAny (model X.prog X.w) X.A (noteFrame (.ref a) X.env) _ _ _
    refine Sky.land Zc.steady frm fr sky2 fun h3 fl3 up3 => ?_
    have J3 : Inv X pins σ' H' { s' with heap := h3 } := J.landed nb fl3.1 (up.trans up3) os ag
    obtain ⟨oe3, vs3, he3, hz3, hd3⟩ := fl3.there
    have nofr : ∀ {h : Heap} {o : Obj} {vs : Array Value}, h.FunFrames B (X.env :: X.outer) → h.get? a = some o → o.data = .fields vs → a ∉ frs (X.env :: X.outer) := fun {h o vs} ff q dd hm => by
      obtain ⟨_, o2, q2, hnf⟩ := ff.mem hm
      rw [q] at q2; cases q2
      exact hnf _ dd
    have nfr := nofr fl3.2.2.1 he3 hd3
    have nL : a ≠ X.env.locals := fun z => nfr (List.mem_filterMap.mpr ⟨X.env, List.mem_cons_self, by rw [fr, z]⟩)
    have nF : a ∉ X.fs := fun hm => by
      obtain ⟨ev, hev, q⟩ := List.mem_filterMap.mp hm
      exact nfr (List.mem_filterMap.mpr ⟨ev, List.mem_cons_of_mem _ hev, q⟩)
    have S3 := J3.suite he3 hd3 na nL nF
    have nI : sI.heap.get? a = none := by
      cases q : sI.heap.get? a with
      | none => rfl
      | some o =>
        have y := nb a o q (by rw [st]; exact nfr)
        rw [Ba] at y; cases y
    refine wpAny_handleBy_cons (codeAny_handlers_test ?_) (by intro q; cases q)
    have LT : PySem.W.Looks (model X.prog X.w) h3 (typeOf (.ref a)) cls := fun A Q E s k q => wpAny_typeOf_ref (k _ _ he3) (by rw [hz3.1]; exact q)
    have LM := PySem.W.exm_one (M := model X.prog X.w) (J3.kIn) LT hb1
    have test : ∀ {Q : Value → Shared → Prop} {E : Value → Shared → Prop}, Q c { s' with heap := h3 } → wpAny (model X.prog X.w) (X.A.mark (some (.ref a))) (eval (.Name x np) X.env) Q E { s' with heap := h3 } := fun {Q E} q => by
      obtain ⟨hg, hdb, hm | ⟨hm, hv, hnn⟩⟩ := names
      · exact ld_glob (X := X.suite a ((a, oe3) :: (X.pn ++ pins))) S3 hg hm q hdb
      · exact ld_blt (X := X.suite a ((a, oe3) :: (X.pn ++ pins))) S3 hg hm hv q hnn hdb
    refine test (LM.here ?_)
    cases b with
    | true =>
      refine codeAny_handlers_suite_as ?_
      refine HandSPX.lands_againZ fl3 fun h4 fl4 up4 => ?_
      have J4 : Inv X pins σ' H' { s' with heap := h4 } := J.landed nb fl4.1 ((up.trans up3).trans up4) os ag
      obtain ⟨oe4, vs4, he4, hz4, hd4⟩ := fl4.there
      have S4 := J4.suite he4 hd4 na nL nF
      refine store_ok (X := X.suite a ((a, oe4) :: (X.pn ++ pins))) (v := .ref a) S4 nd iN (.inl nl) rfl (fun s5 S5 => ?_) (.inr nl)
      have suite : PSs (X.suite a ((a, oe4) :: (X.pn ++ pins))) [.Assign [.Name y yp] (.Name n mp) ap] (tAsg (tVar i) (gName j)) := pss_one (ps_set (X := X.suite a ((a, oe4) :: (X.pn ++ pins))) nd jN (.inl yl) (pe_var iN (.inl nsl) ndb ncd) (sw _ rfl) (.inr yl))
      refine wpAny_mono (suite.run [] s5 _ H' { nx := fun σ6 H6 => σ6 = (σ'.set i (some (.ref a))).set j (some (.ref a)) ∧ H6 = H', rt := fun _ _ => False } S5 ?_) (fun fl s6 hsp => ?_) (fun _ _ z => False.elim z)
      · have lt : i < σ'.length := by
          rw [J.len]
          exact (List.getElem?_eq_some_iff.mp iN).1
        exact ⟨.ref a, List.getElem?_set_self lt, rfl, rfl⟩
      · cases fl with
        | next =>
          obtain ⟨σ6, H6, S6, e6, h6⟩ := hsp
          subst h6
          obtain ⟨here, _⟩ := S6.pin (a, oe4) (List.mem_append_left _ List.mem_cons_self)
          have U : Inv X pins σ6 H6 s6 := S6.unsuite okX
          have n0 : X.s_0.heap.get? a = none := by
            cases q : X.s_0.heap.get? a with
            | none => rfl
            | some o =>
              obtain ⟨o2, q2⟩ := J.base.there a o q (by rw [nex]; simp)
              rw [nI] at q2; cases q2
          have V : Inv X pins σ6 (upd H6 a (XT cls d a)) s6 := U.take here hd4 n0 na nL (fun z k e w => by
              obtain ⟨v, o, q, _⟩ := J.cell z k e
              rw [w, nI] at q; cases q)
            (fun p hp w => by
              have q := (J.pin p hp).1
              rw [w, nI] at q; cases q) (xt_ok here hz4 hd4)
          refine gone_ok V nd iN nl fun s7 J7 => ⟨_, _, J7, ?_⟩
          rw [e6]
          exact hyes rfl a na
        | brk => obtain ⟨_, _, _, q⟩ := hsp; exact q.elim
        | cont => obtain ⟨_, _, _, q⟩ := hsp; exact q.elim
        | ret u => obtain ⟨_, _, _, _, _, q⟩ := hsp; exact q.elim
    | false =>
      show wpAny _ X.A (handleBy (.ref a) X.env []) _ _ _
      refine wpAny_handleBy_nil ?_
      obtain ⟨k1, k2, k3, oe, vs, T, oT, ts', he, hz, hd, h1, hr⟩ := id fl3
      unfold PySem.passOn
      refine wpAny_bind (wpAny_field he hd h1 ?_)
      rw [if_neg (show ¬ ((Value.ref T == Value.none) = true) from by simp)]
      have fin : wpAny (model X.prog X.w) X.A (setFlight (.ref a) X.env.frame) (fun _ s4 => wpAny (model X.prog X.w) X.A (throw (.ref a) : Sem Flow) (SP X pins D) X.xe s4) X.xe { s' with heap := h3 } := by
        rw [fr]
        refine HandSPX.setFlight_upZ fl3 fun h4 hh4 up4 => wpAny_throw (tk _ _ ?_)
        exact ⟨a, B, sI, pins, σ', H', cls, d, rfl, J, nb, (up.trans up3).trans up4, .inr (.inr (by rw [st]; exact hh4)), na, os, ag, hno rfl⟩
      first
        | exact wpAny_bind (wpAny_pure (wpAny_bind fin))
        | exact wpAny_bind fin
  · cases fl with
    | next =>
      obtain ⟨σ', H', J', q⟩ := hsp
      exact wpAny_execs_nil ⟨σ', H', J'.ofTry okX, q⟩
    | brk =>
      obtain ⟨σ', H', J', q⟩ := hsp
      exact ⟨σ', H', J'.ofTry okX, q⟩
    | cont =>
      obtain ⟨σ', H', J', q⟩ := hsp
      exact ⟨σ', H', J'.ofTry okX, q⟩
    | ret u =>
      obtain ⟨v, σ', H', J', r, q⟩ := hsp
      exact ⟨v, σ', H', J'.ofTry okX, r, q⟩
end
end L2
set_option Elab.async false
set_option linter.all false
set_option maxRecDepth 100000
set_option maxHeartbeats 4000001
/-! Data over the heap: values as data (tuples and finished lists), the objects that change in a store of their own. -/
namespace DL
open PySem L2

inductive D where
  | non | bl (b : Bool) | int (i : Int) | str (s : Str) | ty (n : String)
  | tup (xs : List D) | lst (xs : List D) | scr (xs : List D) | obj (a : Addr)
  | exc (C : Addr) (fs : List (Str × Int))

/-- the own dict of an error: its numbers by name -/
def DicR (G : Hp) (d : Option Addr) (fs : List (Str × Int)) : Prop := (d = none ∧ fs = []) ∨ ∃ dd, d = some dd ∧ G dd = some (.xd (numF fs))
section
variable (K : PySem.W.Frag) (G : Hp)
mutual
/-- v in the standing heap G is the data d -/
def Rp : D → V → Prop
  | .non, v => v = .non
  | .bl b, v => v = .bl b
  | .int i, v => v = .int i
  | .str s, v => v = .str s
  | .ty n, v => v = .ty n
  | .tup ds, v => ∃ a vs, v = .ref a ∧ SqT K G a vs ∧ RpL ds vs
  | .lst ds, v => ∃ a vs, v = .ref a ∧ G a = some (.lst vs) ∧ RpL ds vs
  | .scr ds, v => ∃ a vs, v = .ref a ∧ SqL K G a vs ∧ RpL ds vs
  | .obj a, v => v = .ref a
  | .exc C fs, v => ∃ a d, v = .ref a ∧ G a = some (XT (.ref C) d a) ∧ DicR G d fs
def RpL : List D → List V → Prop
  | [], vs => vs = []
  | d :: ds, vs => ∃ v r, vs = v :: r ∧ Rp d v ∧ RpL ds r
end
end

/-- what stands stays -/
def Ex (H H' : Hp) : Prop := ∀ a o, H a = some o → H' a = some o
theorem Ex.refl (H : Hp) : Ex H H := fun _ _ h => h
theorem Ex.trans {H H1 H2 : Hp} (a : Ex H H1) (b : Ex H1 H2) : Ex H H2 := fun x o h => b x o (a x o h)
theorem Ex.new {H : Hp} {p : Addr} {o : HO} (h : H p = none) : Ex H (upd H p o) := fun a u e => by
  rw [upd_ne (ne_of_none e h)]
  exact e
theorem Ex.rd {H H' : Hp} {a : Addr} {u : HO} (e : Ex H H') (h : Rd H a u) : Rd H' a u := by
  rcases h with h | ⟨o, h⟩
  · exact Or.inl (e a _ h)
  · exact Or.inr ⟨o, e a _ h⟩
theorem Ex.l {K : PySem.W.Frag} {H H' : Hp} {a : Addr} {xs : List V} (e : Ex H H') (h : SqL K H a xs) : SqL K H' a xs := by
  rcases h with h | h
  · exact Or.inl (e.rd h)
  · exact Or.inr h
theorem Ex.t {K : PySem.W.Frag} {H H' : Hp} {a : Addr} {xs : List V} (e : Ex H H') (h : SqT K H a xs) : SqT K H' a xs := by
  rcases h with h | h
  · exact Or.inl (e.rd h)
  · exact Or.inr h
theorem Ex.free {H H' : Hp} {p : Addr} (e : Ex H H') (h : H' p = none) : H p = none := by
  cases h1 : H p with
  | none => rfl
  | some o =>
    rw [e p o h1] at h
    cases h

theorem DicR.mono {G G' : Hp} (e : Ex G G') {d : Option Addr} {fs : List (Str × Int)} (h : DicR G d fs) : DicR G' d fs := by
  rcases h with h | ⟨dd, h1, h2⟩
  · exact .inl h
  · exact .inr ⟨dd, h1, e _ _ h2⟩
section
variable {K : PySem.W.Frag} {G G' : Hp}
mutual
theorem Rp.mono (e : Ex G G') : ∀ (d : D) (v : V), Rp K G d v → Rp K G' d v
  | .non, _, h => h
  | .bl _, _, h => h
  | .int _, _, h => h
  | .str _, _, h => h
  | .ty _, _, h => h
  | .tup ds, _, ⟨a, vs, h1, h2, h3⟩ => ⟨a, vs, h1, e.t h2, RpL.mono e ds vs h3⟩
  | .lst ds, _, ⟨a, vs, h1, h2, h3⟩ => ⟨a, vs, h1, e _ _ h2, RpL.mono e ds vs h3⟩
  | .scr ds, _, ⟨a, vs, h1, h2, h3⟩ => ⟨a, vs, h1, e.l h2, RpL.mono e ds vs h3⟩
  | .obj _, _, h => h
  | .exc _ _, _, ⟨a, d, h1, h2, h3⟩ => ⟨a, d, h1, e _ _ h2, h3.mono e⟩
theorem RpL.mono (e : Ex G G') : ∀ (ds : List D) (vs : List V), RpL K G ds vs → RpL K G' ds vs
  | [], _, h => h
  | d :: ds, _, ⟨v, r, h1, h2, h3⟩ => ⟨v, r, h1, Rp.mono e d v h2, RpL.mono e ds r h3⟩
end
theorem RpL.len : ∀ {ds : List D} {vs : List V}, RpL K G ds vs → vs.length = ds.length
  | [], _, h => by rw [RpL] at h; rw [h]; rfl
  | d :: ds, _, ⟨v, r, h1, h2, h3⟩ => by rw [h1, List.length_cons, List.length_cons, RpL.len h3]
theorem RpL.get : ∀ {ds : List D} {vs : List V} {i : Nat} {d : D}, RpL K G ds vs → ds[i]? = some d → ∃ v, vs[i]? = some v ∧ Rp K G d v
  | [], _, i, d, h, e => by simp at e
  | d :: ds, _, 0, _, ⟨v, r, h1, h2, h3⟩, e => by simp at e; subst e; subst h1; exact ⟨v, rfl, h2⟩
  | d :: ds, _, i + 1, d', ⟨v, r, h1, h2, h3⟩, e => by
    subst h1
    obtain ⟨u, e1, e2⟩ := RpL.get (i := i) (d := d') h3 (by simpa using e)
    exact ⟨u, by simpa using e1, e2⟩
theorem RpL.getV : ∀ {ds : List D} {vs : List V} {i : Nat} {v : V}, RpL K G ds vs → vs[i]? = some v → ∃ d, ds[i]? = some d ∧ Rp K G d v := fun {ds vs i v} h e => by
  have l := h.len
  have hi : i < ds.length := by rw [← l]; exact (List.getElem?_eq_some_iff.mp e).1
  obtain ⟨u, e1, e2⟩ := h.get (i := i) (d := ds[i]) (by simp [hi])
  rw [e] at e1
  cases e1
  exact ⟨ds[i], by simp [hi], e2⟩
theorem RpL.app : ∀ {ds : List D} {vs : List V} {es : List D} {us : List V}, RpL K G ds vs → RpL K G es us → RpL K G (ds ++ es) (vs ++ us)
  | [], _, _, _, h, h' => by rw [h]; exact h'
  | d :: ds, _, _, _, ⟨v, r, h1, h2, h3⟩, h' => by rw [h1]; exact ⟨v, _, rfl, h2, RpL.app h3 h'⟩
theorem RpL.one {d : D} {v : V} (h : Rp K G d v) : RpL K G [d] [v] := ⟨v, [], rfl, h, rfl⟩
theorem RpL.set {e : D} {u : V} (hu : Rp K G e u) : ∀ {ds : List D} {vs : List V} (i : Nat), RpL K G ds vs → RpL K G (ds.set i e) (vs.set i u)
  | [], _, _, h => by rw [h]; rfl
  | d :: ds, _, 0, ⟨v, r, h1, h2, h3⟩ => by rw [h1]; exact ⟨u, r, rfl, hu, h3⟩
  | d :: ds, _, i + 1, ⟨v, r, h1, h2, h3⟩ => by rw [h1]; exact ⟨v, _, rfl, h2, RpL.set hu i h3⟩
theorem RpL.take : ∀ {ds : List D} {vs : List V} (n : Nat), RpL K G ds vs → RpL K G (ds.take n) (vs.take n)
  | _, _, 0, _ => rfl
  | [], _, n + 1, h => by rw [h]; rfl
  | d :: ds, _, n + 1, ⟨v, r, h1, h2, h3⟩ => by rw [h1]; exact ⟨v, _, rfl, h2, RpL.take n h3⟩
theorem RpL.drop : ∀ {ds : List D} {vs : List V} (n : Nat), RpL K G ds vs → RpL K G (ds.drop n) (vs.drop n)
  | _, _, 0, h => h
  | [], _, n + 1, h => by rw [h]; rfl
  | d :: ds, _, n + 1, ⟨v, r, h1, h2, h3⟩ => by rw [h1]; exact RpL.drop n h3
theorem RpL.nil_of {vs : List V} (h : RpL K G [] vs) : vs = [] := h
theorem RpL.ints : ∀ {ns : List Int} {vs : List V}, RpL K G (ns.map D.int) vs → vs = ns.map V.int
  | [], _, h => h
  | n :: ns, _, ⟨v, r, h1, h2, h3⟩ => by
    have h2' : v = .int n := h2
    rw [h1, h2', RpL.ints h3]; rfl
theorem RpL.strs : ∀ {ns : List Str} {vs : List V}, RpL K G (ns.map D.str) vs → vs = ns.map V.str
  | [], _, h => h
  | n :: ns, _, ⟨v, r, h1, h2, h3⟩ => by
    have h2' : v = .str n := h2
    rw [h1, h2', RpL.strs h3]; rfl
theorem RpL.bls : ∀ {ns : List Bool} {vs : List V}, RpL K G (ns.map D.bl) vs → vs = ns.map V.bl
  | [], _, h => h
  | n :: ns, _, ⟨v, r, h1, h2, h3⟩ => by
    have h2' : v = .bl n := h2
    rw [h1, h2', RpL.bls h3]; rfl
theorem RpL.eraseIdx : ∀ {ds : List D} {vs : List V} (n : Nat), RpL K G ds vs → RpL K G (ds.eraseIdx n) (vs.eraseIdx n)
  | [], _, n, h => by rw [h]; simp [List.eraseIdx, RpL]
  | d :: ds, _, 0, ⟨v, r, h1, h2, h3⟩ => by rw [h1]; exact h3
  | d :: ds, _, n + 1, ⟨v, r, h1, h2, h3⟩ => by rw [h1]; exact ⟨v, _, rfl, h2, RpL.eraseIdx n h3⟩
end

/-! ### the objects that change -/
inductive MO where
  | lst (xs : List D) | dK (kvs : List (Key × D)) | ins (C : Addr) (fs : List (Str × D)) | tbl (q : Str)
abbrev Mu := Addr → Option MO
def put (μ : Mu) (a : Addr) (m : MO) : Mu := fun b => if b = a then some m else μ b
theorem put_same {μ : Mu} {a : Addr} {m : MO} : put μ a m a = some m := by unfold put; rw [if_pos rfl]
theorem put_ne {μ : Mu} {a b : Addr} {m : MO} (h : b ≠ a) : put μ a m b = μ b := by unfold put; rw [if_neg h]
theorem put_put {μ : Mu} {a : Addr} {m m' : MO} : put (put μ a m) a m' = put μ a m' := by funext b; unfold put; split <;> rfl
theorem put_comm {μ : Mu} {a b : Addr} {m m' : MO} (h : a ≠ b) : put (put μ a m) b m' = put (put μ b m') a m := by
  funext c; unfold put
  by_cases h1 : c = b
  · by_cases h2 : c = a
    · exact absurd (h2.symm.trans h1) h
    · rw [if_pos h1, if_neg h2, if_pos h1]
  · rw [if_neg h1, if_neg h1]
def SubM (μ ν : Mu) : Prop := ∀ a m, μ a = some m → ν a = some m
theorem SubM.refl (μ : Mu) : SubM μ μ := fun _ _ h => h
theorem SubM.trans {μ ν ρ : Mu} (a : SubM μ ν) (b : SubM ν ρ) : SubM μ ρ := fun x m h => b x m (a x m h)
theorem SubM.new {μ : Mu} {p : Addr} {m : MO} (h : μ p = none) : SubM μ (put μ p m) := fun a u e => by
  have : a ≠ p := fun z => by rw [z, h] at e; cases e
  rw [put_ne this]; exact e
theorem SubM.newR {μ ν : Mu} {p : Addr} {m : MO} (s : SubM μ ν) (h : μ p = none) : SubM μ (put ν p m) := fun a u e => by
  have : a ≠ p := fun z => by rw [z, h] at e; cases e
  rw [put_ne this]; exact s a u e

def RpK (K : PySem.W.Frag) (G : Hp) : List (Key × D) → List (Key × V) → Prop
  | [], vs => vs = []
  | (k, d) :: ds, vs => ∃ v r, vs = (k, v) :: r ∧ Rp K G d v ∧ RpK K G ds r
def RpF (K : PySem.W.Frag) (G : Hp) : List (Str × D) → List (Str × V) → Prop
  | [], vs => vs = []
  | (k, d) :: ds, vs => ∃ v r, vs = (k, v) :: r ∧ Rp K G d v ∧ RpF K G ds r
def RpO (K : PySem.W.Frag) (G : Hp) : MO → HO → Prop
  | .lst ds, o => ∃ vs, o = .lst vs ∧ RpL K G ds vs
  | .dK ds, o => ∃ vs, o = .dK vs ∧ RpK K G ds vs
  | .ins C ds, o => ∃ dx vs, o = .ins C dx vs ∧ RpF K G ds vs
  | .tbl q, o => ∃ ps : Array Value, o = .tbl ps ∧ TriplesOk ps.toList ∧ ∀ (pos : Pos) (cv : Value), codeAmong pos ps.toList = some cv → ∃ c, cv = .ref c ∧ G c = some (LamX.CodeO c q)
section
variable {K : PySem.W.Frag} {G G' : Hp}
theorem RpK.mono (e : Ex G G') : ∀ {ds : List (Key × D)} {vs : List (Key × V)}, RpK K G ds vs → RpK K G' ds vs
  | [], _, h => h
  | (k, d) :: ds, _, ⟨v, r, h1, h2, h3⟩ => ⟨v, r, h1, Rp.mono e _ _ h2, RpK.mono e h3⟩
theorem RpF.mono (e : Ex G G') : ∀ {ds : List (Str × D)} {vs : List (Str × V)}, RpF K G ds vs → RpF K G' ds vs
  | [], _, h => h
  | (k, d) :: ds, _, ⟨v, r, h1, h2, h3⟩ => ⟨v, r, h1, Rp.mono e _ _ h2, RpF.mono e h3⟩
theorem RpO.mono (e : Ex G G') : ∀ {m : MO} {o : HO}, RpO K G m o → RpO K G' m o
  | .lst _, _, ⟨vs, h1, h2⟩ => ⟨vs, h1, RpL.mono e _ _ h2⟩
  | .dK _, _, ⟨vs, h1, h2⟩ => ⟨vs, h1, RpK.mono e h2⟩
  | .ins _ _, _, ⟨dx, vs, h1, h2⟩ => ⟨dx, vs, h1, RpF.mono e h2⟩
  | .tbl _, _, ⟨ps, h1, h2, h3⟩ => ⟨ps, h1, h2, fun pos cv hc => let ⟨c, e1, e2⟩ := h3 pos cv hc; ⟨c, e1, e _ _ e2⟩⟩

/-- the whole: G stands, F is another's, μ is what may change; all of them in H, apart -/
structure Wd (K : PySem.W.Frag) (G F : Hp) (μ : Mu) (H : Hp) : Prop where
  g : Ex G H
  f : ∀ a o, F a = some o → H a = some o ∧ G a = none ∧ μ a = none
  m : ∀ a m, μ a = some m → ∃ o, H a = some o ∧ RpO K G m o ∧ G a = none
  n : (∀ a o, G a = some o → ∀ ps, o ≠ .tbl ps) ∧ ∀ a o, F a = some o → (∀ ps, o ≠ .tbl ps) ∧ ∀ f, o ≠ .ext f
/-- no table of code; nor an object told by a fact alone -/
abbrev NoT (o : HO) : Prop := ∀ ps, o ≠ .tbl ps
abbrev NoF (o : HO) : Prop := (∀ ps, o ≠ .tbl ps) ∧ ∀ f, o ≠ .ext f
theorem upd_all {p : HO → Prop} {G : Hp} (h : ∀ a o, G a = some o → p o) {x : Addr} {u : HO} (no : p u) : ∀ a o, L2.upd G x u a = some o → p o := fun a o e => by
  by_cases q : a = x
  · subst q; rw [upd_same] at e; cases e; exact no
  · rw [upd_ne q] at e; exact h a o e

variable {F : Hp} {μ μ' : Mu} {H : Hp}
theorem Wd.noG (w : Wd K G F μ H) {p : Addr} (h : H p = none) : G p = none := w.g.free h
theorem Wd.noM (w : Wd K G F μ H) {p : Addr} (h : H p = none) : μ p = none := by
  cases e : μ p with
  | none => rfl
  | some m =>
    obtain ⟨o, h1, _⟩ := w.m p m e
    rw [h] at h1; cases h1
theorem Wd.noF (w : Wd K G F μ H) {p : Addr} (h : H p = none) : F p = none := by
  cases e : F p with
  | none => rfl
  | some o =>
    have h1 := (w.f p o e).1
    rw [h] at h1; cases h1
theorem Wd.sub (w : Wd K G F μ H) (s : SubM μ' μ) : Wd K G F μ' H :=
  ⟨w.g, fun a o e => ⟨(w.f a o e).1, (w.f a o e).2.1, by
    cases q : μ' a with
    | none => rfl
    | some m =>
      have := s a m q
      rw [(w.f a o e).2.2] at this; cases this⟩, fun a m e => w.m a m (s a m e), w.n⟩
/-- a new standing object -/
theorem Wd.newG (w : Wd K G F μ H) {p : Addr} {o : HO} (h : H p = none) (no : NoT o := by intro _ z; cases z) : Wd K (upd G p o) F μ (upd H p o) := by
  have hG := w.noG h
  refine ⟨fun a u e => ?_, fun a u e => ?_, fun a m e => ?_, upd_all w.n.1 no, w.n.2⟩
  · by_cases q : a = p
    · subst q; rw [upd_same] at e ⊢; exact e
    · rw [upd_ne q] at e ⊢; exact w.g a u e
  · have q : a ≠ p := fun z => by rw [z, w.noF h] at e; cases e
    rw [upd_ne q, upd_ne q]; exact w.f a u e
  · have q : a ≠ p := fun z => by rw [z, w.noM h] at e; cases e
    rw [upd_ne q, upd_ne q]
    obtain ⟨u, h1, h2, h3⟩ := w.m a m e
    exact ⟨u, h1, h2.mono (Ex.new hG), h3⟩
/-- a new object that may change -/
theorem Wd.newM (w : Wd K G F μ H) {p : Addr} {o : HO} {m : MO} (h : H p = none) (r : RpO K G m o) : Wd K G F (put μ p m) (upd H p o) := by
  refine ⟨fun a u e => ?_, fun a u e => ?_, fun a n e => ?_, w.n⟩
  · rw [upd_ne (ne_of_none (w.g a u e) h)]; exact w.g a u e
  · have q : a ≠ p := fun z => by rw [z, w.noF h] at e; cases e
    rw [upd_ne q, put_ne q]; exact w.f a u e
  · by_cases q : a = p
    · subst q; rw [put_same] at e; cases e; exact ⟨o, upd_same, r, w.noG h⟩
    · rw [put_ne q] at e; rw [upd_ne q]; exact w.m a n e
/-- an object that is changed -/
theorem Wd.chg (w : Wd K G F μ H) {p : Addr} {o : HO} {m m0 : MO} (h : μ p = some m0) (r : RpO K G m o) : Wd K G F (put μ p m) (upd H p o) := by
  obtain ⟨o0, h1, h2, h3⟩ := w.m p m0 h
  refine ⟨fun a u e => ?_, fun a u e => ?_, fun a n e => ?_, w.n⟩
  · have q : a ≠ p := fun z => by rw [z, h3] at e; cases e
    rw [upd_ne q]; exact w.g a u e
  · have q : a ≠ p := fun z => by have := (w.f a u e).2.2; rw [z, h] at this; cases this
    rw [upd_ne q, put_ne q]; exact w.f a u e
  · by_cases q : a = p
    · subst q; rw [put_same] at e; cases e; exact ⟨o, upd_same, r, h3⟩
    · rw [put_ne q] at e; rw [upd_ne q]; exact w.m a n e
def del (μ : Mu) (p : Addr) : Mu := fun b => if b = p then none else μ b
/-- an object that changes no more stands from now on -/
theorem Wd.fix (w : Wd K G F μ H) {p : Addr} {o : HO} {m0 : MO} (h : μ p = some m0) (ho : H p = some o) (no : NoT o := by intro _ z; cases z) : Wd K (upd G p o) F (del μ p) H ∧ Ex G (upd G p o) := by
  obtain ⟨o0, h1, h2, h3⟩ := w.m p m0 h
  have ex : Ex G (upd G p o) := Ex.new h3
  refine ⟨⟨fun a u e => ?_, fun a u e => ?_, fun a n e => ?_, upd_all w.n.1 no, w.n.2⟩, ex⟩
  · by_cases q : a = p
    · subst q; rw [upd_same] at e; cases e; exact ho
    · rw [upd_ne q] at e; exact w.g a u e
  · have q : a ≠ p := fun z => by have := (w.f a u e).2.2; rw [z, h] at this; cases this
    refine ⟨(w.f a u e).1, by rw [upd_ne q]; exact (w.f a u e).2.1, ?_⟩
    unfold del; rw [if_neg q]; exact (w.f a u e).2.2
  · unfold del at e
    by_cases q : a = p
    · rw [if_pos q] at e; cases e
    · rw [if_neg q] at e
      obtain ⟨u, z1, z2, z3⟩ := w.m a n e
      exact ⟨u, z1, z2.mono ex, by rw [upd_ne q]; exact z3⟩
/-- an object of another's is put by, and taken back -/
theorem Wd.lend (w : Wd K G F μ H) {p : Addr} {o : HO} (h : H p = none) (no : NoF o := by exact ⟨(fun _ z => by cases z), (fun _ z => by cases z)⟩) : Wd K G (upd F p o) μ (upd H p o) := by
  refine ⟨fun a u e => ?_, fun a u e => ?_, fun a n e => ?_, w.n.1, upd_all w.n.2 no⟩
  · rw [upd_ne (ne_of_none (w.g a u e) h)]; exact w.g a u e
  · by_cases q : a = p
    · subst q; rw [upd_same] at e; cases e; exact ⟨upd_same, w.noG h, w.noM h⟩
    · rw [upd_ne q] at e ⊢; exact w.f a u e
  · have q : a ≠ p := fun z => by rw [z, w.noM h] at e; cases e
    rw [upd_ne q]; exact w.m a n e
theorem Wd.lendSet (w : Wd K G (upd F p o) μ H) {o' : HO} (no : NoF o' := by exact ⟨(fun _ z => by cases z), (fun _ z => by cases z)⟩) : Wd K G (upd F p o') μ (upd H p o') := by
  obtain ⟨h1, h2, h3⟩ := w.f p o upd_same
  have nF : ∀ a u, upd F p o' a = some u → NoF u := fun a u e => by
    by_cases q : a = p
    · subst q; rw [upd_same] at e; cases e; exact no
    · rw [upd_ne q] at e; exact w.n.2 a u (by rw [upd_ne q]; exact e)
  refine ⟨fun a u e => ?_, fun a u e => ?_, fun a n e => ?_, w.n.1, nF⟩
  · have q : a ≠ p := fun z => by rw [z, h2] at e; cases e
    rw [upd_ne q]; exact w.g a u e
  · by_cases q : a = p
    · subst q; rw [upd_same] at e; cases e; exact ⟨upd_same, h2, h3⟩
    · rw [upd_ne q] at e ⊢
      have := w.f a u (by rw [upd_ne q]; exact e)
      exact this
  · have q : a ≠ p := fun z => by rw [z, h3] at e; cases e
    rw [upd_ne q]; exact w.m a n e
theorem Wd.lendFix (w : Wd K G (upd F p o) μ H) (hF : F p = none) : Wd K (upd G p o) F μ H ∧ Ex G (upd G p o) := by
  obtain ⟨h1, h2, h3⟩ := w.f p o upd_same
  have ex : Ex G (upd G p o) := Ex.new h2
  have nF : ∀ a u, F a = some u → NoF u := fun a u e => w.n.2 a u (by rw [upd_ne (fun z => by rw [z, hF] at e; cases e)]; exact e)
  refine ⟨⟨fun a u e => ?_, fun a u e => ?_, fun a n e => ?_, upd_all w.n.1 (w.n.2 p o upd_same).1, nF⟩, ex⟩
  · by_cases q : a = p
    · subst q; rw [upd_same] at e; cases e; exact h1
    · rw [upd_ne q] at e; exact w.g a u e
  · have q : a ≠ p := fun z => by rw [z, hF] at e; cases e
    have := w.f a u (by rw [upd_ne q]; exact e)
    exact ⟨this.1, by rw [upd_ne q]; exact this.2.1, this.2.2⟩
  · have q : a ≠ p := fun z => by rw [z, h3] at e; cases e
    obtain ⟨u, z1, z2, z3⟩ := w.m a n e
    exact ⟨u, z1, z2.mono ex, by rw [upd_ne q]; exact z3⟩
theorem Wd.lendMu (w : Wd K G (upd F p o) μ H) {m : MO} (r : RpO K G m o) (hF : F p = none) : Wd K G F (put μ p m) H := by
  obtain ⟨h1, h2, h3⟩ := w.f p o upd_same
  refine ⟨w.g, fun a u e => ?_, fun a n e => ?_, w.n.1, fun a u e => w.n.2 a u (by rw [upd_ne (fun z => by rw [z, hF] at e; cases e)]; exact e)⟩
  · have q : a ≠ p := fun z => by rw [z, hF] at e; cases e
    have := w.f a u (by rw [upd_ne q]; exact e)
    exact ⟨this.1, this.2.1, by rw [put_ne q]; exact this.2.2⟩
  · by_cases q : a = p
    · subst q; rw [put_same] at e; cases e; exact ⟨o, h1, r, h2⟩
    · rw [put_ne q] at e; exact w.m a n e
end

/-! ### the slots -/
abbrev DSl := List (Option D)
def RpS (K : PySem.W.Frag) (G : Hp) : DSl → St → Prop
  | [], σ => σ = []
  | x :: ds, σ => ∃ y r, σ = y :: r ∧ (match x with | none => y = none | some d => ∃ v, y = some v ∧ Rp K G d v) ∧ RpS K G ds r
section
variable {K : PySem.W.Frag} {G G' : Hp}
theorem RpS.mono (e : Ex G G') : ∀ {ds : DSl} {σ : St}, RpS K G ds σ → RpS K G' ds σ
  | [], _, h => h
  | none :: ds, _, ⟨y, r, h1, h2, h3⟩ => ⟨y, r, h1, h2, RpS.mono e h3⟩
  | some d :: ds, _, ⟨y, r, h1, ⟨v, h2, h4⟩, h3⟩ => ⟨y, r, h1, ⟨v, h2, Rp.mono e _ _ h4⟩, RpS.mono e h3⟩
theorem RpS.get : ∀ {ds : DSl} {σ : St} {i : Nat} {d : D}, RpS K G ds σ → ds[i]? = some (some d) → ∃ v, σ[i]? = some (some v) ∧ Rp K G d v
  | [], _, i, d, h, e => by simp at e
  | x :: ds, _, 0, d, ⟨y, r, h1, h2, h3⟩, e => by
    simp at e; subst e
    obtain ⟨v, rfl, h4⟩ := h2
    subst h1
    exact ⟨v, rfl, h4⟩
  | x :: ds, _, i + 1, d', ⟨y, r, h1, h2, h3⟩, e => by
    subst h1
    obtain ⟨v, h4, h5⟩ := RpS.get (i := i) h3 (by simpa using e)
    exact ⟨v, by simpa using h4, h5⟩
theorem RpS.set {d : D} {v : V} (hd : Rp K G d v) : ∀ {ds : DSl} {σ : St} (i : Nat), RpS K G ds σ → RpS K G (ds.set i (some d)) (σ.set i (some v))
  | [], _, _, h => by rw [h]; rfl
  | x :: ds, _, 0, ⟨y, r, h1, h2, h3⟩ => by rw [h1]; exact ⟨some v, r, rfl, ⟨v, rfl, hd⟩, h3⟩
  | x :: ds, _, i + 1, ⟨y, r, h1, h2, h3⟩ => by rw [h1]; exact ⟨y, _, rfl, h2, RpS.set hd i h3⟩
theorem RpS.wipe1 : ∀ {ds : DSl} {σ : St} (i : Nat), RpS K G ds σ → RpS K G (ds.set i none) (σ.set i none)
  | [], _, _, h => by rw [h]; rfl
  | x :: ds, _, 0, ⟨y, r, h1, h2, h3⟩ => by rw [h1]; exact ⟨none, r, rfl, rfl, h3⟩
  | x :: ds, _, i + 1, ⟨y, r, h1, h2, h3⟩ => by rw [h1]; exact ⟨y, _, rfl, h2, RpS.wipe1 i h3⟩
theorem RpS.nones : ∀ {n : Nat}, RpS K G (List.replicate n none) (List.replicate n none)
  | 0 => rfl
  | n + 1 => ⟨none, _, rfl, rfl, RpS.nones⟩
theorem RpS.start : ∀ {ds : List D} {vs : List V} {n : Nat}, RpL K G ds vs → RpS K G (ds.map some ++ List.replicate n none) (vs.map some ++ List.replicate n none)
  | [], _, _, h => by rw [h]; exact RpS.nones
  | d :: ds, _, _, ⟨v, r, h1, h2, h3⟩ => by rw [h1]; exact ⟨some v, _, rfl, ⟨v, rfl, h2⟩, RpS.start h3⟩
end
end DL
set_option Elab.async false
set_option linter.all false
set_option maxRecDepth 100000
set_option maxHeartbeats 4000001
namespace DL
open PySem L2

abbrev TD := DSl → Mu → (D → Mu → Prop) → Prop
abbrev TTd := DSl → Mu → (Bool → Mu → Prop) → Prop
abbrev TAd := DSl → Mu → (List D → Mu → Prop) → Prop
abbrev TOd := DSl → Mu → (Option Int → Mu → Prop) → Prop
abbrev DK := D → Mu → Prop
section
variable (K : PySem.W.Frag)
def KQ (G F : Hp) (Qd : D → Mu → Prop) (Q : VK) : Prop := ∀ v d G' μ' H', Ex G G' → Wd K G' F μ' H' → Rp K G' d v → Qd d μ' → Q v H'
def KB (G F : Hp) (Qd : Bool → Mu → Prop) (Q : Bool → Hp → Prop) : Prop := ∀ b G' μ' H', Ex G G' → Wd K G' F μ' H' → Qd b μ' → Q b H'
def KL (G F : Hp) (Qd : List D → Mu → Prop) (Q : List V → Hp → Prop) : Prop := ∀ vs ds G' μ' H', Ex G G' → Wd K G' F μ' H' → RpL K G' ds vs → Qd ds μ' → Q vs H'
def KO (G F : Hp) (Qd : Option Int → Mu → Prop) (Q : Option Int → Hp → Prop) : Prop := ∀ o G' μ' H', Ex G G' → Wd K G' F μ' H' → Qd o μ' → Q o H'
def RE (te : TE) (td : TD) : Prop := ∀ σ ds G F μ H Qd Q, RpS K G ds σ → Wd K G F μ H → td ds μ Qd → KQ K G F Qd Q → te σ H Q
def RT (te : TT) (td : TTd) : Prop := ∀ σ ds G F μ H Qd Q, RpS K G ds σ → Wd K G F μ H → td ds μ Qd → KB K G F Qd Q → te σ H Q
def RA (te : TA) (td : TAd) : Prop := ∀ σ ds G F μ H Qd Q, RpS K G ds σ → Wd K G F μ H → td ds μ Qd → KL K G F Qd Q → te σ H Q
def RO (te : TO) (td : TOd) : Prop := ∀ σ ds G F μ H Qd Q, RpS K G ds σ → Wd K G F μ H → td ds μ Qd → KO K G F Qd Q → te σ H Q
def RR2 (r : R2) (dr : D → D → Mu → DK → Prop) : Prop := ∀ x y dx dy G F μ H Qd Q, Rp K G dx x → Rp K G dy y → Wd K G F μ H → dr dx dy μ Qd → KQ K G F Qd Q → r x y H Q
def RRL (r : List V → Hp → VK → Prop) (dr : List D → Mu → DK → Prop) : Prop := ∀ xs ds G F μ H Qd Q, RpL K G ds xs → Wd K G F μ H → dr ds μ Qd → KQ K G F Qd Q → r xs H Q
def RRM (r : V → List V → Hp → VK → Prop) (dr : D → List D → Mu → DK → Prop) : Prop := ∀ x xs dx ds G F μ H Qd Q, Rp K G dx x → RpL K G ds xs → Wd K G F μ H → dr dx ds μ Qd → KQ K G F Qd Q → r x xs H Q
end
section
variable {K : PySem.W.Frag} {G G1 F : Hp}
theorem KQ.up {Qd : DK} {Q : VK} (e : Ex G G1) (k : KQ K G F Qd Q) : KQ K G1 F Qd Q := fun v d G' μ' H' e' => k v d G' μ' H' (e.trans e')
theorem KB.up {Qd : Bool → Mu → Prop} {Q : Bool → Hp → Prop} (e : Ex G G1) (k : KB K G F Qd Q) : KB K G1 F Qd Q := fun v G' μ' H' e' => k v G' μ' H' (e.trans e')
theorem KL.up {Qd : List D → Mu → Prop} {Q : List V → Hp → Prop} (e : Ex G G1) (k : KL K G F Qd Q) : KL K G1 F Qd Q := fun v d G' μ' H' e' => k v d G' μ' H' (e.trans e')
theorem KO.up {Qd : Option Int → Mu → Prop} {Q : Option Int → Hp → Prop} (e : Ex G G1) (k : KO K G F Qd Q) : KO K G1 F Qd Q := fun v G' μ' H' e' => k v G' μ' H' (e.trans e')
/-- Q at a value that is scalar, the heap as it is -/
theorem KQ.here {Qd : DK} {Q : VK} (k : KQ K G F Qd Q) {v : V} {d : D} {μ : Mu} {H : Hp} (w : Wd K G F μ H) (r : Rp K G d v) (h : Qd d μ) : Q v H := k v d G μ H (Ex.refl G) w r h
end


/-! ### readings over data -/
/-- a list, whether it stands or may change -/
def LstAt (μ : Mu) (x : D) (xs : List D) : Prop := match x with
  | .lst ys => ys = xs
  | .obj a => μ a = some (.lst xs)
  | _ => False
/-- a list or a tuple, to be read -/
def SeqD (μ : Mu) (x : D) (xs : List D) : Prop := match x with
  | .lst ys => ys = xs
  | .tup ys => ys = xs
  | .scr ys => ys = xs
  | .obj a => μ a = some (.lst xs)
  | _ => False
def dVar (i : Nat) : TD := fun ds μ Q => match ds[i]? with
  | some (some d) => Q d μ
  | _ => False
def dC (d : D) : TD := fun _ μ Q => Q d μ
def dOp (r : D → D → Mu → DK → Prop) (da db : TD) : TD := fun ds μ Q => da ds μ fun x μ1 => db ds μ1 fun y μ2 => r x y μ2 Q
/-- a new list: one that stands, or one that may change -/
def newLst (m : Bool) (xs : List D) (μ : Mu) (Q : DK) : Prop := match m with
  | false => Q (.lst xs) μ
  | true => ∀ p, μ p = none → Q (.obj p) (put μ p (.lst xs))
def dAdd (m : Bool) : D → D → Mu → DK → Prop
  | .int i, .int j, μ, Q => Q (.int (i + j)) μ
  | .str a, .str b, μ, Q => a.length + b.length ≤ sizeLine ∧ Q (.str (a ++ b)) μ
  | .tup xs, .tup ys, μ, Q => xs.length + ys.length ≤ sizeLine ∧ Q (.tup (xs ++ ys)) μ
  | x, y, μ, Q => ∃ xs ys, LstAt μ x xs ∧ LstAt μ y ys ∧ xs.length + ys.length ≤ sizeLine ∧ newLst m (xs ++ ys) μ Q
def dSub : D → D → Mu → DK → Prop
  | .int i, .int j, μ, Q => Q (.int (i - j)) μ
  | _, _, _, _ => False
def repS (x : Str) (n : Int) : Str := ⟨(List.replicate n.toNat x.cps.toList).flatten.toArray⟩
def dMul (m : Bool) : D → D → Mu → DK → Prop
  | .int i, .int j, μ, Q => CMul i j ∧ Q (.int (i * j)) μ
  | .str a, .int k, μ, Q => 0 ≤ k ∧ k < 1000 ∧ a.length < 1000 ∧ Q (.str (repS a k)) μ
  | x, .int k, μ, Q => ∃ xs, LstAt μ x xs ∧ -(2 ^ 63) ≤ k ∧ k < 2 ^ 63 ∧ xs.length * k.toNat ≤ sizeLine ∧ newLst m (List.replicate k.toNat xs).flatten μ Q
  | _, _, _, _ => False
def dMod : D → D → Mu → DK → Prop
  | .int i, .int j, μ, Q => 0 < j ∧ Q (.int (i % j)) μ
  | _, _, _, _ => False
def dFDiv : D → D → Mu → DK → Prop
  | .int i, .int j, μ, Q => CDiv i j ∧ Q (.int (i / j)) μ
  | _, _, _, _ => False
def dPow : D → D → Mu → DK → Prop
  | .int i, .int j, μ, Q => CPow i j ∧ Q (.int (i ^ j.toNat)) μ
  | _, _, _, _ => False
def dCmp (p : Int → Int → Bool) : D → D → Mu → DK → Prop
  | .int i, .int j, μ, Q => Q (.bl (p i j)) μ
  | _, _, _, _ => False
mutual
/-- the plain data that a value is, deep -/
def pd : D → Option PyData
  | .non => some .none
  | .bl b => some (.bool b)
  | .int i => some (.int i)
  | .str s => some (.str s)
  | .tup xs => (pdL xs).map .tuple
  | .lst xs => (pdL xs).map .list
  | .scr xs => (pdL xs).map .list
  | _ => none
def pdL : List D → Option (List PyData)
  | [] => some []
  | x :: xs => match pd x, pdL xs with
    | some a, some as => some (a :: as)
    | _, _ => none
end
def pdM (μ : Mu) (x : D) : Option PyData := match x with
  | .obj a => match μ a with
    | some (.lst xs) => (pdL xs).map .list
    | _ => none
  | _ => pd x
def dEqn (neg : Bool) : D → D → Mu → DK → Prop
  | .int i, .int j, μ, Q => Q (.bl (if neg then !decide (i = j) else decide (i = j))) μ
  | .str i, .str j, μ, Q => Q (.bl (if neg then !decide (i = j) else decide (i = j))) μ
  | x, y, μ, Q => ∃ p q, pdM μ x = some p ∧ pdM μ y = some q ∧ SeqAt.shaped p = true ∧ SeqAt.shaped q = true ∧ Q (.bl (if neg then !PyData.eqv p q else PyData.eqv p q)) μ
def flatD : D → Bool
  | .non => true
  | .bl _ => true
  | .int _ => true
  | .str _ => true
  | _ => false
def vOf : D → V
  | .non => .non
  | .bl b => .bl b
  | .int i => .int i
  | .str s => .str s
  | _ => .non
def inD (x : D) (ds : List D) : Bool := inV (vOf x) (ds.map vOf)
def dIn (neg : Bool) : D → D → Mu → DK → Prop := fun x y μ Q => match y with
  | .str z => (∃ c : Nat, x = .str ⟨#[c]⟩ ∧ Q (.bl (if neg then !decide (c ∈ z.cps.toList) else decide (c ∈ z.cps.toList))) μ)
  | _ => ∃ xs, SeqD μ y xs ∧ flatD x = true ∧ xs.all flatD = true ∧ Q (.bl (if neg then !inD x xs else inD x xs)) μ
def isNon : D → Bool
  | .non => true
  | _ => false
def dIsN (neg : Bool) : D → D → Mu → DK → Prop := fun x y μ Q => match y with
  | .non => Q (.bl (if neg then !isNon x else isNon x)) μ
  | _ => False
def dIx : D → D → Mu → DK → Prop
  | .str z, .int i, μ, Q => z.length ≤ sizeLine ∧ ∃ c, atI z.cps.toList i = some c ∧ Q (.str ⟨#[c]⟩) μ
  | x, .int i, μ, Q => ∃ xs d, SeqD μ x xs ∧ atI xs i = some d ∧ Q d μ
  | _, _, _, _ => False
def cutD (xs : List D) (lo hi : Option Int) : List D := (xs.drop (HT.sIx xs.length 0 lo)).take (HT.sIx xs.length xs.length hi - HT.sIx xs.length 0 lo)
def dSl (m : Bool) (te : TD) (tl th : TOd) : TD := fun ds μ Q => te ds μ fun x μ1 => tl ds μ1 fun lo μ2 => th ds μ2 fun hi μ3 => match x with
  | .str z => z.length ≤ sizeLine ∧ Q (.str (cutS z lo hi)) μ3
  | .tup xs => Q (.tup (cutD xs lo hi)) μ3
  | _ => ∃ xs, SeqD μ3 x xs ∧ newLst m (cutD xs lo hi) μ3 Q
def dNoPart : TOd := fun _ μ Q => Q none μ
def dPart (t : TD) : TOd := fun ds μ Q => t ds μ fun x μ1 => match x with
  | .int i => Q (some i) μ1
  | _ => False
def dNilA : TAd := fun _ μ Q => Q [] μ
def dConsA (ta : TD) (tr : TAd) : TAd := fun ds μ Q => ta ds μ fun x μ1 => tr ds μ1 fun xs μ2 => Q (x :: xs) μ2
def dTup (t : TAd) : TD := fun ds μ Q => t ds μ fun xs μ1 => xs.length ≤ sizeLine ∧ Q (.tup xs) μ1
def dLst (m : Bool) (t : TAd) : TD := fun ds μ Q => t ds μ fun xs μ1 => xs.length ≤ sizeLine ∧ newLst m xs μ1 Q
def dCB (r : List D → Mu → DK → Prop) (t : TAd) : TD := fun ds μ Q => t ds μ fun xs μ1 => r xs μ1 Q
def dBM (r : D → List D → Mu → DK → Prop) (to : TD) (t : TAd) : TD := fun ds μ Q => to ds μ fun x μ1 => t ds μ1 fun xs μ2 => r x xs μ2 Q
/-! tests -/
def dTest (t : TD) : TTd := fun ds μ Q => t ds μ fun x μ1 => match x with
  | .bl b => Q b μ1
  | _ => False
def truD (μ : Mu) : D → Option Bool
  | .non => some false
  | .bl b => some b
  | .int i => some (i != 0)
  | .str y => some (!y.cps.toList.isEmpty)
  | .tup xs => some (!xs.isEmpty)
  | .lst xs => some (!xs.isEmpty)
  | .scr xs => some (!xs.isEmpty)
  | .obj a => match μ a with
    | some (.lst xs) => some (!xs.isEmpty)
    | _ => none
  | _ => none
/-- a text's length is within the line -/
def lenOk : D → Prop
  | .str y => y.length ≤ sizeLine
  | _ => True
def dTru (t : TD) : TTd := fun ds μ Q => t ds μ fun x μ1 => lenOk x ∧ match truD μ1 x with
  | some b => Q b μ1
  | none => False
def dAndT (t u : TTd) : TTd := fun ds μ Q => t ds μ fun c μ1 => if c = true then u ds μ1 Q else Q false μ1
def dOrT (t u : TTd) : TTd := fun ds μ Q => t ds μ fun c μ1 => if c = true then Q true μ1 else u ds μ1 Q
def dNotT (t : TTd) : TTd := fun ds μ Q => t ds μ fun c μ1 => Q (!c) μ1
def dAndV (ta tb : TD) : TD := fun ds μ Q => ta ds μ fun x μ1 => match x with
  | .bl c => if c = true then tb ds μ1 Q else Q (.bl false) μ1
  | _ => False
def dOrV (ta tb : TD) : TD := fun ds μ Q => ta ds μ fun x μ1 => match x with
  | .bl c => if c = true then Q (.bl true) μ1 else tb ds μ1 Q
  | _ => False
def dNotV (ta : TD) : TD := fun ds μ Q => ta ds μ fun x μ1 => lenOk x ∧ match truD μ1 x with
  | some b => Q (.bl (!b)) μ1
  | none => False
def dIf (t : TTd) (ta tb : TD) : TD := fun ds μ Q => t ds μ fun c μ1 => if c = true then ta ds μ1 Q else tb ds μ1 Q
def dChain (r r' : D → D → Mu → DK → Prop) (ta tb tc : TD) : TD := fun ds μ Q => ta ds μ fun x μ1 => tb ds μ1 fun y μ2 => r x y μ2 fun z μ3 => match z with
  | .bl k => if k = true then tc ds μ3 fun w μ4 => r' y w μ4 Q else Q (.bl false) μ3
  | _ => False

section
variable {K : PySem.W.Frag} {G F : Hp} {μ : Mu} {H : Hp}
theorem LstAt.h (w : Wd K G F μ H) {x : D} {v : V} {xs : List D} (r : Rp K G x v) (h : LstAt μ x xs) : ∃ a vs, v = .ref a ∧ H a = some (.lst vs) ∧ RpL K G xs vs := by
  cases x with
  | lst ys =>
    obtain ⟨a, vs, h1, h2, h3⟩ := r
    have h' : ys = xs := h
    subst h'
    exact ⟨a, vs, h1, w.g _ _ h2, h3⟩
  | obj a =>
    have r' : v = .ref a := r
    have h' : μ a = some (.lst xs) := h
    obtain ⟨o, h1, ⟨vs, h2, h4⟩, h3⟩ := w.m a _ h'
    subst h2
    exact ⟨a, vs, r', h1, h4⟩
  | _ => exact False.elim h
theorem SeqD.h (w : Wd K G F μ H) : ∀ {x : D} {v : V} {xs : List D}, Rp K G x v → SeqD μ x xs → ∃ a vs, v = .ref a ∧ (SqL K H a vs ∨ SqT K H a vs) ∧ RpL K G xs vs
  | .lst ys, v, xs, ⟨a, vs, h1, h2, h3⟩, (h : ys = xs) => ⟨a, vs, h1, .inl (SqL.of (w.g _ _ h2)), h ▸ h3⟩
  | .tup ys, v, xs, ⟨a, vs, h1, h2, h3⟩, (h : ys = xs) => ⟨a, vs, h1, .inr (w.g.t h2), h ▸ h3⟩
  | .scr ys, v, xs, ⟨a, vs, h1, h2, h3⟩, (h : ys = xs) => ⟨a, vs, h1, .inl (w.g.l h2), h ▸ h3⟩
  | .obj a, v, xs, (r : v = .ref a), (h : μ a = some (.lst xs)) => by
    obtain ⟨o, h1, ⟨vs, h2, h4⟩, h3⟩ := w.m a _ h
    subst h2
    exact ⟨a, vs, r, .inl (SqL.of h1), h4⟩
theorem Rp.vOf_eq : ∀ {x : D} {v : V}, flatD x = true → Rp K G x v → v = vOf x ∧ flatV v = true
  | .non, _, _, (h : _ = V.non) => by rw [h]; exact ⟨rfl, rfl⟩
  | .bl b, _, _, (h : _ = V.bl b) => by rw [h]; exact ⟨rfl, rfl⟩
  | .int b, _, _, (h : _ = V.int b) => by rw [h]; exact ⟨rfl, rfl⟩
  | .str b, _, _, (h : _ = V.str b) => by rw [h]; exact ⟨rfl, rfl⟩
theorem RpL.vOf_eq : ∀ {xs : List D} {vs : List V}, xs.all flatD = true → RpL K G xs vs → vs = xs.map vOf ∧ vs.all flatV = true
  | [], _, _, h => by rw [RpL] at h; rw [h]; exact ⟨rfl, rfl⟩
  | x :: xs, _, hf, ⟨v, r, h1, h2, h3⟩ => by
    rw [List.all_cons, Bool.and_eq_true] at hf
    obtain ⟨e1, e2⟩ := Rp.vOf_eq hf.1 h2
    obtain ⟨e3, e4⟩ := RpL.vOf_eq hf.2 h3
    rw [h1]
    exact ⟨by rw [e1, e3]; rfl, by rw [List.all_cons, e2, e4]; rfl⟩
mutual
theorem pd_dp (e : Ex G H) : ∀ (x : D) (v : V) (p : PyData), Rp K G x v → pd x = some p → Dp K H v p
  | .non, _, p, h, q => by
    have h' : _ = V.non := h
    have q' : p = PyData.none := (Option.some.inj q).symm
    rw [h', q']; exact .non
  | .bl b, _, p, h, q => by
    have h' : _ = V.bl b := h
    have q' : p = PyData.bool b := (Option.some.inj q).symm
    rw [h', q']; exact .bl b
  | .int b, _, p, h, q => by
    have h' : _ = V.int b := h
    have q' : p = PyData.int b := (Option.some.inj q).symm
    rw [h', q']; exact .int b
  | .str b, _, p, h, q => by
    have h' : _ = V.str b := h
    have q' : p = PyData.str b := (Option.some.inj q).symm
    rw [h', q']; exact .str b
  | .tup xs, _, p, ⟨a, vs, h1, h2, h3⟩, q => by
    cases e1 : pdL xs with
    | none => rw [pd, e1] at q; cases q
    | some ps =>
      rw [pd, e1] at q; cases q
      rw [h1]
      exact .tup (e.t h2) (pdL_dp e xs vs ps h3 e1)
  | .lst xs, _, p, ⟨a, vs, h1, h2, h3⟩, q => by
    cases e1 : pdL xs with
    | none => rw [pd, e1] at q; cases q
    | some ps =>
      rw [pd, e1] at q; cases q
      rw [h1]
      exact .lst (SqL.of (e _ _ h2)) (pdL_dp e xs vs ps h3 e1)
  | .scr xs, _, p, ⟨a, vs, h1, h2, h3⟩, q => by
    cases e1 : pdL xs with
    | none => rw [pd, e1] at q; cases q
    | some ps =>
      rw [pd, e1] at q; cases q
      rw [h1]
      exact .lst (e.l h2) (pdL_dp e xs vs ps h3 e1)
  | .obj _, _, _, _, q => by rw [pd] at q; cases q; all_goals (intros; contradiction)
  | .ty _, _, _, _, q => by rw [pd] at q; cases q; all_goals (intros; contradiction)
theorem pdL_dp (e : Ex G H) : ∀ (xs : List D) (vs : List V) (ps : List PyData), RpL K G xs vs → pdL xs = some ps → DpAll K H vs ps
  | [], _, ps, h, q => by
    rw [RpL] at h; rw [pdL] at q; cases q; rw [h]; exact .nil
  | x :: xs, _, ps, ⟨v, r, h1, h2, h3⟩, q => by
    rw [pdL] at q
    cases e1 : pd x with
    | none => rw [e1] at q; cases q
    | some p =>
      cases e2 : pdL xs with
      | none => rw [e1, e2] at q; cases q
      | some ps' =>
        rw [e1, e2] at q; cases q
        rw [h1]
        exact .cons (pd_dp e x v p h2 e1) (pdL_dp e xs r ps' h3 e2)
end
theorem pdM_dp (w : Wd K G F μ H) {x : D} {v : V} {p : PyData} (r : Rp K G x v) (q : pdM μ x = some p) : Dp K H v p := by
  cases x with
  | obj a =>
    have r' : v = .ref a := r
    unfold pdM at q
    simp only at q
    split at q
    · rename_i xs hm
      obtain ⟨o, h1, ⟨vs, h2, h4⟩, h3⟩ := w.m a _ hm
      subst h2
      cases e1 : pdL xs with
      | none => rw [e1] at q; cases q
      | some ps =>
        rw [e1] at q; cases q
        rw [r']
        exact .lst (SqL.of h1) (pdL_dp w.g xs vs ps h4 e1)
    · cases q
  | _ => exact pd_dp w.g _ _ _ r q
end

/-! ### a rule of values is a rule of data -/
section
variable {K : PySem.W.Frag} {ta tb tc : TE} {da db dc : TD} {tA tB' : TT} {dA dB : TTd}
theorem re_var {i : Nat} : RE K (tVar i) (dVar i) := fun σ ds G F μ H Qd Q hs hw h kq => by
  unfold dVar at h
  split at h
  · rename_i d e
    obtain ⟨v, e1, r⟩ := hs.get e
    exact ⟨v, e1, kq.here hw r h⟩
  · exact h.elim
theorem re_c {v : V} {d : D} (r : ∀ G, Rp K G d v) : RE K (tC v) (dC d) := fun σ ds G F μ H Qd Q hs hw h kq => kq.here hw (r G) h
theorem re_op {r : R2} {dr : D → D → Mu → DK → Prop} (hr : RR2 K r dr) (ha : RE K ta da) (hb : RE K tb db) : RE K (tOp r ta tb) (dOp dr da db) :=
  fun σ ds G F μ H Qd Q hs hw h kq => ha σ ds G F μ H _ _ hs hw h fun x dx G1 μ1 H1 e1 w1 rx h1 => hb σ ds G1 F μ1 H1 _ _ (hs.mono e1) w1 h1 fun y dy G2 μ2 H2 e2 w2 ry h2 =>
    hr x y dx dy G2 F μ2 H2 Qd Q (Rp.mono e2 _ _ rx) ry w2 h2 (kq.up (e1.trans e2))
theorem re_test (h : RE K ta da) : RT K (tTest ta) (dTest da) := fun σ ds G F μ H Qd Q hs hw hd kq => h σ ds G F μ H _ _ hs hw hd fun x dx G1 μ1 H1 e1 w1 rx h1 => by
  cases dx with
  | bl b => exact ⟨b, rx, kq b G1 μ1 H1 e1 w1 h1⟩
  | _ => exact h1.elim
theorem re_B (h : RE K ta da) : RT K (tB ta) (dTest da) := fun σ ds G F μ H Qd Q hs hw hd kq => h σ ds G F μ H _ _ hs hw hd fun x dx G1 μ1 H1 e1 w1 rx h1 => by
  cases dx with
  | bl b => exact ⟨b, rx, kq b G1 μ1 H1 e1 w1 h1⟩
  | _ => exact h1.elim
theorem emp_len (y : Str) : (((y.length : Int) != 0)) = !y.cps.toList.isEmpty := by
  have : y.length = y.cps.toList.length := rfl
  rw [this]
  cases y.cps.toList with
  | nil => rfl
  | cons a l => simp; omega
theorem truD_V {G F : Hp} {μ : Mu} {H : Hp} (w : Wd K G F μ H) {x : D} {v : V} {b : Bool} (r : Rp K G x v) (hl : lenOk x) (h : truD μ x = some b) : TruV K v H b := by
  cases x with
  | non => have r' : v = V.non := r; rw [r']; exact (Option.some.inj h).symm
  | bl c => have r' : v = V.bl c := r; rw [r']; exact (Option.some.inj h).symm
  | int c => have r' : v = V.int c := r; rw [r']; exact (Option.some.inj h).symm
  | str c => have r' : v = V.str c := r; rw [r']; exact ⟨hl, by rw [emp_len]; exact (Option.some.inj h).symm⟩
  | ty c => cases h
  | exc c f => cases h
  | tup xs =>
    obtain ⟨a, vs, rfl, h2, h3⟩ := r
    refine Or.inr (Or.inl ⟨vs, w.g.t h2, ?_⟩)
    have l := h3.len
    rw [← Option.some.inj h]
    cases xs <;> cases vs <;> first | rfl | (simp at l)
  | lst xs =>
    obtain ⟨a, vs, rfl, h2, h3⟩ := r
    refine Or.inl ⟨vs, SqL.of (w.g _ _ h2), ?_⟩
    have l := h3.len
    rw [← Option.some.inj h]
    cases xs <;> cases vs <;> first | rfl | (simp at l)
  | scr xs =>
    obtain ⟨a, vs, rfl, h2, h3⟩ := r
    refine Or.inl ⟨vs, w.g.l h2, ?_⟩
    have l := h3.len
    rw [← Option.some.inj h]
    cases xs <;> cases vs <;> first | rfl | (simp at l)
  | obj a =>
    have r' : v = V.ref a := r
    unfold truD at h
    simp only at h
    split at h
    · rename_i xs hm
      obtain ⟨o, h1, ⟨vs, h2, h4⟩, h3⟩ := w.m a _ hm
      subst h2
      rw [r']
      refine Or.inl ⟨vs, SqL.of h1, ?_⟩
      have l := h4.len
      rw [← Option.some.inj h]
      cases xs <;> cases vs <;> first | rfl | (simp at l)
    · cases h
theorem re_tru (h : RE K ta da) : RT K (fun σ H Q => ta σ H fun x H' => ∃ k, TruV K x H' k ∧ Q k H') (dTru da) := fun σ ds G F μ H Qd Q hs hw hd kq => h σ ds G F μ H _ _ hs hw hd fun x dx G1 μ1 H1 e1 w1 rx h1 => by
  obtain ⟨hl, h1⟩ := h1
  split at h1
  · rename_i b hb
    exact ⟨b, truD_V w1 rx hl hb, kq b G1 μ1 H1 e1 w1 h1⟩
  · exact h1.elim
theorem re_notV (h : RE K ta da) : RE K (tNotT K ta) (dNotV da) := fun σ ds G F μ H Qd Q hs hw hd kq => h σ ds G F μ H _ _ hs hw hd fun x dx G1 μ1 H1 e1 w1 rx h1 => by
  obtain ⟨hl, h1⟩ := h1
  split at h1
  · rename_i b hb
    exact ⟨b, truD_V w1 rx hl hb, kq _ (.bl (!b)) G1 μ1 H1 e1 w1 rfl h1⟩
  · exact h1.elim
theorem re_andT (h1 : RT K tA dA) (h2 : RT K tB' dB) : RT K (tAnd tA tB') (dAndT dA dB) := fun σ ds G F μ H Qd Q hs hw hd kq => h1 σ ds G F μ H _ _ hs hw hd fun b G1 μ1 H1 e1 w1 q => by
  cases b with
  | true => exact h2 σ ds G1 F μ1 H1 Qd Q (hs.mono e1) w1 q (kq.up e1)
  | false => exact kq false G1 μ1 H1 e1 w1 q
theorem re_orT (h1 : RT K tA dA) (h2 : RT K tB' dB) : RT K (tOr tA tB') (dOrT dA dB) := fun σ ds G F μ H Qd Q hs hw hd kq => h1 σ ds G F μ H _ _ hs hw hd fun b G1 μ1 H1 e1 w1 q => by
  cases b with
  | false => exact h2 σ ds G1 F μ1 H1 Qd Q (hs.mono e1) w1 q (kq.up e1)
  | true => exact kq true G1 μ1 H1 e1 w1 q
theorem re_notT (h1 : RT K tA dA) : RT K (tNot tA) (dNotT dA) := fun σ ds G F μ H Qd Q hs hw hd kq => h1 σ ds G F μ H _ _ hs hw hd fun b G1 μ1 H1 e1 w1 q => kq (!b) G1 μ1 H1 e1 w1 q
theorem re_andV (h1 : RE K ta da) (h2 : RE K tb db) : RE K (tAndV ta tb) (dAndV da db) := fun σ ds G F μ H Qd Q hs hw hd kq => h1 σ ds G F μ H _ _ hs hw hd fun x dx G1 μ1 H1 e1 w1 rx q => by
  cases dx with
  | bl b =>
    refine ⟨b, rx, ?_⟩
    cases b with
    | true => exact h2 σ ds G1 F μ1 H1 Qd Q (hs.mono e1) w1 q (kq.up e1)
    | false => exact kq _ (.bl false) G1 μ1 H1 e1 w1 rfl q
  | _ => exact q.elim
theorem re_orV (h1 : RE K ta da) (h2 : RE K tb db) : RE K (tOrV ta tb) (dOrV da db) := fun σ ds G F μ H Qd Q hs hw hd kq => h1 σ ds G F μ H _ _ hs hw hd fun x dx G1 μ1 H1 e1 w1 rx q => by
  cases dx with
  | bl b =>
    refine ⟨b, rx, ?_⟩
    cases b with
    | false => exact h2 σ ds G1 F μ1 H1 Qd Q (hs.mono e1) w1 q (kq.up e1)
    | true => exact kq _ (.bl true) G1 μ1 H1 e1 w1 rfl q
  | _ => exact q.elim
theorem re_if (h0 : RT K tA dA) (h1 : RE K ta da) (h2 : RE K tb db) : RE K (tIf tA ta tb) (dIf dA da db) := fun σ ds G F μ H Qd Q hs hw hd kq => h0 σ ds G F μ H _ _ hs hw hd fun b G1 μ1 H1 e1 w1 q => by
  cases b with
  | true => exact h1 σ ds G1 F μ1 H1 Qd Q (hs.mono e1) w1 q (kq.up e1)
  | false => exact h2 σ ds G1 F μ1 H1 Qd Q (hs.mono e1) w1 q (kq.up e1)
theorem re_chain {r r' : R2} {dr dr' : D → D → Mu → DK → Prop} (hr : RR2 K r dr) (hr' : RR2 K r' dr') (ha : RE K ta da) (hb : RE K tb db) (hc : RE K tc dc) : RE K (tChain r r' ta tb tc) (dChain dr dr' da db dc) :=
  fun σ ds G F μ H Qd Q hs hw h kq => ha σ ds G F μ H _ _ hs hw h fun x dx G1 μ1 H1 e1 w1 rx h1 => hb σ ds G1 F μ1 H1 _ _ (hs.mono e1) w1 h1 fun y dy G2 μ2 H2 e2 w2 ry h2 =>
    hr x y dx dy G2 F μ2 H2 _ _ (Rp.mono e2 _ _ rx) ry w2 h2 fun z dz G3 μ3 H3 e3 w3 rz h3 => by
      cases dz with
      | bl k =>
        refine ⟨k, rz, ?_⟩
        cases k with
        | true =>
          exact hc σ ds G3 F μ3 H3 _ _ (hs.mono (e1.trans (e2.trans e3))) w3 h3 fun w dw G4 μ4 H4 e4 w4 rw4 h4 =>
            hr' y w dy dw G4 F μ4 H4 Qd Q (Rp.mono (e3.trans e4) _ _ ry) rw4 w4 h4 (kq.up (e1.trans (e2.trans (e3.trans e4))))
        | false => exact kq _ (.bl false) G3 μ3 H3 (e1.trans (e2.trans e3)) w3 rfl h3
      | _ => exact h3.elim
theorem ra_nil : RA K tNil dNilA := fun σ ds G F μ H Qd Q hs hw h kq => kq [] [] G μ H (Ex.refl G) hw rfl h
theorem ra_cons {tr : TA} {dr : TAd} (h1 : RE K ta da) (h2 : RA K tr dr) : RA K (tCons ta tr) (dConsA da dr) := fun σ ds G F μ H Qd Q hs hw h kq => h1 σ ds G F μ H _ _ hs hw h fun x dx G1 μ1 H1 e1 w1 rx h3 =>
  h2 σ ds G1 F μ1 H1 _ _ (hs.mono e1) w1 h3 fun xs dxs G2 μ2 H2 e2 w2 rxs h4 => kq (x :: xs) (dx :: dxs) G2 μ2 H2 (e1.trans e2) w2 ⟨x, xs, rfl, Rp.mono e2 _ _ rx, rxs⟩ h4
theorem re_tup {t : TA} {dt : TAd} (h1 : RA K t dt) : RE K (tTup t) (dTup dt) := fun σ ds G F μ H Qd Q hs hw h kq => h1 σ ds G F μ H _ _ hs hw h fun xs dxs G1 μ1 H1 e1 w1 rx h3 =>
  ⟨by rw [rx.len]; exact h3.1, fun p hp => kq (.ref p) (.tup dxs) (upd G1 p (.tup xs)) μ1 _ (e1.trans (Ex.new (w1.noG hp))) (w1.newG hp) ⟨p, xs, rfl, SqT.of upd_same, RpL.mono (Ex.new (w1.noG hp)) _ _ rx⟩ h3.2⟩
/-- a new list, by its values -/
theorem new_lst {G F : Hp} {μ : Mu} {H : Hp} {Qd : DK} {Q : VK} {m : Bool} {xs : List D} {vs : List V} (w : Wd K G F μ H) (r : RpL K G xs vs) (h : newLst m xs μ Qd) (kq : KQ K G F Qd Q) {p : Addr} (hp : H p = none) : Q (.ref p) (upd H p (.lst vs)) := by
  cases m with
  | false => exact kq (.ref p) (.lst xs) (upd G p (.lst vs)) μ _ (Ex.new (w.noG hp)) (w.newG hp) ⟨p, vs, rfl, upd_same, RpL.mono (Ex.new (w.noG hp)) _ _ r⟩ h
  | true => exact kq (.ref p) (.obj p) G (put μ p (.lst xs)) _ (Ex.refl G) (w.newM hp ⟨vs, rfl, r⟩) rfl (h p (w.noM hp))
theorem re_lst {m : Bool} {t : TA} {dt : TAd} (h1 : RA K t dt) : RE K (tLst t) (dLst m dt) := fun σ ds G F μ H Qd Q hs hw h kq => h1 σ ds G F μ H _ _ hs hw h fun xs dxs G1 μ1 H1 e1 w1 rx h3 =>
  ⟨by rw [rx.len]; exact h3.1, fun p hp => new_lst w1 rx h3.2 (kq.up e1) hp⟩
theorem re_cb {r : List V → Hp → VK → Prop} {dr : List D → Mu → DK → Prop} {t : TA} {dt : TAd} (hr : RRL K r dr) (h1 : RA K t dt) : RE K (tCB r t) (dCB dr dt) := fun σ ds G F μ H Qd Q hs hw h kq => h1 σ ds G F μ H _ _ hs hw h fun xs dxs G1 μ1 H1 e1 w1 rx h3 =>
  hr xs dxs G1 F μ1 H1 Qd Q rx w1 h3 (kq.up e1)
theorem ro_none : RO K tNoPart dNoPart := fun σ ds G F μ H Qd Q hs hw h kq => kq none G μ H (Ex.refl G) hw h
theorem ro_some (h1 : RE K ta da) : RO K (tPart ta) (dPart da) := fun σ ds G F μ H Qd Q hs hw h kq => h1 σ ds G F μ H _ _ hs hw h fun x dx G1 μ1 H1 e1 w1 rx h3 => by
  cases dx with
  | int i => exact ⟨i, rx, kq (some i) G1 μ1 H1 e1 w1 h3⟩
  | _ => exact h3.elim
end
end DL
set_option Elab.async false
set_option linter.all false
set_option maxRecDepth 100000
set_option maxHeartbeats 4000001
namespace DL
open PySem L2

/-! ### operators by any of several rules -/
theorem OpR.or {X : Cx} {f : Value → Value → Sem Value} {r r' : R2} (h : OpR X f r) (h' : OpR X f r') : OpR X f (fun x y H Q => r x y H Q ∨ r' x y H Q) := by
  intro pins s σ H x y v u Q I rx ry q
  rcases q with q | q
  · exact h pins s σ H x y v u Q I rx ry q
  · exact h' pins s σ H x y v u Q I rx ry q
theorem CallR.or {X : Cx} {f : Value} {r r' : List V → Hp → VK → Prop} (h : CallR X f r) (h' : CallR X f r') : CallR X f (fun xs H Q => r xs H Q ∨ r' xs H Q) := by
  intro pins s σ H xs us Q I rs q
  rcases q with q | q
  · exact h pins s σ H xs us Q I rs q
  · exact h' pins s σ H xs us Q I rs q
section
variable {X : Cx}
def hAdd (K : PySem.W.Frag) : R2 := fun x y H Q => rI0 (fun i j => .int (i + j)) x y H Q ∨ (∃ i j, x = .str i ∧ y = .str j ∧ i.length + j.length ≤ sizeLine ∧ Q (.str (i ++ j)) H) ∨ rCatA K x y H Q ∨ rCat x y H Q
theorem op_addG : OpR X (binaryOp .Add) (hAdd X.K) := OpR.or op_add (OpR.or op_add_str (OpR.or op_catA op_cat))
theorem lst_of_dAdd {m : Bool} {x y : D} {μ : Mu} {Q : DK} (h : dAdd m x y μ Q) : (∃ i j, x = .int i ∧ y = .int j ∧ Q (.int (i + j)) μ) ∨ (∃ a b, x = .str a ∧ y = .str b ∧ a.length + b.length ≤ sizeLine ∧ Q (.str (a ++ b)) μ) ∨
    (∃ xs ys, x = .tup xs ∧ y = .tup ys ∧ xs.length + ys.length ≤ sizeLine ∧ Q (.tup (xs ++ ys)) μ) ∨ ∃ xs ys, LstAt μ x xs ∧ LstAt μ y ys ∧ xs.length + ys.length ≤ sizeLine ∧ newLst m (xs ++ ys) μ Q := by
  unfold dAdd at h
  split at h
  · exact .inl ⟨_, _, rfl, rfl, h⟩
  · exact .inr (.inl ⟨_, _, rfl, rfl, h⟩)
  · exact .inr (.inr (.inl ⟨_, _, rfl, rfl, h⟩))
  · exact .inr (.inr (.inr h))
theorem rr_add {K : PySem.W.Frag} {m : Bool} : RR2 K (hAdd K) (dAdd m) := fun x y dx dy G F μ H Qd Q rx ry w h kq => by
  rcases lst_of_dAdd h with ⟨i, j, rfl, rfl, h⟩ | ⟨a, b, rfl, rfl, hz, h⟩ | ⟨xs, ys, rfl, rfl, hz, h⟩ | ⟨xs, ys, hx, hy, hz, h⟩
  · exact .inl ⟨i, j, rx, ry, kq.here w (d := .int (i + j)) rfl h⟩
  · exact .inr (.inl ⟨a, b, rx, ry, hz, kq.here w (d := .str (a ++ b)) rfl h⟩)
  · obtain ⟨p, vs, rfl, h2, h3⟩ := id rx
    obtain ⟨q, us, rfl, h4, h5⟩ := id ry
    have nilD : ∀ {zs : List D} {ws : List V}, RpL K G zs ws → ws = [] → zs = [] := fun r e => by have l := r.len; rw [e] at l; exact List.length_eq_zero_iff.mp l.symm
    refine .inr (.inr (.inl ⟨p, q, vs, us, rfl, rfl, w.g.t h2, w.g.t h4, by rw [h3.len, h5.len]; exact hz, fun e => ?_, fun _ e => ?_, fun _ _ l hl => ?_⟩))
    · have e' := nilD h3 e
      subst e'
      rw [List.nil_append] at h
      exact kq.here w ry h
    · have e' := nilD h5 e
      subst e'
      rw [List.append_nil] at h
      exact kq.here w rx h
    · exact kq (.ref l) (.tup (xs ++ ys)) (upd G l (.tup (vs ++ us))) μ _ (Ex.new (w.noG hl)) (w.newG hl) ⟨l, _, rfl, SqT.of upd_same, RpL.mono (Ex.new (w.noG hl)) _ _ (h3.app h5)⟩ h
  · obtain ⟨p, vs, rfl, h2, h3⟩ := hx.h w rx
    obtain ⟨q, us, rfl, h4, h5⟩ := hy.h w ry
    exact .inr (.inr (.inr ⟨p, q, vs, us, rfl, rfl, h2, h4, by rw [h3.len, h5.len]; exact hz, fun l hl => new_lst w (h3.app h5) h kq hl⟩))
theorem rr_sub {K : PySem.W.Frag} : RR2 K (rI0 fun i j => .int (i - j)) dSub := fun x y dx dy G F μ H Qd Q rx ry w h kq => by
  unfold dSub at h
  split at h
  · exact ⟨_, _, rx, ry, kq.here w (d := .int _) rfl h⟩
  · exact h.elim
theorem rr_mod {K : PySem.W.Frag} : RR2 K (rI (fun _ j => 0 < j) fun i j => .int (i % j)) dMod := fun x y dx dy G F μ H Qd Q rx ry w h kq => by
  unfold dMod at h
  split at h
  · exact ⟨_, _, rx, ry, h.1, kq.here w (d := .int _) rfl h.2⟩
  · exact h.elim
theorem rr_fdiv {K : PySem.W.Frag} : RR2 K (rI CDiv fun i j => .int (i / j)) dFDiv := fun x y dx dy G F μ H Qd Q rx ry w h kq => by
  unfold dFDiv at h
  split at h
  · exact ⟨_, _, rx, ry, h.1, kq.here w (d := .int _) rfl h.2⟩
  · exact h.elim
theorem rr_pow {K : PySem.W.Frag} : RR2 K (rI CPow fun i j => .int (i ^ j.toNat)) dPow := fun x y dx dy G F μ H Qd Q rx ry w h kq => by
  unfold dPow at h
  split at h
  · exact ⟨_, _, rx, ry, h.1, kq.here w (d := .int _) rfl h.2⟩
  · exact h.elim
theorem rr_cmp {K : PySem.W.Frag} {p : Int → Int → Bool} : RR2 K (rI0 fun i j => .bl (p i j)) (dCmp p) := fun x y dx dy G F μ H Qd Q rx ry w h kq => by
  unfold dCmp at h
  split at h
  · exact ⟨_, _, rx, ry, kq.here w (d := .bl _) rfl h⟩
  · exact h.elim
def rRepS : R2 := fun x y H Q => ∃ a k, x = .str a ∧ y = .int k ∧ 0 ≤ k ∧ k < 1000 ∧ a.length < 1000 ∧ Q (.str (repS a k)) H
theorem foldl_app (l : List (Array Nat)) (acc : Array Nat) : (l.foldl (· ++ ·) acc).toList = acc.toList ++ (l.map Array.toList).flatten := by
  induction l generalizing acc with
  | nil => simp
  | cons a l ih => rw [List.foldl_cons, ih]; simp
theorem len0 {a : Str} (h : a.length = 0) : a.cps.toList = [] := List.length_eq_zero_iff.mp (show a.cps.toList.length = 0 from h)
theorem op_repS : OpR X (binaryOp .Mult) rRepS := by
  intro pins s σ H x y v u Q I rx ry h
  obtain ⟨a, k, rfl, rfl, h0, h1, hl, q⟩ := h
  obtain ⟨t, rfl⟩ := rx
  obtain ⟨t', rfl⟩ := ry
  have hb : ¬ (a.length : Int) > (2 ^ 63 - 1) / k ∨ k < 1 := by
    by_cases hk : k < 1
    · exact .inr hk
    · left
      have : (1000 : Int) ≤ (2 ^ 63 - 1) / k := by
        rw [Int.le_ediv_iff_mul_le (by omega)]
        have : 1000 * k ≤ 1000 * 1000 := by omega
        omega
      omega
  refine P.mul_str ?_ (fun hn _ => by rcases hb with hb | hb; exact hb; exact absurd hb hn) (fun _ _ => ?_) ?_
  · have e1 : ¬ k < -(2 ^ 63 : Int) := by omega
    have e2 : ¬ k ≥ 2 ^ 63 := by omega
    rw [decide_eq_false e1, decide_eq_false e2]; rfl
  · have : a.length * k.toNat ≤ 1000 * 1000 := Nat.mul_le_mul (by omega) (by omega)
    have e : ¬ (a.length * k.toNat > sizeLine) := by
      have : sizeLine = 16777216 := rfl
      omega
    exact decide_eq_false e
  · by_cases hk : k < 1
    · rw [if_pos hk]
      have hk0 : k = 0 := by omega
      have e : repS a k = Str.empty := by subst hk0; rfl
      rw [e] at q
      exact ⟨by decide, ⟨.str Str.empty, H, I.tok _, ⟨_, rfl⟩, q⟩⟩
    · rw [if_neg hk]
      by_cases h2 : (k == 1 || a.length == 0) = true
      · rw [if_pos h2]
        have e : repS a k = a := by
          rw [Bool.or_eq_true] at h2
          rcases h2 with h2 | h2
          · have : k = 1 := by simpa using h2
            subst this
            show (⟨(List.replicate 1 a.cps.toList).flatten.toArray⟩ : Str) = a
            simp
          · have h8 : a.length = 0 := by simpa using h2
            have h3 : a.cps.toList = [] := len0 h8
            have h4 : a = ⟨#[]⟩ := by
              obtain ⟨c⟩ := a
              have : c.toList = [] := h3
              have h9 : c = #[] := Array.toList_eq_nil_iff.mp this
              rw [h9]
            have : (List.replicate k.toNat a.cps.toList).flatten = [] := by rw [h3]; simp
            unfold repS
            rw [this, h4]
        rw [e] at q
        exact ⟨.str a, H, I, ⟨t, rfl⟩, q⟩
      · rw [if_neg h2]
        have e : (⟨(List.replicate k.toNat a.cps).foldl (· ++ ·) #[]⟩ : Str) = repS a k := by
          unfold repS
          congr 1
          apply Array.ext'
          rw [foldl_app]
          simp
        rw [e]
        refine ⟨?_, ⟨.str _, H, I.tok _, ⟨_, rfl⟩, q⟩⟩
        have : (repS a k).length = a.length * k.toNat := by
          show (List.replicate k.toNat a.cps.toList).flatten.toArray.size = _
          have h9 : a.cps.size = a.length := rfl
          simp [Nat.mul_comm, h9]
        have h5 : a.length * k.toNat ≤ 1000 * 1000 := Nat.mul_le_mul (by omega) (by omega)
        rw [this]
        first | omega | (simp [sizeLine]; omega) | simp_all
def hMul : R2 := fun x y H Q => rI CMul (fun i j => .int (i * j)) x y H Q ∨ rRepS x y H Q ∨ rRep x y H Q
theorem op_mulG : OpR X (binaryOp .Mult) hMul := OpR.or op_mul (OpR.or op_repS op_rep)
theorem rpl_rep {K : PySem.W.Frag} {G : Hp} {xs : List D} {vs : List V} (h : RpL K G xs vs) : ∀ n : Nat, RpL K G (List.replicate n xs).flatten (List.replicate n vs).flatten
  | 0 => rfl
  | n + 1 => by rw [List.replicate_succ, List.replicate_succ, List.flatten_cons, List.flatten_cons]; exact h.app (rpl_rep h n)
theorem rr_mul {K : PySem.W.Frag} {m : Bool} : RR2 K hMul (dMul m) := fun x y dx dy G F μ H Qd Q rx ry w h kq => by
  unfold dMul at h
  split at h
  · exact .inl ⟨_, _, rx, ry, h.1, kq.here w (d := .int _) rfl h.2⟩
  · exact .inr (.inl ⟨_, _, rx, ry, h.1, h.2.1, h.2.2.1, kq.here w (d := .str _) rfl h.2.2.2⟩)
  · obtain ⟨xs, hx, h1, h2, hz, h⟩ := h
    obtain ⟨p, vs, rfl, h3, h4⟩ := hx.h w rx
    exact .inr (.inr ⟨p, _, vs, rfl, ry, h3, h1, h2, by rw [h4.len]; exact hz, fun l hl => new_lst w (rpl_rep h4 _) h kq hl⟩)
  · exact h.elim
def hEq (K : PySem.W.Frag) : R2 := fun x y H Q => rEq x y H Q ∨ rEqD K x y H Q
def hNe (K : PySem.W.Frag) : R2 := fun x y H Q => rNe x y H Q ∨ rNeD K x y H Q
theorem op_eqG (hu : X.A.units + 64 < cLine) : OpR X (compareOp .Eq) (hEq X.K) := OpR.or op_eq (op_eqD hu)
theorem op_neG (hu : X.A.units + 64 < cLine) : OpR X (compareOp .NotEq) (hNe X.K) := OpR.or op_ne (op_neD hu)
theorem dec_int (i j : Int) : decide (V.int i = V.int j) = decide (i = j) := by by_cases h : i = j <;> simp [h]
theorem dec_str (i j : Str) : decide (V.str i = V.str j) = decide (i = j) := by by_cases h : i = j <;> simp [h]
theorem rr_eq {K : PySem.W.Frag} : RR2 K (hEq K) (dEqn false) := fun x y dx dy G F μ H Qd Q rx ry w h kq => by
  unfold dEqn at h
  split at h
  · have rx' : x = V.int _ := rx
    have ry' : y = V.int _ := ry
    refine .inl ⟨by rw [rx', ry'] <;> rfl, kq.here w (d := .bl _) ?_ h⟩
    rw [rx', ry', dec_int] <;> rfl
  · have rx' : x = V.str _ := rx
    have ry' : y = V.str _ := ry
    refine .inl ⟨by rw [rx', ry'] <;> rfl, kq.here w (d := .bl _) ?_ h⟩
    rw [rx', ry', dec_str] <;> rfl
  · obtain ⟨p, q, h1, h2, s1, s2, h⟩ := h
    exact .inr ⟨p, q, pdM_dp w rx h1, pdM_dp w ry h2, s1, s2, kq.here w (d := .bl _) rfl h⟩
theorem rr_ne {K : PySem.W.Frag} : RR2 K (hNe K) (dEqn true) := fun x y dx dy G F μ H Qd Q rx ry w h kq => by
  unfold dEqn at h
  split at h
  · have rx' : x = V.int _ := rx
    have ry' : y = V.int _ := ry
    refine .inl ⟨by rw [rx', ry'] <;> rfl, kq.here w (d := .bl _) ?_ h⟩
    rw [rx', ry', dec_int] <;> rfl
  · have rx' : x = V.str _ := rx
    have ry' : y = V.str _ := ry
    refine .inl ⟨by rw [rx', ry'] <;> rfl, kq.here w (d := .bl _) ?_ h⟩
    rw [rx', ry', dec_str] <;> rfl
  · obtain ⟨p, q, h1, h2, s1, s2, h⟩ := h
    exact .inr ⟨p, q, pdM_dp w rx h1, pdM_dp w ry h2, s1, s2, kq.here w (d := .bl _) rfl h⟩
def hIn (K : PySem.W.Frag) (neg : Bool) : R2 := fun x y H Q => (∃ (c : Nat) (z : Str), x = .str ⟨#[c]⟩ ∧ y = .str z ∧ Q (.bl (if neg then !decide (c ∈ z.cps.toList) else decide (c ∈ z.cps.toList))) H) ∨ rIn K neg x y H Q
theorem op_inG : OpR X (compareOp .In) (hIn X.K false) := OpR.or (op_in_sign) op_in_seq
theorem op_notInG : OpR X (compareOp .NotIn) (hIn X.K true) := OpR.or (op_notIn_sign) op_notIn_seq
theorem rr_in {K : PySem.W.Frag} {neg : Bool} : RR2 K (hIn K neg) (dIn neg) := fun x y dx dy G F μ H Qd Q rx ry w h kq => by
  unfold dIn at h
  split at h
  · obtain ⟨c, rfl, h⟩ := h
    exact .inl ⟨c, _, rx, ry, kq.here w (d := .bl _) rfl h⟩
  · obtain ⟨xs, hs, f1, f2, h⟩ := h
    obtain ⟨a, vs, rfl, hq, hr⟩ := hs.h w ry
    obtain ⟨e1, e2⟩ := Rp.vOf_eq f1 rx
    obtain ⟨e3, e4⟩ := RpL.vOf_eq f2 hr
    refine .inr ⟨a, vs, rfl, hq, e2, e4, kq.here w (d := .bl _) ?_ h⟩
    rw [e1, e3]
    rfl
theorem isNon_dec {K : PySem.W.Frag} {G : Hp} {x : D} {v : V} (r : Rp K G x v) : decide (v = .non) = isNon x := by
  cases x with
  | non => have r' : v = V.non := r; rw [r'] <;> rfl
  | bl b => have r' : v = V.bl b := r; rw [r'] <;> rfl
  | int b => have r' : v = V.int b := r; rw [r'] <;> rfl
  | str b => have r' : v = V.str b := r; rw [r'] <;> rfl
  | ty b => have r' : v = V.ty b := r; rw [r'] <;> rfl
  | obj b => have r' : v = V.ref b := r; rw [r'] <;> rfl
  | tup _ => obtain ⟨a, _, rfl, _⟩ := r; rfl
  | lst _ => obtain ⟨a, _, rfl, _⟩ := r; rfl
  | scr _ => obtain ⟨a, _, rfl, _⟩ := r; rfl
  | exc _ _ => obtain ⟨a, _, rfl, _⟩ := r; rfl
theorem rr_isN {K : PySem.W.Frag} : RR2 K (fun x y H Q => y = .non ∧ Q (.bl (decide (x = .non))) H) (dIsN false) := fun x y dx dy G F μ H Qd Q rx ry w h kq => by
  unfold dIsN at h
  split at h
  · exact ⟨ry, kq.here w (d := .bl _) (by rw [isNon_dec rx] <;> rfl) h⟩
  · exact h.elim
theorem rr_notN {K : PySem.W.Frag} : RR2 K (fun x y H Q => y = .non ∧ Q (.bl (!decide (x = .non))) H) (dIsN true) := fun x y dx dy G F μ H Qd Q rx ry w h kq => by
  unfold dIsN at h
  split at h
  · exact ⟨ry, kq.here w (d := .bl _) (by rw [isNon_dec rx] <;> rfl) h⟩
  · exact h.elim
theorem RpL.atI {K : PySem.W.Frag} {G : Hp} {xs : List D} {vs : List V} {i : Int} {d : D} (h : RpL K G xs vs) (e : L2.atI xs i = some d) : ∃ v, L2.atI vs i = some v ∧ Rp K G d v := by
  unfold L2.atI at e ⊢
  rw [h.len]
  cases q : ixN xs.length i with
  | none => rw [q] at e; cases e
  | some j => rw [q] at e; exact h.get e
theorem rr_ix {K : PySem.W.Frag} : RR2 K (rIx K) dIx := fun x y dx dy G F μ H Qd Q rx ry w h kq => by
  unfold dIx at h
  split at h
  · obtain ⟨hz, c, hc, h⟩ := h
    exact .inr (.inr ⟨_, _, c, rx, ry, hz, hc, kq.here w (d := .str _) rfl h⟩)
  · obtain ⟨xs, d, hs, ha, h⟩ := h
    obtain ⟨a, vs, rfl, hq, hr⟩ := hs.h w rx
    obtain ⟨v, hv, rv⟩ := hr.atI ha
    rcases hq with hq | hq
    · exact .inl ⟨a, vs, _, v, rfl, ry, hq, hv, kq.here w rv h⟩
    · exact .inr (.inl ⟨a, vs, _, v, rfl, ry, hq, hv, kq.here w rv h⟩)
  · exact h.elim
theorem RpL.cut {K : PySem.W.Frag} {G : Hp} {xs : List D} {vs : List V} (h : RpL K G xs vs) (lo hi : Option Int) : RpL K G (cutD xs lo hi) (cutV vs lo hi) := by
  unfold cutD cutV
  rw [h.len]
  exact (h.drop _).take _
def hSl (K : PySem.W.Frag) : V → Option Int → Option Int → Hp → VK → Prop := fun x lo hi H Q => rSlS x lo hi H Q ∨ rSlA K x lo hi H Q ∨ rSlL K x lo hi H Q
theorem sl_G : SlR X (hSl X.K) := SlR.or sl_str (SlR.or sl_tupA sl_list)
theorem cut_all {α : Type} (xs : List α) (lo hi : Option Int) (h : HT.sIx xs.length 0 lo = 0 ∧ HT.sIx xs.length xs.length hi = xs.length) : (xs.drop (HT.sIx xs.length 0 lo)).take (HT.sIx xs.length xs.length hi - HT.sIx xs.length 0 lo) = xs := by
  rw [h.1, h.2]; simp
theorem re_sl {K : PySem.W.Frag} {m : Bool} {te : TE} {tl th : TO} {de : TD} {dl dh : TOd} (h1 : RE K te de) (h2 : RO K tl dl) (h3 : RO K th dh) : RE K (tSl (hSl K) te tl th) (dSl m de dl dh) :=
  fun σ ds G F μ H Qd Q hs hw h kq => h1 σ ds G F μ H _ _ hs hw h fun x dx G1 μ1 H1 e1 w1 rx q1 => h2 σ ds G1 F μ1 H1 _ _ (hs.mono e1) w1 q1 fun lo G2 μ2 H2 e2 w2 q2 =>
    h3 σ ds G2 F μ2 H2 _ _ (hs.mono (e1.trans e2)) w2 q2 fun hi G3 μ3 H3 e3 w3 q3 => by
      have rx3 := Rp.mono (e2.trans e3) _ _ rx
      have kq3 := kq.up (e1.trans (e2.trans e3))
      split at q3
      · exact .inl ⟨_, rx3, q3.1, kq3.here w3 (d := .str _) rfl q3.2⟩
      · rename_i xs
        obtain ⟨a, vs, rfl, hq, hr⟩ := id rx3
        refine .inr (.inl ⟨a, vs, rfl, w3.g.t hq, fun whole => ?_, fun _ p hp => kq3 (.ref p) (.tup _) (upd G3 p (.tup (cutV vs lo hi))) μ3 _ (Ex.new (w3.noG hp)) (w3.newG hp) ⟨p, _, rfl, SqT.of upd_same, RpL.mono (Ex.new (w3.noG hp)) _ _ (hr.cut lo hi)⟩ q3⟩)
        have e : cutD xs lo hi = xs := cut_all xs lo hi (by rw [← hr.len]; exact whole)
        rw [e] at q3
        exact kq3.here w3 rx3 q3
      · obtain ⟨xs, hq, q⟩ := q3
        rename_i d hno1 hno2
        have : ∃ a vs, x = .ref a ∧ SqL K H3 a vs ∧ RpL K G3 xs vs := by
          cases dx with
          | str z => exact absurd rfl (hno1 z)
          | tup ys => exact absurd rfl (hno2 ys)
          | lst ys =>
            obtain ⟨a, vs, h1, h2, h3⟩ := rx3
            have h' : ys = xs := hq
            subst h'
            exact ⟨a, vs, h1, SqL.of (w3.g _ _ h2), h3⟩
          | scr ys =>
            obtain ⟨a, vs, h1, h2, h3⟩ := rx3
            have h' : ys = xs := hq
            subst h'
            exact ⟨a, vs, h1, w3.g.l h2, h3⟩
          | obj a =>
            have r' : x = .ref a := rx3
            have h' : μ3 a = some (.lst xs) := hq
            obtain ⟨o, h1, ⟨vs, h2, h4⟩, h3⟩ := w3.m a _ h'
            subst h2
            exact ⟨a, vs, r', SqL.of h1, h4⟩
          | _ => exact False.elim hq
        obtain ⟨a, vs, rfl, hl, hr⟩ := this
        exact .inr (.inr ⟨a, vs, rfl, hl, fun p hp => new_lst w3 (hr.cut lo hi) q kq3 hp⟩)
/-! ### built-ins that are called -/
def hLen (K : PySem.W.Frag) : List V → Hp → VK → Prop := fun xs H Q => (∃ p ys, xs = [.ref p] ∧ (SqL K H p ys ∨ SqT K H p ys) ∧ Q (.int ys.length) H) ∨ ∃ z, xs = [.str z] ∧ z.length ≤ sizeLine ∧ Q (.int z.length) H
theorem call_lenG : CallR X (.builtin "len") (hLen X.K) := CallR.or call_len_seq call_len_str
def dLen : List D → Mu → DK → Prop
  | [.str z], μ, Q => z.length ≤ sizeLine ∧ Q (.int z.length) μ
  | [x], μ, Q => ∃ xs, SeqD μ x xs ∧ Q (.int xs.length) μ
  | _, _, _ => False
theorem rpl1 {K : PySem.W.Frag} {G : Hp} {x : D} {vs : List V} (h : RpL K G [x] vs) : ∃ v, vs = [v] ∧ Rp K G x v := by
  obtain ⟨v, r, h1, h2, h3⟩ := h
  rw [RpL] at h3
  subst h3
  exact ⟨v, h1, h2⟩
theorem rpl2 {K : PySem.W.Frag} {G : Hp} {x y : D} {vs : List V} (h : RpL K G [x, y] vs) : ∃ v u, vs = [v, u] ∧ Rp K G x v ∧ Rp K G y u := by
  obtain ⟨v, r, h1, h2, h3⟩ := h
  obtain ⟨u, rfl, h4⟩ := rpl1 h3
  exact ⟨v, u, h1, h2, h4⟩
theorem rl_len {K : PySem.W.Frag} : RRL K (hLen K) dLen := fun vs ds G F μ H Qd Q rs w h kq => by
  unfold dLen at h
  split at h
  · obtain ⟨v, rfl, rv⟩ := rpl1 rs
    have rv' : v = V.str _ := rv
    exact .inr ⟨_, by rw [rv'], h.1, kq.here w (d := .int _) rfl h.2⟩
  · obtain ⟨v, rfl, rv⟩ := rpl1 rs
    obtain ⟨xs, hs, h⟩ := h
    obtain ⟨a, us, rfl, hq, hr⟩ := hs.h w rv
    exact .inl ⟨a, us, rfl, hq, kq.here w (d := .int _) (by rw [hr.len] <;> rfl) h⟩
  · exact h.elim
def dInt : List D → Mu → DK → Prop
  | [.int i], μ, Q => Q (.int i) μ
  | [.bl k], μ, Q => Q (.int (if k then 1 else 0)) μ
  | _, _, _ => False
theorem rl_int {K : PySem.W.Frag} : RRL K (fun xs H Q => (∃ i, xs = [.int i] ∧ Q (.int i) H) ∨ ∃ k, xs = [.bl k] ∧ Q (.int (if k then 1 else 0)) H) dInt := fun vs ds G F μ H Qd Q rs w h kq => by
  unfold dInt at h
  split at h
  · obtain ⟨v, rfl, rv⟩ := rpl1 rs
    have rv' : v = V.int _ := rv
    exact .inl ⟨_, by rw [rv'], kq.here w (d := .int _) rfl h⟩
  · obtain ⟨v, rfl, rv⟩ := rpl1 rs
    have rv' : v = V.bl _ := rv
    exact .inr ⟨_, by rw [rv'], kq.here w (d := .int _) rfl h⟩
  · exact h.elim
def hStr : List V → Hp → VK → Prop := fun xs H Q => (∃ i, xs = [.int i] ∧ i.natAbs.log2 < 1920 ∧ Q (.str (toString i)) H) ∨ ∃ z, xs = [.str z] ∧ Q (.str z) H
theorem call_str_str : CallR X (.type "str") (fun xs H Q => ∃ z, xs = [.str z] ∧ Q (.str z) H) := by
  intro pins s σ H xs us Q I rs h
  obtain ⟨z, rfl, q⟩ := h
  cases rs with
  | cons r rr =>
    cases rr
    obtain ⟨t, rfl⟩ := r
    exact P.str_of_str ⟨.str z, H, I, ⟨t, rfl⟩, q⟩
theorem call_strG : CallR X (.type "str") hStr := CallR.or call_str_int call_str_str
def dStr : List D → Mu → DK → Prop
  | [.int i], μ, Q => i.natAbs.log2 < 1920 ∧ Q (.str (toString i)) μ
  | [.str z], μ, Q => Q (.str z) μ
  | _, _, _ => False
theorem rl_str {K : PySem.W.Frag} : RRL K hStr dStr := fun vs ds G F μ H Qd Q rs w h kq => by
  unfold dStr at h
  split at h
  · obtain ⟨v, rfl, rv⟩ := rpl1 rs
    have rv' : v = V.int _ := rv
    exact .inl ⟨_, by rw [rv'], h.1, kq.here w (d := .str _) rfl h.2⟩
  · obtain ⟨v, rfl, rv⟩ := rpl1 rs
    have rv' : v = V.str _ := rv
    exact .inr ⟨_, by rw [rv'], kq.here w (d := .str _) rfl h⟩
  · exact h.elim
def dTupOf : List D → Mu → DK → Prop
  | [.tup xs], μ, Q => Q (.tup xs) μ
  | [x], μ, Q => ∃ xs, SeqD μ x xs ∧ Q (.tup xs) μ
  | _, _, _ => False
theorem rl_tupOf {K : PySem.W.Frag} : RRL K (fun xs H Q => ∃ p ys, xs = [.ref p] ∧ ((SqL K H p ys ∧ ∀ l, H l = none → Q (.ref l) (upd H l (.tup ys))) ∨ (SqT K H p ys ∧ Q (.ref p) H))) dTupOf := fun vs ds G F μ H Qd Q rs w h kq => by
  unfold dTupOf at h
  split at h
  · obtain ⟨v, rfl, rv⟩ := rpl1 rs
    obtain ⟨a, us, rfl, hq, hr⟩ := id rv
    exact ⟨a, us, rfl, .inr ⟨w.g.t hq, kq.here w rv h⟩⟩
  · obtain ⟨v, rfl, rv⟩ := rpl1 rs
    obtain ⟨xs, hs, h⟩ := h
    obtain ⟨a, us, rfl, hq, hr⟩ := hs.h w rv
    rename_i x hx
    rcases hq with hq | hq
    · exact ⟨a, us, rfl, .inl ⟨hq, fun l hl => kq (.ref l) (.tup xs) (upd G l (.tup us)) μ _ (Ex.new (w.noG hl)) (w.newG hl) ⟨l, us, rfl, SqT.of upd_same, RpL.mono (Ex.new (w.noG hl)) _ _ hr⟩ h⟩⟩
    · cases x with
      | tup ys => exact absurd rfl (hx ys)
      | lst ys =>
        obtain ⟨b, ws, e1, e2, e3⟩ := rv
        cases e1
        have h' : ys = xs := hs
        subst h'
        exact ⟨_, ws, rfl, .inl ⟨SqL.of (w.g _ _ e2), fun l hl => kq (.ref l) (.tup ys) (upd G l (.tup ws)) μ _ (Ex.new (w.noG hl)) (w.newG hl) ⟨l, ws, rfl, SqT.of upd_same, RpL.mono (Ex.new (w.noG hl)) _ _ e3⟩ h⟩⟩
      | scr ys =>
        obtain ⟨b, ws, e1, e2, e3⟩ := rv
        cases e1
        have h' : ys = xs := hs
        subst h'
        exact ⟨_, ws, rfl, .inl ⟨w.g.l e2, fun l hl => kq (.ref l) (.tup ys) (upd G l (.tup ws)) μ _ (Ex.new (w.noG hl)) (w.newG hl) ⟨l, ws, rfl, SqT.of upd_same, RpL.mono (Ex.new (w.noG hl)) _ _ e3⟩ h⟩⟩
      | obj b =>
        have r' : V.ref a = .ref b := rv
        cases r'
        have h' : μ a = some (.lst xs) := hs
        obtain ⟨o, h1, ⟨ws, h2, h4⟩, h3⟩ := w.m a _ h'
        subst h2
        exact ⟨_, ws, rfl, .inl ⟨SqL.of h1, fun l hl => kq (.ref l) (.tup xs) (upd G l (.tup ws)) μ _ (Ex.new (w.noG hl)) (w.newG hl) ⟨l, ws, rfl, SqT.of upd_same, RpL.mono (Ex.new (w.noG hl)) _ _ h4⟩ h⟩⟩
      | _ => exact False.elim hs
  · exact h.elim
def dListOf (m : Bool) : List D → Mu → DK → Prop
  | [x], μ, Q => ∃ xs, SeqD μ x xs ∧ newLst m xs μ Q
  | _, _, _ => False
theorem rl_listOf {K : PySem.W.Frag} {m : Bool} : RRL K (fun xs H Q => ∃ p ys, xs = [.ref p] ∧ (SqL K H p ys ∨ SqT K H p ys) ∧ ∀ l, H l = none → Q (.ref l) (upd H l (.lst ys))) (dListOf m) := fun vs ds G F μ H Qd Q rs w h kq => by
  unfold dListOf at h
  split at h
  · obtain ⟨v, rfl, rv⟩ := rpl1 rs
    obtain ⟨xs, hs, h⟩ := h
    obtain ⟨a, us, rfl, hq, hr⟩ := hs.h w rv
    exact ⟨a, us, rfl, hq, fun l hl => new_lst w hr h kq hl⟩
  · exact h.elim
def dMax2 : List D → Mu → DK → Prop
  | [.int i, .int j], μ, Q => Q (.int (if j > i then j else i)) μ
  | _, _, _ => False
theorem rl_max2 {K : PySem.W.Frag} : RRL K (fun xs H Q => ∃ i j, xs = [.int i, .int j] ∧ Q (.int (if j > i then j else i)) H) dMax2 := fun vs ds G F μ H Qd Q rs w h kq => by
  unfold dMax2 at h
  split at h
  · obtain ⟨v, u, rfl, rv, ru⟩ := rpl2 rs
    have rv' : v = V.int _ := rv
    have ru' : u = V.int _ := ru
    exact ⟨_, _, by rw [rv', ru'], kq.here w (d := .int _) rfl h⟩
  · exact h.elim
def dSum : List D → Mu → DK → Prop
  | [x], μ, Q => ∃ ns : List Int, LstAt μ x (ns.map D.int) ∧ Q (.int ns.sum) μ
  | _, _, _ => False
theorem rl_sum {K : PySem.W.Frag} : RRL K (rSum K) dSum := fun vs ds G F μ H Qd Q rs w h kq => by
  unfold dSum at h
  split at h
  · obtain ⟨v, rfl, rv⟩ := rpl1 rs
    obtain ⟨ns, hs, h⟩ := h
    obtain ⟨a, us, rfl, hq, hr⟩ := hs.h w rv
    have := hr.ints
    subst this
    exact ⟨a, ns, rfl, SqL.of hq, kq.here w (d := .int _) rfl h⟩
  · exact h.elim
def dAll : List D → Mu → DK → Prop
  | [x], μ, Q => ∃ bs : List Bool, LstAt μ x (bs.map D.bl) ∧ Q (.bl (bs.all id)) μ
  | _, _, _ => False
theorem rl_all {K : PySem.W.Frag} : RRL K (rAll K) dAll := fun vs ds G F μ H Qd Q rs w h kq => by
  unfold dAll at h
  split at h
  · obtain ⟨v, rfl, rv⟩ := rpl1 rs
    obtain ⟨ns, hs, h⟩ := h
    obtain ⟨a, us, rfl, hq, hr⟩ := hs.h w rv
    have := hr.bls
    subst this
    exact ⟨a, ns, rfl, SqL.of hq, kq.here w (d := .bl _) rfl h⟩
  · exact h.elim
/-! ### methods of lists and texts -/
def dAppend : D → List D → Mu → DK → Prop
  | .obj a, [y], μ, Q => ∃ xs, μ a = some (.lst xs) ∧ xs.length < sizeLine ∧ Q .non (put μ a (.lst (xs ++ [y])))
  | _, _, _, _ => False
def dInsert : D → List D → Mu → DK → Prop
  | .obj a, [.int i, y], μ, Q => ∃ xs, μ a = some (.lst xs) ∧ xs.length < sizeLine ∧ 0 ≤ i ∧ i < 2 ^ 63 ∧ Q .non (put μ a (.lst (xs.take i.toNat ++ [y] ++ xs.drop i.toNat)))
  | _, _, _, _ => False
def dPopAt : D → List D → Mu → DK → Prop
  | .obj a, [.int i], μ, Q => ∃ xs y, μ a = some (.lst xs) ∧ 0 ≤ i ∧ i < 2 ^ 63 ∧ xs[i.toNat]? = some y ∧ Q y (put μ a (.lst (xs.eraseIdx i.toNat)))
  | _, _, _, _ => False
theorem Wd.lstM {K : PySem.W.Frag} {G F : Hp} {μ : Mu} {H : Hp} (w : Wd K G F μ H) {a : Addr} {xs : List D} (h : μ a = some (.lst xs)) : ∃ vs, H a = some (.lst vs) ∧ RpL K G xs vs := by
  obtain ⟨o, h1, ⟨vs, h2, h4⟩, h3⟩ := w.m a _ h
  subst h2
  exact ⟨vs, h1, h4⟩
theorem Wd.chgL {K : PySem.W.Frag} {G F : Hp} {μ : Mu} {H : Hp} (w : Wd K G F μ H) {p : Addr} {xs : List D} {vs : List V} {m0 : MO} (h : μ p = some m0) (r : RpL K G xs vs) : Wd K G F (put μ p (.lst xs)) (upd H p (.lst vs)) :=
  w.chg (m := .lst xs) h ⟨vs, rfl, r⟩
theorem rm_append {K : PySem.W.Frag} : RRM K rAppend dAppend := fun x xs dx ds G F μ H Qd Q rx rs w h kq => by
  unfold dAppend at h
  split at h
  · have rx' : x = V.ref _ := rx
    obtain ⟨v, rfl, rv⟩ := rpl1 rs
    obtain ⟨ys, hm, hz, h⟩ := h
    obtain ⟨vs, h1, h2⟩ := w.lstM hm
    exact ⟨_, vs, v, rx', rfl, h1, by rw [h2.len]; exact hz, kq _ .non G _ _ (Ex.refl G) (w.chgL hm (h2.app (RpL.one rv))) rfl h⟩
  · exact h.elim
theorem rm_insert {K : PySem.W.Frag} : RRM K (fun x vs H Q => ∃ (l : Addr) (xs : List V) (i : Int) (y : V), x = .ref l ∧ vs = [.int i, y] ∧ H l = some (.lst xs) ∧ xs.length < sizeLine ∧ 0 ≤ i ∧ i < 2 ^ 63 ∧ Q .non (upd H l (.lst (xs.take i.toNat ++ [y] ++ xs.drop i.toNat)))) dInsert := fun x xs dx ds G F μ H Qd Q rx rs w h kq => by
  unfold dInsert at h
  split at h
  · have rx' : x = V.ref _ := rx
    obtain ⟨v, u, rfl, rv, ru⟩ := rpl2 rs
    have rv' : v = V.int _ := rv
    obtain ⟨ys, hm, hz, h0, h63, h⟩ := h
    obtain ⟨vs, h1, h2⟩ := w.lstM hm
    exact ⟨_, vs, _, u, rx', by rw [rv'], h1, by rw [h2.len]; exact hz, h0, h63, kq _ .non G _ _ (Ex.refl G) (w.chgL hm (((h2.take _).app (RpL.one ru)).app (h2.drop _))) rfl h⟩
  · exact h.elim
theorem rm_popAt {K : PySem.W.Frag} : RRM K rPopAt dPopAt := fun x xs dx ds G F μ H Qd Q rx rs w h kq => by
  unfold dPopAt at h
  split at h
  · rename_i a i
    have rx' : x = V.ref _ := rx
    obtain ⟨v, rfl, rv⟩ := rpl1 rs
    have rv' : v = V.int _ := rv
    obtain ⟨ys, y, hm, h0, h63, hy, h⟩ := h
    obtain ⟨vs, h1, h2⟩ := w.lstM hm
    obtain ⟨u, hu, ru⟩ := h2.get hy
    have hlt : i.toNat < vs.length := (List.getElem?_eq_some_iff.mp hu).1
    refine ⟨_, vs, _, i.toNat, u, rx', by rw [rv'], h1, by omega, h63, ?_, hu, kq _ y G _ _ (Ex.refl G) (w.chgL hm (h2.eraseIdx _)) ru h⟩
    unfold seqIndex?
    first | (simp; omega) | (split <;> first | (simp; omega) | omega)
  · exact h.elim
def isLstM (μ : Mu) : D → Prop
  | .obj a => ∃ xs, μ a = some (.lst xs)
  | _ => False
/-- a method of a list that may change -/
def dBML (r : D → List D → Mu → DK → Prop) (to : TD) (t : TAd) : TD := fun ds μ Q => to ds μ fun x μ1 => isLstM μ1 x ∧ t ds μ1 fun xs μ2 => r x xs μ2 Q
theorem re_bml {K : PySem.W.Frag} {r : V → List V → Hp → VK → Prop} {dr : D → List D → Mu → DK → Prop} {to : TE} {t : TA} {dto : TD} {dt : TAd} (hr : RRM K r dr) (h1 : RE K to dto) (h2 : RA K t dt) : RE K (tBM K "list" r to t) (dBML dr dto dt) :=
  fun σ ds G F μ H Qd Q hs hw h kq => h1 σ ds G F μ H _ _ hs hw h fun x dx G1 μ1 H1 e1 w1 rx q1 => by
    obtain ⟨q0, q1⟩ := q1
    refine ⟨?_, h2 σ ds G1 F μ1 H1 _ _ (hs.mono e1) w1 q1 fun xs dxs G2 μ2 H2 e2 w2 rxs q2 => hr x xs dx dxs G2 F μ2 H2 Qd Q (Rp.mono e2 _ _ rx) rxs w2 q2 (kq.up (e1.trans e2))⟩
    cases dx with
    | obj a =>
      obtain ⟨xs, hm⟩ := q0
      obtain ⟨vs, h3, h4⟩ := w1.lstM hm
      have rx' : x = V.ref a := rx
      subst rx'
      exact .inl ⟨rfl, vs, SqL.of h3⟩
    | _ => exact False.elim q0
/-- a method of a text, one argument, none -/
def dM1 (r : D → List D → Mu → DK → Prop) (to te : TD) : TD := fun ds μ Q => to ds μ fun x μ1 => (∃ a, x = .str a) ∧ te ds μ1 fun y μ2 => r x [y] μ2 Q
def dM0 (r : D → List D → Mu → DK → Prop) (to : TD) : TD := fun ds μ Q => to ds μ fun x μ1 => (∃ a, x = .str a) ∧ r x [] μ1 Q
theorem re_m1 {K : PySem.W.Frag} {r : V → List V → Hp → VK → Prop} {dr : D → List D → Mu → DK → Prop} {to te : TE} {dto dte : TD} (hr : RRM K r dr) (h1 : RE K to dto) (h2 : RE K te dte) : RE K (tM1 r to te) (dM1 dr dto dte) :=
  fun σ ds G F μ H Qd Q hs hw h kq => h1 σ ds G F μ H _ _ hs hw h fun x dx G1 μ1 H1 e1 w1 rx q1 => by
    obtain ⟨⟨a, rfl⟩, q1⟩ := q1
    exact ⟨⟨a, rx⟩, h2 σ ds G1 F μ1 H1 _ _ (hs.mono e1) w1 q1 fun y dy G2 μ2 H2 e2 w2 ry q2 => hr x [y] (.str a) [dy] G2 F μ2 H2 Qd Q (Rp.mono e2 _ _ rx) (RpL.one ry) w2 q2 (kq.up (e1.trans e2))⟩
theorem re_m0 {K : PySem.W.Frag} {r : V → List V → Hp → VK → Prop} {dr : D → List D → Mu → DK → Prop} {to : TE} {dto : TD} (hr : RRM K r dr) (h1 : RE K to dto) : RE K (tM0 r to) (dM0 dr dto) :=
  fun σ ds G F μ H Qd Q hs hw h kq => h1 σ ds G F μ H _ _ hs hw h fun x dx G1 μ1 H1 e1 w1 rx q1 => by
    obtain ⟨⟨a, rfl⟩, q1⟩ := q1
    exact ⟨⟨a, rx⟩, hr x [] (.str a) [] G1 F μ1 H1 Qd Q rx rfl w1 q1 (kq.up e1)⟩
def dJoin : D → List D → Mu → DK → Prop
  | .str a, [x], μ, Q => ∃ ys : List Str, SeqD μ x (ys.map D.str) ∧ (ys.map (·.length)).sum + ys.length * a.length ≤ 16777216 ∧ Q (.str (Txt.join a ys)) μ
  | _, _, _, _ => False
theorem rm_join {K : PySem.W.Frag} : RRM K (fun x xs H Q => ∃ a p, ∃ ys : List Str, x = .str a ∧ xs = [.ref p] ∧ (SqL K H p (ys.map V.str) ∨ SqT K H p (ys.map V.str)) ∧
    (ys.map (·.length)).sum + ys.length * a.length ≤ 16777216 ∧ Q (.str (Txt.join a ys)) H) dJoin := fun x xs dx ds G F μ H Qd Q rx rs w h kq => by
  unfold dJoin at h
  split at h
  · obtain ⟨v, rfl, rv⟩ := rpl1 rs
    obtain ⟨ys, hs, hz, h⟩ := h
    obtain ⟨p, vs, rfl, hq, hr⟩ := hs.h w rv
    have := hr.strs
    subst this
    exact ⟨_, p, ys, rx, rfl, hq, hz, kq.here w (d := .str _) rfl h⟩
  · exact h.elim
def dSplit (m : Bool) : D → List D → Mu → DK → Prop
  | .str a, [.str b], μ, Q => (b.length == 0) = false ∧ a.length + 2 ≤ sizeLine ∧ newLst m ((Txt.split a b).map D.str) μ Q
  | _, _, _, _ => False
theorem rpl_strs {K : PySem.W.Frag} {G : Hp} : ∀ (ys : List Str), RpL K G (ys.map D.str) (ys.map V.str)
  | [] => rfl
  | y :: ys => ⟨.str y, _, rfl, rfl, rpl_strs ys⟩
theorem rpl_ints {K : PySem.W.Frag} {G : Hp} : ∀ (ys : List Int), RpL K G (ys.map D.int) (ys.map V.int)
  | [] => rfl
  | y :: ys => ⟨.int y, _, rfl, rfl, rpl_ints ys⟩
theorem rm_split {K : PySem.W.Frag} {m : Bool} : RRM K (fun x xs H Q => ∃ a b, x = .str a ∧ xs = [.str b] ∧ (b.length == 0) = false ∧ a.length + 2 ≤ sizeLine ∧ rNewStrs (Txt.split a b) H Q) (dSplit m) := fun x xs dx ds G F μ H Qd Q rx rs w h kq => by
  unfold dSplit at h
  split at h
  · obtain ⟨v, rfl, rv⟩ := rpl1 rs
    have rv' : v = V.str _ := rv
    exact ⟨_, _, rx, by rw [rv'], h.1, h.2.1, fun p hp => new_lst w (rpl_strs _) h.2.2 kq hp⟩
  · exact h.elim
def dUpper : D → List D → Mu → DK → Prop
  | .str a, [], μ, Q => a.length ≤ 5592405 ∧ Q (.str (Txt.upper a)) μ
  | _, _, _, _ => False
theorem rm_upper {K : PySem.W.Frag} : RRM K (fun x xs H Q => ∃ a, x = .str a ∧ xs = [] ∧ a.length ≤ 5592405 ∧ Q (.str (Txt.upper a)) H) dUpper := fun x xs dx ds G F μ H Qd Q rx rs w h kq => by
  unfold dUpper at h
  split at h
  · exact ⟨_, rx, rs, h.1, kq.here w (d := .str _) rfl h.2⟩
  · exact h.elim
end
end DL
set_option Elab.async false
set_option linter.all false
set_option maxRecDepth 100000
set_option maxHeartbeats 4000001
namespace DL
open PySem L2

/-! ### ends, statements -/
structure DEnds where
  nx : DSl → Mu → Prop
  rt : DK
  bk : DSl → Mu → Prop := fun _ _ => False
  ct : DSl → Mu → Prop := fun _ _ => False
abbrev DS := DEnds → DSl → Mu → Prop
section
variable (K : PySem.W.Frag)
def KS (G F : Hp) (Qd : DSl → Mu → Prop) (Q : St → Hp → Prop) : Prop := ∀ σ ds G' μ' H', Ex G G' → RpS K G' ds σ → Wd K G' F μ' H' → Qd ds μ' → Q σ H'
structure REn (G F : Hp) (E : Ends) (D : DEnds) : Prop where
  nx : KS K G F D.nx E.nx
  rt : KQ K G F D.rt E.rt
  bk : KS K G F D.bk E.bk
  ct : KS K G F D.ct E.ct
def RS (ts : TS) (td : DS) : Prop := ∀ σ ds G F μ H E D, RpS K G ds σ → Wd K G F μ H → td D ds μ → REn K G F E D → ts E σ H
end
theorem KS.up {K : PySem.W.Frag} {G G1 F : Hp} {Qd : DSl → Mu → Prop} {Q : St → Hp → Prop} (e : Ex G G1) (k : KS K G F Qd Q) : KS K G1 F Qd Q := fun σ ds G' μ' H' e' => k σ ds G' μ' H' (e.trans e')
theorem REn.up {K : PySem.W.Frag} {G G1 F : Hp} {E : Ends} {D : DEnds} (e : Ex G G1) (k : REn K G F E D) : REn K G1 F E D := ⟨k.nx.up e, k.rt.up e, k.bk.up e, k.ct.up e⟩

def dNext : DS := fun D ds μ => D.nx ds μ
def dSeq (t u : DS) : DS := fun D ds μ => t { D with nx := u D } ds μ
def dBreak : DS := fun D ds μ => D.bk ds μ
def dCont : DS := fun D ds μ => D.ct ds μ
def dDrop (te : TD) : DS := fun D ds μ => te ds μ fun _ μ1 => D.nx ds μ1
def dRet (te : TD) : DS := fun D ds μ => te ds μ D.rt
def dRetN : DS := fun D _ μ => D.rt .non μ
def dIfS (c : TTd) (t u : DS) : DS := fun D ds μ => c ds μ fun b μ1 => if b = true then t D ds μ1 else u D ds μ1
def dSet (i : Nat) (te : TD) : DS := fun D ds μ => te ds μ fun x μ1 => D.nx (ds.set i (some x)) μ1
def setAll : DSl → List Nat → List D → DSl
  | ds, i :: is, x :: xs => setAll (ds.set i (some x)) is xs
  | ds, _, _ => ds
/-- a target: what is stored, then what follows -/
abbrev DG := D → DSl → Mu → (DSl → Mu → Prop) → Prop
def dgName (i : Nat) : DG := fun d ds μ Q => Q (ds.set i (some d)) μ
def dgTup (is : List Nat) : DG := fun d ds μ Q => match d with
  | .tup xs => xs.length = is.length ∧ Q (setAll ds is xs) μ
  | _ => False
def dgSub (to ti : TD) : DG := fun d ds μ Q => to ds μ fun o μ1 => ti ds μ1 fun i μ2 => match o, i with
  | .obj a, .int k => ∃ xs j, μ2 a = some (.lst xs) ∧ ixN xs.length k = some j ∧ Q ds (put μ2 a (.lst (xs.set j d)))
  | _, _ => False
def dAsg (te : TD) (g : DG) : DS := fun D ds μ => te ds μ fun x μ1 => g x ds μ1 D.nx

section
variable {K : PySem.W.Frag}
theorem rs_next : RS K tNext dNext := fun σ ds G F μ H E D hs hw h k => k.nx σ ds G μ H (Ex.refl G) hs hw h
theorem rs_break : RS K tBreak dBreak := fun σ ds G F μ H E D hs hw h k => k.bk σ ds G μ H (Ex.refl G) hs hw h
theorem rs_cont : RS K tCont dCont := fun σ ds G F μ H E D hs hw h k => k.ct σ ds G μ H (Ex.refl G) hs hw h
theorem rs_seq {t u : TS} {dt du : DS} (h1 : RS K t dt) (h2 : RS K u du) : RS K (tSeq t u) (dSeq dt du) := fun σ ds G F μ H E D hs hw h k =>
  h1 σ ds G F μ H { E with nx := u E } { D with nx := du D } hs hw h ⟨fun σ' ds' G' μ' H' e s w q => h2 σ' ds' G' F μ' H' E D s w q (k.up e), k.rt, k.bk, k.ct⟩
theorem rs_drop {te : TE} {de : TD} (h1 : RE K te de) : RS K (tDrop te) (dDrop de) := fun σ ds G F μ H E D hs hw h k =>
  h1 σ ds G F μ H _ _ hs hw h fun v d G1 μ1 H1 e1 w1 r q => k.nx σ ds G1 μ1 H1 e1 (hs.mono e1) w1 q
theorem rs_ret {te : TE} {de : TD} (h1 : RE K te de) : RS K (tRet te) (dRet de) := fun σ ds G F μ H E D hs hw h k => h1 σ ds G F μ H _ _ hs hw h k.rt
theorem rs_retN : RS K tRetN dRetN := fun σ ds G F μ H E D hs hw h k => k.rt.here hw (d := .non) rfl h
theorem rs_if {c : TT} {t u : TS} {dc : TTd} {dt du : DS} (h0 : RT K c dc) (h1 : RS K t dt) (h2 : RS K u du) : RS K (tIfS c t u) (dIfS dc dt du) := fun σ ds G F μ H E D hs hw h k =>
  h0 σ ds G F μ H _ _ hs hw h fun b G1 μ1 H1 e1 w1 q => by
    cases b with
    | true => exact h1 σ ds G1 F μ1 H1 E D (hs.mono e1) w1 q (k.up e1)
    | false => exact h2 σ ds G1 F μ1 H1 E D (hs.mono e1) w1 q (k.up e1)
def RG (g : TG) (dg : DG) : Prop := ∀ v d σ ds G F μ H R Rd, Rp K G d v → RpS K G ds σ → Wd K G F μ H → dg d ds μ Rd → KS K G F Rd R → g v σ H R
theorem rg_name {i : Nat} : RG (K := K) (gName i) (dgName i) := fun v d σ ds G F μ H R Rd r hs hw h k => k _ _ G μ H (Ex.refl G) (hs.set r i) hw h
def RGs (gs : TGs) (is : List Nat) : Prop := ∀ vs xs σ ds G F μ H R Rd, RpL K G xs vs → xs.length = is.length → RpS K G ds σ → Wd K G F μ H → Rd (setAll ds is xs) μ → KS K G F Rd R → gs vs σ H R
theorem rgs_nil : RGs (K := K) gNil [] := fun vs xs σ ds G F μ H R Rd r hl hs hw h k => by
  have : xs = [] := List.length_eq_zero_iff.mp hl
  subst this
  exact ⟨r, k _ _ G μ H (Ex.refl G) hs hw h⟩
theorem rgs_cons {i : Nat} {is : List Nat} {gs : TGs} (h1 : RGs (K := K) gs is) : RGs (K := K) (gCons (gName i) gs) (i :: is) := fun vs xs σ ds G F μ H R Rd r hl hs hw h k => by
  cases xs with
  | nil => simp at hl
  | cons x xs =>
    obtain ⟨v, us, e, r1, r2⟩ := r
    exact ⟨v, us, e, h1 us xs _ _ G F μ H R Rd r2 (by simpa using hl) (hs.set r1 i) hw h k⟩
theorem rg_tup {n : Nat} {is : List Nat} {gs : TGs} (h1 : RGs (K := K) gs is) (hn : is.length = n) : RG (K := K) (gTup K n gs) (dgTup is) := fun v d σ ds G F μ H R Rd r hs hw h k => by
  cases d with
  | tup xs =>
    obtain ⟨a, vs, rfl, h2, h3⟩ := r
    exact ⟨a, vs, rfl, hw.g.t h2, by rw [h3.len, h.1, hn], h1 vs xs σ ds G F μ H R Rd h3 h.1 hs hw h.2 k⟩
  | _ => exact False.elim h
theorem rg_sub {to ti : TE} {dto dti : TD} (h1 : RE K to dto) (h2 : RE K ti dti) : RG (K := K) (gSub to ti rSetL) (dgSub dto dti) := fun v d σ ds G F μ H R Rd r hs hw h k =>
  h1 σ ds G F μ H _ _ hs hw h fun o do_ G1 μ1 H1 e1 w1 ro q1 => h2 σ ds G1 F μ1 H1 _ _ (hs.mono e1) w1 q1 fun i di G2 μ2 H2 e2 w2 ri q2 => by
    have ro' := Rp.mono e2 _ _ ro
    have r' := Rp.mono (e1.trans e2) _ _ r
    split at q2
    · obtain ⟨xs, j, hm, hj, q⟩ := q2
      obtain ⟨vs, h3, h4⟩ := w2.lstM hm
      exact ⟨_, vs, _, j, ro', ri, h3, by rw [h4.len]; exact hj, k σ ds G2 _ _ (e1.trans e2) (hs.mono (e1.trans e2)) (w2.chgL hm (h4.set r' j)) q⟩
    · exact q2.elim
theorem rs_asg {te : TE} {g : TG} {de : TD} {dg : DG} (h1 : RE K te de) (h2 : RG (K := K) g dg) : RS K (tAsg te g) (dAsg de dg) := fun σ ds G F μ H E D hs hw h k =>
  h1 σ ds G F μ H _ _ hs hw h fun v d G1 μ1 H1 e1 w1 r q => h2 v d σ ds G1 F μ1 H1 _ _ r (hs.mono e1) w1 q (k.nx.up e1)
end

/-! ### what is walked -/
/-- at turn i J hands out items[i] -/
def ItD (K : PySem.W.Frag) (G : Hp) (J : It) (items : List D) (keep : Mu → Prop) : Prop := ∀ i F G' μ H, Ex G G' → Wd K G' F μ H → keep μ →
  (i < items.length → J.go i H ∧ ∀ v H', J.yld i H v H' → ∃ G'' d, Ex G' G'' ∧ Wd K G'' F μ H' ∧ Rp K G'' d v ∧ items[i]? = some d ∧ ∀ G3 F3 μ3, Ex G G3 → Wd K G3 F3 μ3 H → True) ∧ (items.length ≤ i → J.stop i H)
abbrev DI := DSl → Mu → (List D → (Mu → Prop) → Mu → Prop) → Prop
def RI (K : PySem.W.Frag) (wi : TI) (wd : DI) : Prop := ∀ σ ds G F μ H R Rd, RpS K G ds σ → Wd K G F μ H → wd ds μ Rd →
  (∀ J items keep G' μ' H', Ex G G' → Wd K G' F μ' H' → ItD K G' J items keep → Rd items keep μ' → R J H') → wi σ H R
/-- a loop over these items, by an invariant over the turn, the slots, the store -/
def ForB (items : List D) (keep : Mu → Prop) (g : DG) (tb : DS) (D : DEnds) (ds : DSl) (μ1 : Mu) : Prop := ∃ I : Nat → DSl → Mu → Prop, I 0 ds μ1 ∧ (∀ i ds μ, i ≤ items.length → I i ds μ → keep μ) ∧
  (∀ i d ds μ, items[i]? = some d → I i ds μ → g d ds μ fun ds' μ' => tb { D with nx := I (i + 1), ct := I (i + 1), bk := D.nx } ds' μ') ∧ (∀ ds μ, I items.length ds μ → D.nx ds μ)
def dFor (wd : DI) (g : DG) (tb : DS) : DS := fun D ds μ => wd ds μ fun items keep μ1 => ForB items keep g tb D ds μ1
theorem rs_for {K : PySem.W.Frag} {wi : TI} {g : TG} {tb : TS} {wd : DI} {dg : DG} {db : DS} (h1 : RI K wi wd) (h2 : RG (K := K) g dg) (h3 : RS K tb db) : RS K (tFor wi g tb) (dFor wd dg db) := fun σ ds G F μ H E D hs hw h k =>
  h1 σ ds G F μ H _ _ hs hw h fun J items keep G1 μ1 H1 e1 w1 it q => by
    obtain ⟨I, i0, ik, is, ie⟩ := q
    refine ⟨fun i m σ' H' => m = items.length - i ∧ i ≤ items.length ∧ ∃ ds' μ' G', Ex G1 G' ∧ RpS K G' ds' σ' ∧ Wd K G' F μ' H' ∧ I i ds' μ', ⟨_, rfl, Nat.zero_le _, ds, μ1, G1, Ex.refl _, hs.mono e1, w1, i0⟩, ?_⟩
    rintro i m σ' H' ⟨rfl, hi, ds', μ', G', e', s', w', p⟩
    have kp := ik i ds' μ' hi p
    obtain ⟨t1, t2⟩ := it i F G' μ' H' e' w' kp
    by_cases hlt : i < items.length
    · obtain ⟨g1, g2⟩ := t1 hlt
      refine .inr ⟨g1, fun σ2 H2 => ∃ ds2 μ2 G2, Ex G1 G2 ∧ RpS K G2 ds2 σ2 ∧ Wd K G2 F μ2 H2 ∧ I (i + 1) ds2 μ2, fun σ2 H2 ⟨ds2, μ2, G2, x1, x2, x3, x4⟩ => ⟨items.length - (i + 1), by omega, rfl, hlt, ds2, μ2, G2, x1, x2, x3, x4⟩, fun v H2 y => ?_⟩
      obtain ⟨G2, d, e2, w2, rd, hd, _⟩ := g2 v H2 y
      refine h2 v d σ' ds' G2 F μ' H2 _ _ rd (s'.mono e2) w2 (is i d ds' μ' hd p) fun σ3 ds3 G3 μ3 H3 e3 s3 w3 q3 => ?_
      have up := e1.trans (e'.trans (e2.trans e3))
      refine h3 σ3 ds3 G3 F μ3 H3 _ _ s3 w3 q3 ⟨fun σ4 ds4 G4 μ4 H4 e4 s4 w4 q4 => ⟨ds4, μ4, G4, e'.trans (e2.trans (e3.trans e4)), s4, w4, q4⟩, k.rt.up up, k.nx.up up, fun σ4 ds4 G4 μ4 H4 e4 s4 w4 q4 => ⟨ds4, μ4, G4, e'.trans (e2.trans (e3.trans e4)), s4, w4, q4⟩⟩
    · have : i = items.length := by omega
      exact .inl ⟨t2 (by omega), k.nx σ' ds' G' μ' H' (e1.trans e') s' w' (ie ds' μ' (this ▸ p))⟩
/-- a list or a tuple -/
def iSeq (K : PySem.W.Frag) (tl : TE) : TI := fun σ H R => tl σ H fun x H1 => ∃ a, x = .ref a ∧ (((∃ xs, SqL K H1 a xs) ∧ R (Itl K a) H1) ∨ ((∃ xs, SqT K H1 a xs) ∧ R (Itt K a) H1))
theorem pi_seq {X : Cx} {tg l : Expr} {tl : TE} (hl : PE X l tl) : PI X tg l (iSeq X.K tl) := by
  refine ⟨fun pins s σ H R I h => ?_⟩
  refine thn (hl.run pins s σ H _ I h) fun v s1 ⟨x, H1, I1, r1, q1⟩ => ?_
  obtain ⟨a, e, q⟩ := q1
  subst e
  cases r1
  rcases q with ⟨⟨xs, hq⟩, q⟩ | ⟨⟨xs, hq⟩, q⟩
  · obtain ⟨its, rv, p, hz⟩ := I1.list hq
    refine wpAny_pyIter_list p.isList ?_
    refine ⟨s1.heap.objs.size, [s1.heap.objs.size], _, _, H1, rfl, I1.kept (t' := s1.toks) fun b o e => Heap.get?_push_of_some _ e, turn_list a _, ⟨_, Heap.get?_push_size _ rfl, rfl, rfl⟩, fun b hb => ?_, q⟩
    have e : b = s1.heap.objs.size := by simpa using hb
    subst e
    exact I1.fpOk (Nat.le_refl _) (I1.hok.fresh (Nat.le_refl _))
  · obtain ⟨its, rv, p, hz⟩ := I1.tuple hq
    refine wpAny_pyIter_tuple (show s1.heap.IsTuple a its.toArray from p) ?_
    refine ⟨s1.heap.objs.size, [s1.heap.objs.size], _, _, H1, rfl, I1.kept (t' := s1.toks) fun b o e => Heap.get?_push_of_some _ e, turn_tuple a _, ⟨_, Heap.get?_push_size _ rfl, rfl, rfl⟩, fun b hb => ?_, q⟩
    have e : b = s1.heap.objs.size := by simpa using hb
    subst e
    exact I1.fpOk (Nat.le_refl _) (I1.hok.fresh (Nat.le_refl _))
def keepOf (x : D) (xs : List D) : Mu → Prop := match x with
  | .obj a => fun μ => μ a = some (.lst xs)
  | _ => fun _ => True
def diSeq (t : TD) : DI := fun ds μ R => t ds μ fun x μ1 => ∃ xs, SeqD μ1 x xs ∧ R xs (keepOf x xs) μ1
theorem itd_l {K : PySem.W.Frag} {G : Hp} {a : Addr} {items : List D} {keep : Mu → Prop} (h : ∀ F G' μ H, Ex G G' → Wd K G' F μ H → keep μ → ∃ vs, SqL K H a vs ∧ RpL K G' items vs) : ItD K G (Itl K a) items keep := fun i F G' μ H e w k => by
  obtain ⟨vs, h1, h2⟩ := h F G' μ H e w k
  refine ⟨fun hi => ?_, fun hi => ⟨vs, h1, by rw [h2.len]; exact hi⟩⟩
  obtain ⟨v, hv, rv⟩ := h2.get (i := i) (d := items[i]) (by simp [hi])
  refine ⟨⟨vs, v, h1, hv⟩, fun u H' y => ?_⟩
  obtain ⟨rfl, y⟩ := y
  have := y vs h1
  rw [hv] at this
  cases this
  exact ⟨G', items[i], Ex.refl _, w, rv, by simp [hi], fun _ _ _ _ _ => trivial⟩
theorem itd_t {K : PySem.W.Frag} {G : Hp} {a : Addr} {items : List D} {keep : Mu → Prop} (h : ∀ F G' μ H, Ex G G' → Wd K G' F μ H → keep μ → ∃ vs, SqT K H a vs ∧ RpL K G' items vs) : ItD K G (Itt K a) items keep := fun i F G' μ H e w k => by
  obtain ⟨vs, h1, h2⟩ := h F G' μ H e w k
  refine ⟨fun hi => ?_, fun hi => ⟨vs, h1, by rw [h2.len]; exact hi⟩⟩
  obtain ⟨v, hv, rv⟩ := h2.get (i := i) (d := items[i]) (by simp [hi])
  refine ⟨⟨vs, v, h1, hv⟩, fun u H' y => ?_⟩
  obtain ⟨rfl, y⟩ := y
  have := y vs h1
  rw [hv] at this
  cases this
  exact ⟨G', items[i], Ex.refl _, w, rv, by simp [hi], fun _ _ _ _ _ => trivial⟩
theorem ri_seq {K : PySem.W.Frag} {te : TE} {de : TD} (h1 : RE K te de) : RI K (iSeq K te) (diSeq de) := fun σ ds G F μ H R Rd hs hw h k =>
  h1 σ ds G F μ H _ _ hs hw h fun v d G1 μ1 H1 e1 w1 r q => by
    obtain ⟨xs, hq, q⟩ := q
    cases d with
    | lst ys =>
      obtain ⟨a, vs, rfl, h2, h3⟩ := r
      have h' : ys = xs := hq
      subst h'
      exact ⟨a, rfl, .inl ⟨⟨vs, SqL.of (w1.g _ _ h2)⟩, k _ ys _ G1 μ1 H1 e1 w1 (itd_l fun F G' μ H e w _ => ⟨vs, SqL.of (w.g _ _ (e _ _ h2)), RpL.mono e _ _ h3⟩) q⟩⟩
    | scr ys =>
      obtain ⟨a, vs, rfl, h2, h3⟩ := r
      have h' : ys = xs := hq
      subst h'
      exact ⟨a, rfl, .inl ⟨⟨vs, w1.g.l h2⟩, k _ ys _ G1 μ1 H1 e1 w1 (itd_l fun F G' μ H e w _ => ⟨vs, w.g.l (e.l h2), RpL.mono e _ _ h3⟩) q⟩⟩
    | tup ys =>
      obtain ⟨a, vs, rfl, h2, h3⟩ := r
      have h' : ys = xs := hq
      subst h'
      exact ⟨a, rfl, .inr ⟨⟨vs, w1.g.t h2⟩, k _ ys _ G1 μ1 H1 e1 w1 (itd_t fun F G' μ H e w _ => ⟨vs, w.g.t (e.t h2), RpL.mono e _ _ h3⟩) q⟩⟩
    | obj a =>
      have r' : v = .ref a := r
      have h' : μ1 a = some (.lst xs) := hq
      obtain ⟨vs, h2, h3⟩ := w1.lstM h'
      exact ⟨a, r', .inl ⟨⟨vs, SqL.of h2⟩, k _ xs _ G1 μ1 H1 e1 w1 (itd_l fun F G' μ H e w kp => by
        obtain ⟨us, h4, h5⟩ := w.lstM (a := a) (xs := xs) kp
        exact ⟨us, SqL.of h4, h5⟩) q⟩⟩
    | _ => exact False.elim hq
def rngD (lo : Int) (n : Nat) : List D := (List.range n).map fun i => D.int (lo + (i : Nat))
theorem itd_r {K : PySem.W.Frag} {G : Hp} {lo : Int} {n : Nat} : ItD K G (Itr lo n) (rngD lo n) (fun _ => True) := fun i F G' μ H e w k => by
  have hl : (rngD lo n).length = n := by unfold rngD; simp
  rw [hl]
  refine ⟨fun hi => ⟨hi, fun v H' y => ?_⟩, fun hi => hi⟩
  obtain ⟨rfl, rfl⟩ := y
  exact ⟨G', .int (lo + (i : Nat)), Ex.refl _, w, rfl, by unfold rngD; simp [hi], fun _ _ _ _ _ => trivial⟩
def diRng1 (t : TAd) : DI := fun ds μ R => t ds μ fun xs μ1 => match xs with
  | [.int j] => (-(2 ^ 62) ≤ j ∧ j < 2 ^ 62) ∧ R (rngD 0 j.toNat) (fun _ => True) μ1
  | _ => False
def diRng2 (t : TAd) : DI := fun ds μ R => t ds μ fun xs μ1 => match xs with
  | [.int i, .int j] => (-(2 ^ 62) ≤ i ∧ i < 2 ^ 62 ∧ -(2 ^ 62) ≤ j ∧ j < 2 ^ 62) ∧ R (rngD i (j - i).toNat) (fun _ => True) μ1
  | _ => False
theorem ri_rng1 {K : PySem.W.Frag} {t : TA} {dt : TAd} (h1 : RA K t dt) : RI K (iRng1 t) (diRng1 dt) := fun σ ds G F μ H R Rd hs hw h k =>
  h1 σ ds G F μ H _ _ hs hw h fun vs xs G1 μ1 H1 e1 w1 r q => by
    split at q
    · obtain ⟨v, rfl, rv⟩ := rpl1 r
      have rv' : v = V.int _ := rv
      exact ⟨_, by rw [rv'], q.1.1, q.1.2, k _ _ _ G1 μ1 H1 e1 w1 itd_r q.2⟩
    · exact q.elim
theorem ri_rng2 {K : PySem.W.Frag} {t : TA} {dt : TAd} (h1 : RA K t dt) : RI K (iRng2 t) (diRng2 dt) := fun σ ds G F μ H R Rd hs hw h k =>
  h1 σ ds G F μ H _ _ hs hw h fun vs xs G1 μ1 H1 e1 w1 r q => by
    split at q
    · obtain ⟨v, u, rfl, rv, ru⟩ := rpl2 r
      have rv' : v = V.int _ := rv
      have ru' : u = V.int _ := ru
      exact ⟨_, _, by rw [rv', ru'], q.1, k _ _ _ G1 μ1 H1 e1 w1 itd_r q.2⟩
    · exact q.elim
/-- pairs of a place and an item -/
def enumD (k : Int) (xs : List D) : List D := xs.mapIdx fun i x => D.tup [.int (k + (i : Nat)), x]
theorem itd_e {K : PySem.W.Frag} {G : Hp} {a : Addr} {items : List D} {keep : Mu → Prop} (h : ∀ F G' μ H, Ex G G' → Wd K G' F μ H → keep μ → ∃ vs, SqL K H a vs ∧ RpL K G' items vs) : ItD K G (Ite K a) (enumD 0 items) keep := fun i F G' μ H e w k => by
  obtain ⟨vs, h1, h2⟩ := h F G' μ H e w k
  have hl : (enumD 0 items).length = items.length := by unfold enumD; simp
  rw [hl]
  refine ⟨fun hi => ?_, fun hi => ⟨vs, h1, by rw [h2.len]; exact hi⟩⟩
  obtain ⟨v, hv, rv⟩ := h2.get (i := i) (d := items[i]) (by simp [hi])
  refine ⟨⟨vs, v, h1, hv⟩, fun u H' y => ?_⟩
  obtain ⟨T, x, rfl, hT, rfl, y⟩ := y
  have := y vs h1
  rw [hv] at this
  cases this
  have ex : Ex G' (upd G' T (.tup [.int (i : Nat), v])) := Ex.new (w.noG hT)
  refine ⟨upd G' T (.tup [.int (i : Nat), v]), .tup [.int (0 + (i : Nat)), items[i]], ex, w.newG hT, ⟨T, _, rfl, SqT.of upd_same, ⟨_, _, rfl, ?_, _, _, rfl, Rp.mono ex _ _ rv, rfl⟩⟩, ?_, fun _ _ _ _ _ => trivial⟩
  · show V.int (i : Nat) = V.int (0 + (i : Nat))
    rw [Int.zero_add]
  · unfold enumD; simp [hi]
def diEnum (t : TAd) : DI := fun ds μ R => t ds μ fun xs μ1 => match xs with
  | [x] => ∃ ys, LstAt μ1 x ys ∧ R (enumD 0 ys) (keepOf x ys) μ1
  | _ => False
/-- the script, too -/
def diEnumS (t : TAd) : DI := fun ds μ R => t ds μ fun xs μ1 => match xs with
  | [.scr ys] => R (enumD 0 ys) (fun _ => True) μ1
  | _ => False
theorem ri_enum {K : PySem.W.Frag} {t : TA} {dt : TAd} (h1 : RA K t dt) : RI K (iEnum K t) (diEnum dt) := fun σ ds G F μ H R Rd hs hw h k =>
  h1 σ ds G F μ H _ _ hs hw h fun vs xs G1 μ1 H1 e1 w1 r q => by
    split at q
    · obtain ⟨v, rfl, rv⟩ := rpl1 r
      obtain ⟨ys, hq, q⟩ := q
      rename_i x
      cases x with
      | lst zs =>
        obtain ⟨a, us, rfl, h2, h3⟩ := rv
        have h' : zs = ys := hq
        subst h'
        exact ⟨a, us, rfl, SqL.of (w1.g _ _ h2), k _ _ _ G1 μ1 H1 e1 w1 (itd_e fun F G' μ H e w _ => ⟨us, SqL.of (w.g _ _ (e _ _ h2)), RpL.mono e _ _ h3⟩) q⟩
      | obj a =>
        have r' : v = .ref a := rv
        have h' : μ1 a = some (.lst ys) := hq
        obtain ⟨us, h2, h3⟩ := w1.lstM h'
        exact ⟨a, us, by rw [r'], SqL.of h2, k _ _ _ G1 μ1 H1 e1 w1 (itd_e fun F G' μ H e w kp => by
          obtain ⟨ws, h4, h5⟩ := w.lstM (a := a) (xs := ys) kp
          exact ⟨ws, SqL.of h4, h5⟩) q⟩
      | _ => exact False.elim hq
    · exact q.elim
theorem ri_enumS {K : PySem.W.Frag} {t : TA} {dt : TAd} (h1 : RA K t dt) : RI K (iEnum K t) (diEnumS dt) := fun σ ds G F μ H R Rd hs hw h k =>
  h1 σ ds G F μ H _ _ hs hw h fun vs xs G1 μ1 H1 e1 w1 r q => by
    split at q
    · obtain ⟨v, rfl, rv⟩ := rpl1 r
      obtain ⟨a, us, rfl, h2, h3⟩ := rv
      exact ⟨a, us, rfl, w1.g.l h2, k _ _ _ G1 μ1 H1 e1 w1 (itd_e fun F G' μ H e w _ => ⟨us, w.g.l (e.l h2), RpL.mono e _ _ h3⟩) q⟩
    · exact q.elim
def diStr (t : TD) : DI := fun ds μ R => t ds μ fun x μ1 => match x with
  | .str z => R (z.cps.toList.map fun c => D.str ⟨#[c]⟩) (fun _ => True) μ1
  | _ => False
theorem ri_str {K : PySem.W.Frag} {te : TE} {de : TD} (h1 : RE K te de) : RI K (iStr te) (diStr de) := fun σ ds G F μ H R Rd hs hw h k =>
  h1 σ ds G F μ H _ _ hs hw h fun v d G1 μ1 H1 e1 w1 r q => by
    split at q
    · rename_i z
      refine ⟨z, r, k _ _ _ G1 μ1 H1 e1 w1 (fun i F G' μ H e w _ => ?_) q⟩
      have hl : (z.cps.toList.map fun c => D.str ⟨#[c]⟩).length = z.cps.size := by simp
      rw [hl]
      refine ⟨fun hi => ⟨hi, fun u H' y => ?_⟩, fun hi => hi⟩
      obtain ⟨rfl, c, hc, rfl⟩ := y
      exact ⟨G', .str ⟨#[c]⟩, Ex.refl _, w, rfl, by simp [hc], fun _ _ _ _ _ => trivial⟩
    · exact q.elim

/-! ### comprehensions -/
theorem wipe_set {i : Nat} {y : Option V} : ∀ {vs : List Nat} {σ : St}, i ∈ vs → wipe (σ.set i y) vs = wipe σ vs := by
  have swap : ∀ (l : List (Option V)) (i j : Nat) (a b : Option V), i ≠ j → (l.set i a).set j b = (l.set j b).set i a := fun l i j a b h => List.set_comm a b h
  have idem : ∀ (vs : List Nat) (σ : St) (i : Nat) (y : Option V), wipe (σ.set i y) vs = if i ∈ vs then wipe σ vs else (wipe σ vs).set i y := by
    intro vs
    induction vs with
    | nil => intro σ i y; simp [wipe]
    | cons v vs ih =>
      intro σ i y
      show (wipe (σ.set i y) vs).set v none = _
      rw [ih]
      by_cases h1 : i ∈ vs
      · rw [if_pos h1, if_pos (List.mem_cons_of_mem _ h1)] <;> rfl
      · rw [if_neg h1]
        by_cases h2 : i = v
        · subst h2
          rw [if_pos (List.mem_cons_self)]
          show ((wipe σ vs).set i y).set i none = (wipe σ vs).set i none
          rw [List.set_set]
        · rw [if_neg (by simp [h1, h2])]
          show ((wipe σ vs).set i y).set v none = ((wipe σ vs).set v none).set i y
          exact swap _ _ _ _ _ h2
  intro vs σ h
  rw [idem, if_pos h]
theorem wipe_wipe {vs : List Nat} {σ : St} : wipe (wipe σ vs) vs = wipe σ vs := by
  have aux : ∀ (us vs : List Nat) (σ : St), (∀ u ∈ us, u ∈ vs) → wipe (wipe σ us) vs = wipe σ vs := by
    intro us
    induction us with
    | nil => intro vs σ _; rfl
    | cons u us ih =>
      intro vs σ h
      show wipe ((wipe σ us).set u none) vs = _
      rw [wipe_set (h u List.mem_cons_self)]
      exact ih vs σ fun w hw => h w (List.mem_cons_of_mem _ hw)
  exact aux vs vs σ fun _ h => h
def wipeD (ds : DSl) : List Nat → DSl
  | [] => ds
  | v :: vs => (wipeD ds vs).set v none
theorem RpS.wipe {K : PySem.W.Frag} {G : Hp} {ds : DSl} {σ : St} (h : RpS K G ds σ) : ∀ vs : List Nat, RpS K G (wipeD ds vs) (L2.wipe σ vs)
  | [] => h
  | v :: vs => (RpS.wipe h vs).wipe1 v
/-- a target whose names are the block's own -/
def RGc (K : PySem.W.Frag) (vs : List Nat) (g : TG) (dg : DG) : Prop := ∀ v d σ ds G F μ H R Rd, Rp K G d v → RpS K G ds σ → Wd K G F μ H → dg d ds μ Rd →
  (∀ σ' ds' G' μ' H', wipe σ' vs = wipe σ vs → Ex G G' → RpS K G' ds' σ' → Wd K G' F μ' H' → Rd ds' μ' → R σ' H') → g v σ H R
theorem rgc_name {K : PySem.W.Frag} {vs : List Nat} {i : Nat} (hi : i ∈ vs) : RGc K vs (gName i) (dgName i) := fun v d σ ds G F μ H R Rd r hs hw h k => k _ _ G μ H (wipe_set hi) (Ex.refl G) (hs.set r i) hw h
def RGcs (K : PySem.W.Frag) (ws : List Nat) (gs : TGs) (is : List Nat) : Prop := ∀ (vs : List V) (xs : List D) (σ : St) (ds : DSl) (G F : Hp) (μ : Mu) (H : Hp) (R : St → Hp → Prop) (Rd : DSl → Mu → Prop), RpL K G xs vs → xs.length = is.length → RpS K G ds σ → Wd K G F μ H → Rd (setAll ds is xs) μ →
  (∀ σ' ds' G' μ' H', wipe σ' ws = wipe σ ws → Ex G G' → RpS K G' ds' σ' → Wd K G' F μ' H' → Rd ds' μ' → R σ' H') → gs vs σ H R
theorem rgcs_nil {K : PySem.W.Frag} {ws : List Nat} : RGcs K ws gNil [] := fun vs xs σ ds G F μ H R Rd r hl hs hw h k => by
  have : xs = [] := List.length_eq_zero_iff.mp hl
  subst this
  exact ⟨r, k _ _ G μ H rfl (Ex.refl G) hs hw h⟩
theorem rgcs_cons {K : PySem.W.Frag} {ws : List Nat} {i : Nat} {is : List Nat} {gs : TGs} (hi : i ∈ ws) (h1 : RGcs K ws gs is) : RGcs K ws (gCons (gName i) gs) (i :: is) := fun vs xs σ ds G F μ H R Rd r hl hs hw h k => by
  cases xs with
  | nil => simp at hl
  | cons x xs =>
    obtain ⟨v, us, e, r1, r2⟩ := r
    exact ⟨v, us, e, h1 us xs _ _ G F μ H R Rd r2 (by simpa using hl) (hs.set r1 i) hw h fun σ' ds' G' μ' H' e1 => k σ' ds' G' μ' H' (e1.trans (wipe_set hi))⟩
theorem rgc_tup {K : PySem.W.Frag} {ws : List Nat} {n : Nat} {is : List Nat} {gs : TGs} (h1 : RGcs K ws gs is) (hn : is.length = n) : RGc K ws (gTup K n gs) (dgTup is) := fun v d σ ds G F μ H R Rd r hs hw h k => by
  cases d with
  | tup xs =>
    obtain ⟨a, vs, rfl, h2, h3⟩ := r
    exact ⟨a, vs, rfl, hw.g.t h2, by rw [h3.len, h.1, hn], h1 vs xs σ ds G F μ H R Rd h3 h.1 hs hw h.2 k⟩
  | _ => exact False.elim h
def dYes : TTd := fun _ μ Q => Q true μ
theorem rt_yes {K : PySem.W.Frag} : RT K tYes dYes := fun σ ds G F μ H Qd Q hs hw h kq => kq true G μ H (Ex.refl G) hw h
/-- a comprehension over these items, by an invariant over the turn, what is made so far, the store -/
def LcB (m : Bool) (items : List D) (keep : Mu → Prop) (g : DG) (tt : TTd) (te : TD) (vs : List Nat) (ds : DSl) (μ1 : Mu) (Q : DK) : Prop := ∃ I : Nat → List D → Mu → Prop, I 0 [] μ1 ∧ (∀ i acc μ, i ≤ items.length → I i acc μ → keep μ) ∧
  (∀ i d acc μ, items[i]? = some d → I i acc μ → acc.length < sizeLine ∧ g d (wipeD ds vs) μ fun ds2 μ2 => tt ds2 μ2 fun b μ3 => if b = true then te ds2 μ3 fun z μ4 => I (i + 1) (acc ++ [z]) μ4 else I (i + 1) acc μ3) ∧
  (∀ acc μ, I items.length acc μ → newLst m acc μ Q)
def dLc (m : Bool) (wd : DI) (g : DG) (tt : TTd) (te : TD) (vs : List Nat) : TD := fun ds μ Q => wd ds μ fun items keep μ1 => LcB m items keep g tt te vs ds μ1 Q
theorem re_lc {K : PySem.W.Frag} {m : Bool} {wi : TI} {g : TG} {tt : TT} {te : TE} {vs : List Nat} {wd : DI} {dg : DG} {dt : TTd} {de : TD} (h1 : RI K wi wd) (h2 : RGc K vs g dg) (h3 : RT K tt dt) (h4 : RE K te de) : RE K (tLc wi g tt te vs) (dLc m wd dg dt de vs) :=
  fun σ ds G F μ H Qd Q hs hw h kq => h1 σ ds G F μ H _ _ hs hw h fun J items keep G1 μ1 H1 e1 w1 it q => by
    obtain ⟨I, i0, ik, is, ie⟩ := q
    intro p hp
    have hF : F p = none := w1.noF hp
    refine ⟨fun i m H' => m = items.length - i ∧ i ≤ items.length ∧ ∃ acc vs' μ' G', Ex G1 G' ∧ Wd K G' (upd F p (.lst vs')) μ' H' ∧ RpL K G' acc vs' ∧ I i acc μ', ⟨_, rfl, Nat.zero_le _, [], [], μ1, G1, Ex.refl _, w1.lend hp, rfl, i0⟩, ?_⟩
    rintro i m' H' ⟨rfl, hi, acc, vs', μ', G', e', w', ra, pI⟩
    have kp := ik i acc μ' hi pI
    obtain ⟨t1, t2⟩ := it i _ G' μ' H' e' w' kp
    have hH : H' p = some (.lst vs') := (w'.f p _ upd_same).1
    by_cases hlt : i < items.length
    · obtain ⟨g1, g2⟩ := t1 hlt
      refine .inr ⟨g1, fun H2 => ∃ acc vs' μ' G', Ex G1 G' ∧ Wd K G' (upd F p (.lst vs')) μ' H2 ∧ RpL K G' acc vs' ∧ I (i + 1) acc μ', fun H2 ⟨a1, a2, a3, a4, x1, x2, x3, x4⟩ => ⟨items.length - (i + 1), by omega, rfl, hlt, a1, a2, a3, a4, x1, x2, x3, x4⟩, fun v H2 y => ?_⟩
      obtain ⟨G2, d, e2, w2, rd, hd, _⟩ := g2 v H2 y
      obtain ⟨hz, hg⟩ := is i d acc μ' hd pI
      have s0 := (hs.mono (e1.trans (e'.trans e2))).wipe vs
      refine h2 v d (wipe σ vs) (wipeD ds vs) G2 _ μ' H2 _ _ rd s0 w2 hg fun σ3 ds3 G3 μ3 H3 ew e3 s3 w3 q3 => ⟨ew.trans wipe_wipe, ?_⟩
      refine h3 σ3 ds3 G3 _ μ3 H3 _ _ s3 w3 q3 fun b G4 μ4 H4 e4 w4 q4 => ?_
      cases b with
      | true =>
        refine h4 σ3 ds3 G4 _ μ4 H4 _ _ (s3.mono e4) w4 q4 fun z dz G5 μ5 H5 e5 w5 rz q5 => ?_
        have e25 := e2.trans (e3.trans (e4.trans e5))
        have ra5 : RpL K G5 acc vs' := RpL.mono e25 _ _ ra
        have w6 := w5.lendSet (o' := .lst (vs' ++ [z]))
        exact ⟨vs', (w5.f p _ upd_same).1, by rw [ra.len]; exact hz, acc ++ [dz], vs' ++ [z], μ5, G5, e'.trans e25, w6, ra5.app (RpL.one rz), q5⟩
      | false =>
        exact ⟨acc, vs', μ4, G4, e'.trans (e2.trans (e3.trans e4)), w4, RpL.mono (e2.trans (e3.trans e4)) _ _ ra, q4⟩
    · have hn : i = items.length := by omega
      refine .inl ⟨t2 (by omega), ?_⟩
      have hq := ie acc μ' (hn ▸ pI)
      cases m with
      | false =>
        obtain ⟨w7, e7⟩ := w'.lendFix hF
        exact kq (.ref p) (.lst acc) _ μ' H' (e1.trans (e'.trans e7)) w7 ⟨p, vs', rfl, upd_same, RpL.mono e7 _ _ ra⟩ hq
      | true =>
        exact kq (.ref p) (.obj p) G' (put μ' p (.lst acc)) H' (e1.trans e') (w'.lendMu (m := .lst acc) ⟨vs', rfl, ra⟩ hF) rfl (hq p ((w'.f p _ upd_same).2.2))

/-! ### dicts with written keys -/
def keyD : D → Option Key
  | .int i => some (.inl i)
  | .str s => some (.inr s)
  | _ => none
def getK (kvs : List (Key × D)) (k : Key) : Option D := (kvs.find? fun kv => decide (kv.1 = k)).map (·.2)
def putKD (kvs : List (Key × D)) (k : Key) (v : D) : List (Key × D) :=
  if (kvs.any fun kv => decide (kv.1 = k)) = true then kvs.map (fun kv => if kv.1 = k then (kv.1, v) else kv) else kvs ++ [(k, v)]
section
variable {K : PySem.W.Frag} {G : Hp}
theorem RpK.get {k : Key} {d : D} : ∀ {kds : List (Key × D)} {kvs : List (Key × V)}, RpK K G kds kvs → getK kds k = some d → ∃ v, valV kvs k = some v ∧ Rp K G d v
  | [], _, _, e => by simp [getK] at e
  | (j, x) :: kds, _, ⟨v, r, h1, h2, h3⟩, e => by
    subst h1
    unfold getK at e
    unfold valV
    by_cases hj : j = k
    · rw [List.find?_cons_of_pos (by simpa using hj)] at e ⊢
      cases e
      exact ⟨v, rfl, h2⟩
    · rw [List.find?_cons_of_neg (by simpa using hj)] at e ⊢
      exact RpK.get h3 e
theorem RpK.any {p : Key → Bool} : ∀ {kds : List (Key × D)} {kvs : List (Key × V)}, RpK K G kds kvs → (kds.any fun kv => p kv.1) = (kvs.any fun kv => p kv.1)
  | [], _, h => by rw [RpK] at h; rw [h]; rfl
  | (j, x) :: kds, _, ⟨v, r, h1, h2, h3⟩ => by subst h1; rw [List.any_cons, List.any_cons, RpK.any h3]
theorem RpK.len : ∀ {kds : List (Key × D)} {kvs : List (Key × V)}, RpK K G kds kvs → kvs.length = kds.length
  | [], _, h => by rw [RpK] at h; rw [h]; rfl
  | (j, x) :: kds, _, ⟨v, r, h1, h2, h3⟩ => by subst h1; rw [List.length_cons, List.length_cons, RpK.len h3]
theorem RpK.mapSet {k : Key} {d : D} {v : V} (r : Rp K G d v) : ∀ {kds : List (Key × D)} {kvs : List (Key × V)}, RpK K G kds kvs → RpK K G (kds.map fun kv => if kv.1 = k then (kv.1, d) else kv) (kvs.map fun kv => if kv.1 = k then (kv.1, v) else kv)
  | [], _, h => by rw [RpK] at h; rw [h]; rfl
  | (j, x) :: kds, _, ⟨u, t, h1, h2, h3⟩ => by
    subst h1
    rw [List.map_cons, List.map_cons]
    by_cases hj : j = k
    · rw [if_pos hj, if_pos hj]; exact ⟨v, _, rfl, r, RpK.mapSet r h3⟩
    · rw [if_neg hj, if_neg hj]; exact ⟨u, _, rfl, h2, RpK.mapSet r h3⟩
theorem RpK.app : ∀ {kds : List (Key × D)} {kvs : List (Key × V)} {k : Key} {d : D} {v : V}, RpK K G kds kvs → Rp K G d v → RpK K G (kds ++ [(k, d)]) (kvs ++ [(k, v)])
  | [], _, k, d, v, h, r => by rw [RpK] at h; rw [h]; exact ⟨v, [], rfl, r, rfl⟩
  | (j, x) :: kds, _, k, d, v, ⟨u, t, h1, h2, h3⟩, r => by subst h1; exact ⟨u, _, rfl, h2, RpK.app h3 r⟩
theorem RpK.put {kds : List (Key × D)} {kvs : List (Key × V)} {k : Key} {d : D} {v : V} (h : RpK K G kds kvs) (r : Rp K G d v) : RpK K G (putKD kds k d) (putK kvs k v) := by
  unfold putKD putK
  rw [← h.any (p := fun j => decide (j = k))]
  split
  · exact h.mapSet r
  · exact h.app r
theorem keyD_rp {x : D} {v : V} {k : Key} (r : Rp K G x v) (h : keyD x = some k) : v = kV k := by
  cases x with
  | int i => have r' : v = V.int i := r; rw [r']; cases h; rfl
  | str i => have r' : v = V.str i := r; rw [r']; cases h; rfl
  | _ => cases h
end
def dDGet (td ty : TD) : TD := fun ds μ Q => td ds μ fun x μ1 => ty ds μ1 fun y μ2 => match x with
  | .obj a => ∃ kvs k d, μ2 a = some (.dK kvs) ∧ keyD y = some k ∧ getK kvs k = some d ∧ Q d μ2
  | _ => False
def dDPut (td ty tv : TD) : DS := fun D ds μ => tv ds μ fun d μ1 => td ds μ1 fun x μ2 => ty ds μ2 fun y μ3 => match x with
  | .obj a => ∃ kvs k, μ3 a = some (.dK kvs) ∧ keyD y = some k ∧ kvs.length < sizeLine ∧ D.nx ds (put μ3 a (.dK (putKD kvs k d)))
  | _ => False
theorem Wd.dM {K : PySem.W.Frag} {G F : Hp} {μ : Mu} {H : Hp} (w : Wd K G F μ H) {a : Addr} {xs : List (Key × D)} (h : μ a = some (.dK xs)) : ∃ vs, H a = some (.dK vs) ∧ RpK K G xs vs := by
  obtain ⟨o, h1, ⟨vs, h2, h4⟩, h3⟩ := w.m a _ h
  subst h2
  exact ⟨vs, h1, h4⟩
theorem re_dget {K : PySem.W.Frag} {td ty : TE} {dd dy : TD} (h1 : RE K td dd) (h2 : RE K ty dy) : RE K (tDGet td ty) (dDGet dd dy) :=
  fun σ ds G F μ H Qd Q hs hw h kq => h1 σ ds G F μ H _ _ hs hw h fun x dx G1 μ1 H1 e1 w1 rx q1 => h2 σ ds G1 F μ1 H1 _ _ (hs.mono e1) w1 q1 fun y ey G2 μ2 H2 e2 w2 ry q2 => by
    have rx2 := Rp.mono e2 _ _ rx
    split at q2
    · obtain ⟨kvs, k, d, hm, hk, hg, q⟩ := q2
      obtain ⟨vs, h3, h4⟩ := w2.dM hm
      obtain ⟨v, hv, rv⟩ := h4.get hg
      have := keyD_rp ry hk
      subst this
      refine ⟨_, v, rx2, ?_, (kq.up (e1.trans e2)).here w2 rv q⟩
      rw [← hv]; exact DGet.k h3
    · exact q2.elim
theorem rs_dput {K : PySem.W.Frag} {td ty tv : TE} {dd dy dv : TD} (h1 : RE K td dd) (h2 : RE K ty dy) (h3 : RE K tv dv) : RS K (sDPut td ty tv) (dDPut dd dy dv) :=
  fun σ ds G F μ H E D hs hw h k => h3 σ ds G F μ H _ _ hs hw h fun v d G0 μ0 H0 e0 w0 rv q0 => h1 σ ds G0 F μ0 H0 _ _ (hs.mono e0) w0 q0 fun x dx G1 μ1 H1 e1 w1 rx q1 => h2 σ ds G1 F μ1 H1 _ _ (hs.mono (e0.trans e1)) w1 q1 fun y ey G2 μ2 H2 e2 w2 ry q2 => by
    have rx2 := Rp.mono e2 _ _ rx
    have rv2 := Rp.mono (e1.trans e2) _ _ rv
    split at q2
    · obtain ⟨kvs, kk, hm, hk, hz, q⟩ := q2
      obtain ⟨vs, h5, h6⟩ := w2.dM hm
      have := keyD_rp ry hk
      subst this
      exact ⟨_, _, rx2, DPut.k h5 (by rw [h6.len]; exact hz), k.nx σ ds G2 _ _ (e0.trans (e1.trans e2)) (hs.mono (e0.trans (e1.trans e2))) (w2.chg (m := .dK (putKD kvs kk d)) hm ⟨_, rfl, h6.put rv2⟩) q⟩
    · exact q2.elim
/-- {k: v, ..} -/
def dPairs : List (TD × TD) → DSl → Mu → (List (D × D) → Mu → Prop) → Prop
  | [], _, μ, Q => Q [] μ
  | (tk, tv) :: r, ds, μ, Q => tk ds μ fun x μ1 => tv ds μ1 fun y μ2 => dPairs r ds μ2 fun ps μ3 => Q ((x, y) :: ps) μ3
def keysD : List (D × D) → Option (List (Key × D))
  | [] => some []
  | (k, d) :: r => match keyD k, keysD r with
    | some a, some as => some ((a, d) :: as)
    | _, _ => none
def mergeKD (kvs more : List (Key × D)) : List (Key × D) := more.foldl (fun acc kv => putKD acc kv.1 kv.2) kvs
def dDisp (trs : List (TD × TD)) : TD := fun ds μ Q => dPairs trs ds μ fun ps μ1 => ∃ kvs, keysD ps = some kvs ∧ kvs.length ≤ 15 ∧ ∀ p, μ1 p = none → Q (.obj p) (put μ1 p (.dK (mergeKD [] kvs)))
def RPs (K : PySem.W.Frag) (ts : List (TE × TE)) (tds : List (TD × TD)) : Prop := ∀ σ ds G F μ H Qd Q, RpS K G ds σ → Wd K G F μ H → dPairs tds ds μ Qd →
  (∀ (vs : List (V × V)) (xs : List (D × D)) G' μ' H', Ex G G' → Wd K G' F μ' H' → (RpL K G' (xs.map (·.1)) (vs.map (·.1)) ∧ RpL K G' (xs.map (·.2)) (vs.map (·.2))) → Qd xs μ' → Q vs H') → tPairs ts σ H Q
theorem rps_nil {K : PySem.W.Frag} : RPs K [] [] := fun σ ds G F μ H Qd Q hs hw h k => k [] [] G μ H (Ex.refl G) hw ⟨rfl, rfl⟩ h
theorem rps_cons {K : PySem.W.Frag} {tk tv : TE} {dk dv : TD} {ts : List (TE × TE)} {tds : List (TD × TD)} (h1 : RE K tk dk) (h2 : RE K tv dv) (h3 : RPs K ts tds) : RPs K ((tk, tv) :: ts) ((dk, dv) :: tds) := fun σ ds G F μ H Qd Q hs hw h k =>
  h1 σ ds G F μ H _ _ hs hw h fun x dx G1 μ1 H1 e1 w1 rx q1 => h2 σ ds G1 F μ1 H1 _ _ (hs.mono e1) w1 q1 fun y dy G2 μ2 H2 e2 w2 ry q2 => h3 σ ds G2 F μ2 H2 _ _ (hs.mono (e1.trans e2)) w2 q2 fun vs xs G3 μ3 H3 e3 w3 r q3 =>
    k ((x, y) :: vs) ((dx, dy) :: xs) G3 μ3 H3 (e1.trans (e2.trans e3)) w3 ⟨⟨x, _, rfl, Rp.mono (e2.trans e3) _ _ rx, r.1⟩, ⟨y, _, rfl, Rp.mono e3 _ _ ry, r.2⟩⟩ q3
theorem keysD_rp {K : PySem.W.Frag} {G : Hp} : ∀ {xs : List (D × D)} {vs : List (V × V)} {kvs : List (Key × D)}, RpL K G (xs.map (·.1)) (vs.map (·.1)) → RpL K G (xs.map (·.2)) (vs.map (·.2)) → keysD xs = some kvs → ∃ kws : List (Key × V), vs = kws.map (fun kv => (kV kv.1, kv.2)) ∧ RpK K G kvs kws
  | [], vs, kvs, h1, h2, e => by
    have : vs = [] := by have := h1.len; simpa using this
    subst this
    cases e
    exact ⟨[], rfl, rfl⟩
  | (x, y) :: xs, vs, kvs, h1, h2, e => by
    cases vs with
    | nil => have := h1.len; simp at this
    | cons v vs =>
      obtain ⟨v1, r1, e1, a1, b1⟩ := h1
      obtain ⟨v2, r2, e2, a2, b2⟩ := h2
      rw [List.map_cons] at e1 e2
      cases e1; cases e2
      unfold keysD at e
      cases k1 : keyD x with
      | none => rw [k1] at e; cases e
      | some k =>
        cases k2 : keysD xs with
        | none => rw [k1, k2] at e; cases e
        | some ks =>
          rw [k1, k2] at e; cases e
          obtain ⟨kws, f1, f2⟩ := keysD_rp b1 b2 k2
          refine ⟨(k, v.2) :: kws, ?_, ⟨v.2, kws, rfl, a2, f2⟩⟩
          rw [List.map_cons, ← f1, ← keyD_rp a1 k1]
theorem merge_rp {K : PySem.W.Frag} {G : Hp} : ∀ {more : List (Key × D)} {mw : List (Key × V)} {acc : List (Key × D)} {aw : List (Key × V)}, RpK K G more mw → RpK K G acc aw → RpK K G (mergeKD acc more) (mergeK aw mw)
  | [], _, _, _, h, r => by rw [RpK] at h; rw [h]; exact r
  | (k, d) :: more, _, acc, aw, ⟨v, t, h1, h2, h3⟩, r => by
    subst h1
    show RpK K G (mergeKD (putKD acc k d) more) (mergeK (putK aw k v) t)
    exact merge_rp h3 (r.put h2)
theorem re_disp {K : PySem.W.Frag} {ts : List (TE × TE)} {tds : List (TD × TD)} (h1 : RPs K ts tds) : RE K (tDisp ts) (dDisp tds) := fun σ ds G F μ H Qd Q hs hw h kq p hp =>
  h1 σ ds G (upd F p (.dK [])) μ (upd H p (.dK [])) _ _ hs (hw.lend hp) h fun vs xs G1 μ1 H1 e1 w1 r q => by
    obtain ⟨kvs, hk, hl, q⟩ := q
    obtain ⟨kws, f1, f2⟩ := keysD_rp r.1 r.2 hk
    refine ⟨(w1.f p _ upd_same).1, kws, f1, by rw [f2.len]; exact hl, ?_⟩
    have hF : F p = none := hw.noF hp
    have w2 := (w1.lendSet (o' := .dK (mergeK [] kws))).lendMu (m := .dK (mergeKD [] kvs)) ⟨_, rfl, merge_rp f2 rfl⟩ hF
    exact kq (.ref p) (.obj p) G1 _ _ e1 w2 rfl (q p ((w1.f p _ upd_same).2.2))
end DL
set_option Elab.async false
set_option linter.all false
set_option maxRecDepth 100000
set_option maxHeartbeats 4000001
namespace DL
open PySem L2
/-! ### the reading that a term over data asks: the weakest one -/
section
variable (K : PySem.W.Frag)
def teOf (td : TD) : TE := fun σ H Q => ∃ ds G F μ Qd, RpS K G ds σ ∧ Wd K G F μ H ∧ td ds μ Qd ∧ KQ K G F Qd Q
def ttOf (td : TTd) : TT := fun σ H Q => ∃ ds G F μ Qd, RpS K G ds σ ∧ Wd K G F μ H ∧ td ds μ Qd ∧ KB K G F Qd Q
def taOf (td : TAd) : TA := fun σ H Q => ∃ ds G F μ Qd, RpS K G ds σ ∧ Wd K G F μ H ∧ td ds μ Qd ∧ KL K G F Qd Q
def toOf (td : TOd) : TO := fun σ H Q => ∃ ds G F μ Qd, RpS K G ds σ ∧ Wd K G F μ H ∧ td ds μ Qd ∧ KO K G F Qd Q
def tsOf (td : DS) : TS := fun E σ H => ∃ ds G F μ D, RpS K G ds σ ∧ Wd K G F μ H ∧ td D ds μ ∧ REn K G F E D
def tgOf (dg : DG) : TG := fun v σ H R => ∃ d ds G F μ Rd, Rp K G d v ∧ RpS K G ds σ ∧ Wd K G F μ H ∧ dg d ds μ Rd ∧ KS K G F Rd R
def tgcOf (vs : List Nat) (dg : DG) : TG := fun v σ H R => ∃ d ds G F μ Rd, Rp K G d v ∧ RpS K G ds σ ∧ Wd K G F μ H ∧ dg d ds μ Rd ∧
  ∀ σ' ds' G' μ' H', wipe σ' vs = wipe σ vs → Ex G G' → RpS K G' ds' σ' → Wd K G' F μ' H' → Rd ds' μ' → R σ' H'
def tgsOf (is : List Nat) : TGs := fun vs σ H R => ∃ xs ds G F μ Rd, RpL K G xs vs ∧ xs.length = is.length ∧ RpS K G ds σ ∧ Wd K G F μ H ∧ Rd (setAll ds is xs) μ ∧ KS K G F Rd R
def tgscOf (ws : List Nat) (is : List Nat) : TGs := fun vs σ H R => ∃ (xs : List D) (ds : DSl) (G F : Hp) (μ : Mu) (Rd : DSl → Mu → Prop), RpL K G xs vs ∧ xs.length = is.length ∧ RpS K G ds σ ∧ Wd K G F μ H ∧ Rd (setAll ds is xs) μ ∧
  ∀ σ' ds' G' μ' H', wipe σ' ws = wipe σ ws → Ex G G' → RpS K G' ds' σ' → Wd K G' F μ' H' → Rd ds' μ' → R σ' H'
def tiOf (wd : DI) : TI := fun σ H R => ∃ ds G F μ Rd, RpS K G ds σ ∧ Wd K G F μ H ∧ wd ds μ Rd ∧ ∀ J items keep G' μ' H', Ex G G' → Wd K G' F μ' H' → ItD K G' J items keep → Rd items keep μ' → R J H'
end
structure PED (X : Cx) (e : Expr) (td : TD) : Prop where
  pe : PE X e (teOf X.K td)
structure PTD (X : Cx) (e : Expr) (td : TTd) : Prop where
  pe : PT X e (ttOf X.K td)
structure PWD (X : Cx) (e : Expr) (td : TTd) : Prop where
  pe : PW X e (ttOf X.K td)
structure PTsD (X : Cx) (e : List Expr) (td : TTd) : Prop where
  pe : PTs X e (ttOf X.K td)
structure PAD (X : Cx) (e : List Expr) (td : TAd) : Prop where
  pe : PA X e (taOf X.K td)
structure POD (X : Cx) (e : Option Expr) (td : TOd) : Prop where
  pe : PO X e (toOf X.K td)
structure PSD (X : Cx) (st : Stmt) (td : DS) : Prop where
  ps : PS X st (tsOf X.K td)
structure PSSD (X : Cx) (st : List Stmt) (td : DS) : Prop where
  ps : PSs X st (tsOf X.K td)
structure PGD (X : Cx) (e : Expr) (dg : DG) : Prop where
  pg : PG X e (tgOf X.K dg)
structure PGC (X : Cx) (vs : List Nat) (e : Expr) (dg : DG) : Prop where
  pg : PG X e (tgcOf X.K vs dg)
structure PGsD (X : Cx) (e : List Expr) (is : List Nat) : Prop where
  pg : PGs X e (tgsOf X.K is)
structure PGsC (X : Cx) (vs : List Nat) (e : List Expr) (is : List Nat) : Prop where
  pg : PGs X e (tgscOf X.K vs is)
structure PID (X : Cx) (tg e : Expr) (wd : DI) : Prop where
  pi : PI X tg e (tiOf X.K wd)
section
variable {X : Cx}
theorem PED.re {e td} (_ : PED X e td) : RE X.K (teOf X.K td) td := fun σ ds G F μ H Qd Q a b c d => ⟨ds, G, F, μ, Qd, a, b, c, d⟩
theorem PTD.re {e td} (_ : PTD X e td) : RT X.K (ttOf X.K td) td := fun σ ds G F μ H Qd Q a b c d => ⟨ds, G, F, μ, Qd, a, b, c, d⟩
theorem PWD.re {e td} (_ : PWD X e td) : RT X.K (ttOf X.K td) td := fun σ ds G F μ H Qd Q a b c d => ⟨ds, G, F, μ, Qd, a, b, c, d⟩
theorem PTsD.re {e td} (_ : PTsD X e td) : RT X.K (ttOf X.K td) td := fun σ ds G F μ H Qd Q a b c d => ⟨ds, G, F, μ, Qd, a, b, c, d⟩
theorem PAD.re {e td} (_ : PAD X e td) : RA X.K (taOf X.K td) td := fun σ ds G F μ H Qd Q a b c d => ⟨ds, G, F, μ, Qd, a, b, c, d⟩
theorem POD.re {e td} (_ : POD X e td) : RO X.K (toOf X.K td) td := fun σ ds G F μ H Qd Q a b c d => ⟨ds, G, F, μ, Qd, a, b, c, d⟩
theorem PSD.rs {e td} (_ : PSD X e td) : RS X.K (tsOf X.K td) td := fun σ ds G F μ H E D a b c d => ⟨ds, G, F, μ, D, a, b, c, d⟩
theorem PSSD.rs {e td} (_ : PSSD X e td) : RS X.K (tsOf X.K td) td := fun σ ds G F μ H E D a b c d => ⟨ds, G, F, μ, D, a, b, c, d⟩
theorem PGD.rg {e dg} (_ : PGD X e dg) : RG (K := X.K) (tgOf X.K dg) dg := fun v d σ ds G F μ H R Rd a b c e f => ⟨d, ds, G, F, μ, Rd, a, b, c, e, f⟩
theorem PGC.rg {vs e dg} (_ : PGC X vs e dg) : RGc X.K vs (tgcOf X.K vs dg) dg := fun v d σ ds G F μ H R Rd a b c e f => ⟨d, ds, G, F, μ, Rd, a, b, c, e, f⟩
theorem PGsD.rg {e is} (_ : PGsD X e is) : RGs (K := X.K) (tgsOf X.K is) is := fun vs xs σ ds G F μ H R Rd a b c e f g => ⟨xs, ds, G, F, μ, Rd, a, b, c, e, f, g⟩
theorem PGsC.rg {vs e is} (_ : PGsC X vs e is) : RGcs X.K vs (tgscOf X.K vs is) is := fun vs xs σ ds G F μ H R Rd a b c e f g => ⟨xs, ds, G, F, μ, Rd, a, b, c, e, f, g⟩
theorem PID.ri {tg e wd} (_ : PID X tg e wd) : RI X.K (tiOf X.K wd) wd := fun σ ds G F μ H R Rd a b c d => ⟨ds, G, F, μ, Rd, a, b, c, d⟩
theorem PED.mk' {e te td} (h : PE X e te) (r : RE X.K te td) : PED X e td := ⟨⟨fun pins s σ H Q I ⟨ds, G, F, μ, Qd, a, b, c, d⟩ => h.run pins s σ H Q I (r σ ds G F μ H Qd Q a b c d)⟩⟩
theorem PTD.mk' {e te td} (h : PT X e te) (r : RT X.K te td) : PTD X e td := ⟨⟨fun pins s σ H Q I ⟨ds, G, F, μ, Qd, a, b, c, d⟩ => h.run pins s σ H Q I (r σ ds G F μ H Qd Q a b c d)⟩⟩
theorem PWD.mk' {e te td} (h : PW X e te) (r : RT X.K te td) : PWD X e td := ⟨⟨fun wh pins s σ H Q I ⟨ds, G, F, μ, Qd, a, b, c, d⟩ => h.run wh pins s σ H Q I (r σ ds G F μ H Qd Q a b c d)⟩⟩
theorem PTsD.mk' {e te td} (h : PTs X e te) (r : RT X.K te td) : PTsD X e td := ⟨⟨fun pins s σ H Q I ⟨ds, G, F, μ, Qd, a, b, c, d⟩ => h.run pins s σ H Q I (r σ ds G F μ H Qd Q a b c d)⟩⟩
theorem PAD.mk' {e te td} (h : PA X e te) (r : RA X.K te td) : PAD X e td := ⟨⟨fun pos pins s σ H Q I ⟨ds, G, F, μ, Qd, a, b, c, d⟩ => h.run pos pins s σ H Q I (r σ ds G F μ H Qd Q a b c d)⟩⟩
theorem POD.mk' {e te td} (h : PO X e te) (r : RO X.K te td) : POD X e td := ⟨⟨fun pins s σ H Q I ⟨ds, G, F, μ, Qd, a, b, c, d⟩ => h.run pins s σ H Q I (r σ ds G F μ H Qd Q a b c d)⟩⟩
theorem PSD.mk' {e te td} (h : PS X e te) (r : RS X.K te td) : PSD X e td := ⟨⟨fun pins s σ H E I ⟨ds, G, F, μ, D, a, b, c, d⟩ => h.run pins s σ H E I (r σ ds G F μ H E D a b c d)⟩⟩
theorem PSSD.mk' {e te td} (h : PSs X e te) (r : RS X.K te td) : PSSD X e td := ⟨⟨fun pins s σ H E I ⟨ds, G, F, μ, D, a, b, c, d⟩ => h.run pins s σ H E I (r σ ds G F μ H E D a b c d)⟩⟩
theorem PGD.mk' {e g dg} (h : PG X e g) (r : RG (K := X.K) g dg) : PGD X e dg := ⟨⟨fun pins s σ H v u Q I rv ⟨d, ds, G, F, μ, Rd, a, b, c, e, f⟩ => h.run pins s σ H v u Q I rv (r v d σ ds G F μ H Q Rd a b c e f)⟩⟩
theorem PGC.mk' {vs e g dg} (h : PG X e g) (r : RGc X.K vs g dg) : PGC X vs e dg := ⟨⟨fun pins s σ H v u Q I rv ⟨d, ds, G, F, μ, Rd, a, b, c, e, f⟩ => h.run pins s σ H v u Q I rv (r v d σ ds G F μ H Q Rd a b c e f)⟩⟩
theorem PGsD.mk' {e g is} (h : PGs X e g) (r : RGs (K := X.K) g is) : PGsD X e is := ⟨⟨fun pins s σ H vs us Q I rv ⟨xs, ds, G, F, μ, Rd, a, b, c, e, f, g⟩ => h.run pins s σ H vs us Q I rv (r vs xs σ ds G F μ H Q Rd a b c e f g)⟩⟩
theorem PGsC.mk' {ws e g is} (h : PGs X e g) (r : RGcs X.K ws g is) : PGsC X ws e is := ⟨⟨fun pins s σ H vs us Q I rv ⟨xs, ds, G, F, μ, Rd, a, b, c, e, f, g⟩ => h.run pins s σ H vs us Q I rv (r vs xs σ ds G F μ H Q Rd a b c e f g)⟩⟩
theorem PID.mk' {tg e wi wd} (h : PI X tg e wi) (r : RI X.K wi wd) : PID X tg e wd := ⟨⟨fun pins s σ H R I ⟨ds, G, F, μ, Rd, a, b, c, d⟩ => h.run pins s σ H R I (r σ ds G F μ H R Rd a b c d)⟩⟩
end
/-- pairs of a display: the kit's own term stays, some one -/
def PPD (X : Cx) (pos : Pos) (ks : List (Option Expr)) (vs : List Expr) (tds : List (TD × TD)) : Prop := ∃ ts, PPs X pos ks vs ts ∧ RPs X.K ts tds
end DL
set_option Elab.async false
set_option linter.all false
set_option maxRecDepth 100000
set_option maxHeartbeats 4000001
namespace DL
open PySem L2

/-! ### a def's promise over data -/
abbrev DP := List D → Mu → DK → Prop
def spD (K : PySem.W.Frag) (P : DP) : Sp := fun vs H Q _ => ∃ (G F : Hp) (μ : Mu) (ds : List D) (Qd : DK), RpL K G ds vs ∧ Wd K G F μ H ∧ P ds μ Qd ∧ KQ K G F Qd Q
def dCall (P : DP) (t : TAd) : TD := fun ds μ Q => t ds μ fun xs μ1 => P xs μ1 Q
def lookD (f : Str) : List (Str × D) → Option D
  | [] => none
  | (g, d) :: r => if g = f then some d else lookD f r
def putFD (f : Str) (d : D) : List (Str × D) → List (Str × D)
  | [] => [(f, d)]
  | (g, e) :: r => if g = f then (f, d) :: r else (g, e) :: putFD f d r
def dMeth (C : Addr) (m : Str) (P : DP) (to : TD) (t : TAd) : TD := fun ds μ Q => to ds μ fun x μ1 => match x with
  | .obj a => (∃ fs, μ1 a = some (.ins C fs) ∧ lookD m fs = none) ∧ t ds μ1 fun xs μ2 => P (.obj a :: xs) μ2 Q
  | _ => False
def dMake (C : Addr) (P : DP) (t : TAd) : TD := fun ds μ Q => t ds μ fun xs μ1 => ∀ x, μ1 x = none → P (.obj x :: xs) (put μ1 x (.ins C [])) fun v μ2 => v = .non ∧ Q (.obj x) μ2
def dFld (C : Addr) (f : Str) (to : TD) : TD := fun ds μ Q => to ds μ fun x μ1 => match x with
  | .obj a => ∃ fs d, μ1 a = some (.ins C fs) ∧ lookD f fs = some d ∧ Q d μ1
  | _ => False
def dsFld (C : Addr) (f : Str) (to tv : TD) : DS := fun D ds μ => tv ds μ fun d μ1 => to ds μ1 fun x μ2 => match x with
  | .obj a => ∃ fs, μ2 a = some (.ins C fs) ∧ fs.length < 1000 ∧ D.nx ds (put μ2 a (.ins C (putFD f d fs)))
  | _ => False
section
variable {K : PySem.W.Frag} {G F : Hp} {μ : Mu} {H : Hp}
theorem RpF.len : ∀ {ds : List (Str × D)} {vs : List (Str × V)}, RpF K G ds vs → vs.length = ds.length
  | [], _, h => by rw [RpF] at h; rw [h]; rfl
  | (j, x) :: ds, _, ⟨v, r, h1, h2, h3⟩ => by subst h1; rw [List.length_cons, List.length_cons, RpF.len h3]
theorem RpF.look {f : Str} : ∀ {ds : List (Str × D)} {vs : List (Str × V)}, RpF K G ds vs → (∀ d, lookD f ds = some d → ∃ v, vs.lookup f = some v ∧ Rp K G d v) ∧ (lookD f ds = none → vs.lookup f = none)
  | [], _, h => by rw [RpF] at h; rw [h]; exact ⟨fun d e => (nomatch e), fun _ => rfl⟩
  | (j, x) :: ds, _, ⟨v, r, h1, h2, h3⟩ => by
    subst h1
    obtain ⟨a, b⟩ := RpF.look (f := f) h3
    unfold lookD
    by_cases hj : j = f
    · subst hj
      rw [if_pos rfl]
      have e : List.lookup j ((j, v) :: r) = some v := by simp [List.lookup]
      rw [e]
      exact ⟨fun d q => ⟨v, rfl, by cases q; exact h2⟩, fun q => by cases q⟩
    · rw [if_neg hj]
      have e : List.lookup f ((j, v) :: r) = List.lookup f r := by
        have : (f == j) = false := by simpa using fun z => hj z.symm
        simp [List.lookup, this]
      rw [e]
      exact ⟨a, b⟩
theorem RpF.put {f : Str} {d : D} {v : V} (rv : Rp K G d v) : ∀ {ds : List (Str × D)} {vs : List (Str × V)}, RpF K G ds vs → RpF K G (putFD f d ds) (putF f v vs)
  | [], _, h => by rw [RpF] at h; rw [h]; exact ⟨v, [], rfl, rv, rfl⟩
  | (j, x) :: ds, _, ⟨u, r, h1, h2, h3⟩ => by
    subst h1
    unfold putFD putF
    by_cases hj : j = f
    · subst hj
      rw [if_pos rfl]
      first
        | (rw [if_pos rfl]; exact ⟨v, r, rfl, rv, h3⟩)
        | (simp; exact ⟨v, r, rfl, rv, h3⟩)
    · rw [if_neg hj]
      first
        | (rw [if_neg hj]; exact ⟨u, _, rfl, h2, RpF.put rv h3⟩)
        | (simp [hj]; exact ⟨u, _, rfl, h2, RpF.put rv h3⟩)
theorem Wd.insM (w : Wd K G F μ H) {a C : Addr} {fs : List (Str × D)} (h : μ a = some (.ins C fs)) : ∃ dx vs, H a = some (.ins C dx vs) ∧ RpF K G fs vs := by
  obtain ⟨o, h1, ⟨dx, vs, h2, h4⟩, h3⟩ := w.m a _ h
  subst h2
  exact ⟨dx, vs, h1, h4⟩
theorem Wd.newX (w : Wd K G F μ H) {p : Addr} {o : HO} (h : H p = none) : Wd K G F μ (upd H p o) :=
  ⟨fun a u e => by rw [upd_ne (ne_of_none (w.g a u e) h)]; exact w.g a u e, fun a u e => by
    have q := w.f a u e
    rw [upd_ne (ne_of_none q.1 h)]; exact q, fun a m e => by
    obtain ⟨u, h1, h2, h3⟩ := w.m a m e
    rw [upd_ne (ne_of_none h1 h)]; exact ⟨u, h1, h2, h3⟩, w.n⟩
theorem re_call {P : DP} {E : XK} {t : TA} {dt : TAd} (h1 : RA K t dt) : RE K (tCall (spD K P) [] E t) (dCall P dt) := fun σ ds G F μ H Qd Q hs hw h kq =>
  h1 σ ds G F μ H _ _ hs hw h fun vs xs G1 μ1 H1 e1 w1 r q => by
    rw [List.append_nil]
    exact ⟨G1, F, μ1, xs, Qd, r, w1, q, kq.up e1⟩
theorem re_meth {P : DP} {C : Addr} {m : Str} {E : XK} {to : TE} {dto : TD} {t : TA} {dt : TAd} (h1 : RE K to dto) (h2 : RA K t dt) : RE K (tMeth C m (spD K P) [] E to t) (dMeth C m P dto dt) := fun σ ds G F μ H Qd Q hs hw h kq =>
  h1 σ ds G F μ H _ _ hs hw h fun x dx G1 μ1 H1 e1 w1 rx q => by
    split at q
    · rename_i a
      obtain ⟨⟨fs, hm, hl⟩, q⟩ := q
      obtain ⟨dd, vs, h3, h4⟩ := w1.insM hm
      have rx' : x = V.ref a := rx
      refine ⟨a, dd, vs, rx', h3, h4.look.2 hl, h2 σ ds G1 F μ1 H1 _ _ (hs.mono e1) w1 q fun us xs G2 μ2 H2 e2 w2 r2 q2 => ?_⟩
      rw [List.append_nil]
      exact ⟨G2, F, μ2, .obj a :: xs, Qd, ⟨x, us, rfl, rx', r2⟩, w2, q2, kq.up (e1.trans e2)⟩
    · exact q.elim
theorem re_make {P : DP} {C : Addr} {E : XK} {t : TA} {dt : TAd} (h1 : RA K t dt) : RE K (tMake C (spD K P) [] E t) (dMake C P dt) := fun σ ds G F μ H Qd Q hs hw h kq =>
  h1 σ ds G F μ H _ _ hs hw h fun vs xs G1 μ1 H1 e1 w1 r q => by
    intro x dx hx hdx hne
    have w2 := w1.newX (o := .own x) hdx
    have hx2 : (upd H1 dx (.own x)) x = none := by rw [upd_ne (Ne.symm hne)]; exact hx
    have w3 := w2.newM (m := .ins C []) (o := .ins C dx []) hx2 ⟨dx, [], rfl, rfl⟩
    rw [List.append_nil]
    refine ⟨G1, F, _, .obj x :: xs, _, ⟨.ref x, vs, rfl, rfl, r⟩, w3, q x (w1.noM hx), fun v d G' μ' H' e w rv qd => ?_⟩
    obtain ⟨rfl, qd⟩ := qd
    exact ⟨rv, kq (.ref x) (.obj x) G' μ' H' (e1.trans e) w rfl qd⟩
theorem re_fld {C : Addr} {f : Str} {to : TE} {dto : TD} (c : Cls K C) (n : NoAttr K C f) (h1 : RE K to dto) : RE K (tFld K to f) (dFld C f dto) := fun σ ds G F μ H Qd Q hs hw h kq =>
  h1 σ ds G F μ H _ _ hs hw h fun x dx G1 μ1 H1 e1 w1 rx q => by
    split at q
    · obtain ⟨fs, d, hm, hl, q⟩ := q
      obtain ⟨dd, vs, h3, h4⟩ := w1.insM hm
      obtain ⟨v, hv, rv⟩ := h4.look.1 d hl
      exact ⟨_, C, dd, vs, v, rx, h3, c, n, hv, (kq.up e1).here w1 rv q⟩
    · exact q.elim
theorem rs_fld {C : Addr} {f : Str} {to tv : TE} {dto dtv : TD} (c : Cls K C) (n : NoAttr K C f) (h1 : RE K to dto) (h2 : RE K tv dtv) : RS K (sFld K to tv f) (dsFld C f dto dtv) := fun σ ds G F μ H E D hs hw h k =>
  h2 σ ds G F μ H _ _ hs hw h fun v d G0 μ0 H0 e0 w0 rv q0 => h1 σ ds G0 F μ0 H0 _ _ (hs.mono e0) w0 q0 fun x dx G1 μ1 H1 e1 w1 rx q => by
    split at q
    · obtain ⟨fs, hm, hl, q⟩ := q
      obtain ⟨dd, vs, h3, h4⟩ := w1.insM hm
      exact ⟨_, C, dd, vs, rx, h3, c, n, by rw [h4.len]; exact hl, k.nx σ ds G1 _ _ (e0.trans e1) (hs.mono (e0.trans e1)) (w1.chg (m := .ins C (putFD f d fs)) hm ⟨dd, _, rfl, h4.put (Rp.mono e1 _ _ rv)⟩) q⟩
    · exact q.elim
end

/-! ### the rules of the text, with their data -/
section
variable {X : Cx} {a b c o e : Expr} {ta tb tc te to ti tv : TE} {da db dc de dto di dv : TD} {tA tB' : TT} {dA dB : TTd} {pos apos : Pos} {es rest : List Expr} {t : TA} {dt : TAd}
theorem ed_var (i : Nat) {x : Str} (hN : X.N[i]? = some x := by rfl) (hv : Vis X.env.scope x := by first | exact Or.inl rfl | exact Or.inr (Or.inl rfl) | exact Or.inr (Or.inr rfl)) (hd : (x == ("__debug__" : Str)) = false := by decide)
    (hcd : (x == ("__classdict__" : Str)) = false := by decide) : PED X (.Name x pos) (dVar i) := .mk' (pe_var hN hv hd hcd) (re_var)
theorem ed_int {i j} : PED X (.Constant (.int i) j pos) (dC (.int i)) := .mk' (pe_int) (re_c fun _ => rfl)
theorem ed_bl {i j} : PED X (.Constant (.bool i) j pos) (dC (.bl i)) := .mk' (pe_bl) (re_c fun _ => rfl)
theorem ed_non {j} : PED X (.Constant .none j pos) (dC .non) := .mk' (pe_non) (re_c fun _ => rfl)
theorem ed_str {x j} : PED X (.Constant (.str x) j pos) (dC (.str x)) := .mk' (pe_str) (re_c fun _ => rfl)
theorem ed_glob {x : Str} {v : V} {d : D} {u : Value} (hm : X.mg x = some u) (r : RelV v u) (rd : ∀ G, Rp X.K G d v) (hg : Gl X x := by rfl) (hd : (x == ("__debug__" : Str)) = false := by decide) : PED X (.Name x pos) (dC d) := .mk' (pe_glob hg hm r hd) (re_c rd)
theorem ed_op {op : Operator} {r : R2} {dr : D → D → Mu → DK → Prop} (ho : OpR X (binaryOp op) r) (hr : RR2 X.K r dr) (ha : PED X a da) (hb : PED X b db) : PED X (.BinOp a op b pos) (dOp dr da db) := .mk' (pe_op ho ha.pe hb.pe) (re_op hr ha.re hb.re)
theorem ed_add (m : Bool) (ha : PED X a da) (hb : PED X b db) : PED X (.BinOp a .Add b pos) (dOp (dAdd m) da db) := ed_op op_addG rr_add ha hb
theorem ed_sub (ha : PED X a da) (hb : PED X b db) : PED X (.BinOp a .Sub b pos) (dOp dSub da db) := ed_op op_sub rr_sub ha hb
theorem ed_mul (m : Bool) (ha : PED X a da) (hb : PED X b db) : PED X (.BinOp a .Mult b pos) (dOp (dMul m) da db) := ed_op op_mulG rr_mul ha hb
theorem ed_mod (ha : PED X a da) (hb : PED X b db) : PED X (.BinOp a .Mod b pos) (dOp dMod da db) := ed_op op_mod rr_mod ha hb
theorem ed_fdiv (ha : PED X a da) (hb : PED X b db) : PED X (.BinOp a .FloorDiv b pos) (dOp dFDiv da db) := ed_op op_fdiv rr_fdiv ha hb
theorem ed_pow (ha : PED X a da) (hb : PED X b db) : PED X (.BinOp a .Pow b pos) (dOp dPow da db) := ed_op op_pow rr_pow ha hb
theorem ed_cmpR {op : CmpOp} {r : R2} {dr : D → D → Mu → DK → Prop} (ho : OpR X (compareOp op) r) (hr : RR2 X.K r dr) (ha : PED X a da) (hb : PED X b db) (hm : behindInMarks op b = false) : PED X (.Compare a [op] [b] pos) (dOp dr da db) := .mk' (pe_cmpR ho ha.pe hb.pe hm) (re_op hr ha.re hb.re)
theorem td_cmpR {op : CmpOp} {r : R2} {dr : D → D → Mu → DK → Prop} (ho : OpR X (compareOp op) r) (hr : RR2 X.K r dr) (ha : PED X a da) (hb : PED X b db) (hm : behindInMarks op b = false) : PTD X (.Compare a [op] [b] pos) (dTest (dOp dr da db)) := .mk' (pt_cmpR ho ha.pe hb.pe hm) (re_test (re_op hr ha.re hb.re))
theorem ed_chain {op op' : CmpOp} {r r' : R2} {dr dr' : D → D → Mu → DK → Prop} (ho : OpR X (compareOp op) r) (hr : RR2 X.K r dr) (ho' : OpR X (compareOp op') r') (hr' : RR2 X.K r' dr') (ha : PED X a da) (hb : PED X b db) (hc : PED X c dc)
    (hm : lastMarks [op, op'] [b, c] = false := by with_unfolding_all rfl) : PED X (.Compare a [op, op'] [b, c] pos) (dChain dr dr' da db dc) := .mk' (pe_chain ho ho' ha.pe hb.pe hc.pe hm) (re_chain hr hr' ha.re hb.re hc.re)
theorem td_chain {op op' : CmpOp} {r r' : R2} {dr dr' : D → D → Mu → DK → Prop} (ho : OpR X (compareOp op) r) (hr : RR2 X.K r dr) (ho' : OpR X (compareOp op') r') (hr' : RR2 X.K r' dr') (ha : PED X a da) (hb : PED X b db) (hc : PED X c dc)
    (hm : lastMarks [op, op'] [b, c] = false := by with_unfolding_all rfl) : PTD X (.Compare a [op, op'] [b, c] pos) (dTest (dChain dr dr' da db dc)) := .mk' (pt_chain ho ho' ha.pe hb.pe hc.pe hm) (re_test (re_chain hr hr' ha.re hb.re hc.re))
theorem td_val (h : PED X e de) (he : ∀ whole, isTrue e X.env whole = (do let v ← whole; standAt e.pos; holding [v] (truthy v)) := by intro _; rfl) : PTD X e (dTest de) := .mk' (pt_val h.pe he) (re_B h.re)
theorem td_tru (h : PED X e de) (he : ∀ whole, isTrue e X.env whole = (do let v ← whole; standAt e.pos; holding [v] (truthy v)) := by intro _; rfl) : PTD X e (dTru de) := .mk' (pt_truth h.pe he) (re_tru h.re)
theorem td_not (h : PTD X a dA) : PTD X (.UnaryOp .Not a pos) (dNotT dA) := .mk' (pt_not h.pe) (re_notT h.re)
theorem wd_and1 (h : PTD X a dA) : PWD X (.BoolOp .And [a] pos) dA := .mk' (pw_and1 h.pe) (h.re)
theorem wd_or1 (h : PTD X a dA) : PWD X (.BoolOp .Or [a] pos) dA := .mk' (pw_or1 h.pe) (h.re)
theorem wd_and (h : PTD X a dA) (h2 : PWD X (.BoolOp .And (b :: rest) pos) dB) : PWD X (.BoolOp .And (a :: b :: rest) pos) (dAndT dA dB) := .mk' (pw_and h.pe h2.pe) (re_andT h.re h2.re)
theorem wd_or (h : PTD X a dA) (h2 : PWD X (.BoolOp .Or (b :: rest) pos) dB) : PWD X (.BoolOp .Or (a :: b :: rest) pos) (dOrT dA dB) := .mk' (pw_or h.pe h2.pe) (re_orT h.re h2.re)
theorem td_w (h : PWD X e dA) : PTD X e dA := .mk' (h.pe.pt) (h.re)
theorem ed_one {op} (h : PED X a da) : PED X (.BoolOp op [a] pos) da := .mk' (pe_one h.pe) (h.re)
theorem ed_and (h1 : PED X a da) (h2 : PED X (.BoolOp .And (b :: rest) pos) db) : PED X (.BoolOp .And (a :: b :: rest) pos) (dAndV da db) := .mk' (pe_and h1.pe h2.pe) (re_andV h1.re h2.re)
theorem ed_or (h1 : PED X a da) (h2 : PED X (.BoolOp .Or (b :: rest) pos) db) : PED X (.BoolOp .Or (a :: b :: rest) pos) (dOrV da db) := .mk' (pe_or h1.pe h2.pe) (re_orV h1.re h2.re)
theorem ed_not (h : PED X a da) : PED X (.UnaryOp .Not a pos) (dNotV da) := .mk' (pe_notT h.pe) (re_notV h.re)
theorem ed_if (h0 : PTD X c dA) (h1 : PED X a da) (h2 : PED X b db) : PED X (.IfExp c a b pos) (dIf dA da db) := .mk' (pe_ifExp h0.pe h1.pe h2.pe) (re_if h0.re h1.re h2.re)
theorem ad_nil : PAD X [] dNilA := .mk' (pa_nil) (ra_nil)
theorem ad_cons (h : PED X e de) (hr : PAD X es dt) (hs : starEach (e :: es) X.env = (false, eval e X.env) :: starEach es X.env := by rfl) : PAD X (e :: es) (dConsA de dt) := .mk' (pa_cons h.pe hr.pe hs) (ra_cons h.re hr.re)
theorem ed_tup {x1} (h : PAD X es dt) : PED X (.Tuple es x1 pos) (dTup dt) := .mk' (pe_tup h.pe) (re_tup h.re)
theorem ed_lst (m : Bool) (h : PAD X es dt) : PED X (.List es pos) (dLst m dt) := .mk' (pe_lst h.pe) (re_lst h.re)
theorem ed_ix (h1 : PED X a da) (h2 : PED X b db) (hs : PlainIx b := by exact fun _ _ => rfl) : PED X (.Subscript a b pos) (dOp dIx da db) := .mk' (pe_ix ix_seq h1.pe h2.pe hs) (re_op rr_ix h1.re h2.re)
theorem od_none : POD X none dNoPart := .mk' (po_none) (ro_none)
theorem od_some (h : PED X e de) : POD X (some e) (dPart de) := .mk' (po_some h.pe) (ro_some h.re)
theorem ed_sl (m : Bool) {lo hi : Option Expr} {dl dh : TOd} {p2 : Pos} (h1 : PED X e de) (h2 : POD X lo dl) (h3 : POD X hi dh) : PED X (.Subscript e (.Slice lo hi none p2) pos) (dSl m de dl dh) := .mk' (pe_slice sl_G h1.pe h2.pe h3.pe) (re_sl h1.re h2.re h3.re)
theorem ed_callB {id : String} {x : Str} {p : Pos} {r : List V → Hp → VK → Prop} {dr : List D → Mu → DK → Prop} (hc : CallR X (.builtin id) r) (hr : RRL X.K r dr) (hm : X.mg x = none) (hv : bootBuiltins x = some (.builtin id)) (ha : PAD X (e :: es) dt) (hg : Gl X x := by rfl) (hn : x ≠ "__name__" := by decide) (hdb : (x == ("__debug__" : Str)) = false := by decide)
    (he : starEach (e :: es) X.env = (false, eval e X.env) :: starEach es X.env := by rfl) (hpl : (backTo pos (starEach es X.env)).any (·.1) = false := by rfl) : PED X (.Call (.Name x p) (e :: es) [] pos) (dCB dr dt) := .mk' (pe_callB hc hg hm hv ha.pe hn hdb he hpl) (re_cb hr ha.re)
theorem ed_callTy {id : String} {x : Str} {p : Pos} {r : List V → Hp → VK → Prop} {dr : List D → Mu → DK → Prop} (hc : CallR X (.type id) r) (hr : RRL X.K r dr) (hm : X.mg x = none) (hv : bootBuiltins x = some (.type id)) (ha : PAD X (e :: es) dt) (hg : Gl X x := by rfl) (hn : x ≠ "__name__" := by decide) (hdb : (x == ("__debug__" : Str)) = false := by decide)
    (he : starEach (e :: es) X.env = (false, eval e X.env) :: starEach es X.env := by rfl) (hpl : (backTo pos (starEach es X.env)).any (·.1) = false := by rfl) : PED X (.Call (.Name x p) (e :: es) [] pos) (dCB dr dt) := .mk' (pe_callTy hc hg hm hv ha.pe hn hdb he hpl) (re_cb hr ha.re)
end
end DL
set_option Elab.async false
set_option linter.all false
set_option maxRecDepth 100000
set_option maxHeartbeats 4000001
namespace DL
open PySem L2
section
variable {X : Cx} {a b c o e : Expr} {ta tb tc te to ti tv : TE} {da db dc de dto di dv : TD} {tA tB' : TT} {dA dB : TTd} {pos apos : Pos} {es : List Expr} {t : TA} {dt : TAd}
variable {k : Nat} {f C : Addr} {fd : FuncData} {ps : List Str} {P : DP} {x m : Str} {p : Pos}
theorem ed_call (G : FnOk X.prog X.w X.K X.mg X.base CX0 k f fd ps (spD X.K P)) (hr : Room k X.A) (hm : X.mg x = some (.ref f)) (hk : PySem.W.keepIn X.K (.ref f) = true) (hb : Binds X.K fd ps []) (ha : PAD X (e :: es) dt)
    (hg : Gl X x := by rfl) (hdb : (x == ("__debug__" : Str)) = false := by decide) (he : starEach (e :: es) X.env = (false, eval e X.env) :: starEach es X.env := by rfl) (hpl : (backTo pos (starEach es X.env)).any (·.1) = false := by rfl) :
    PED X (.Call (.Name x p) (e :: es) [] pos) (dCall P dt) := .mk' (pe_call G hr hg hm hk hb .nil pass0 ha.pe hdb he hpl) (re_call ha.re)
theorem ed_make0 (M : Mk X.K C f) (G : FnOk X.prog X.w X.K X.mg X.base CX0 k f fd ps (spD X.K P)) (hr : Room (k + 1) X.A) (hm : X.mg x = some (.ref C)) (hb : Binds X.K fd ps []) (hg : Gl X x := by rfl) (hdb : (x == ("__debug__" : Str)) = false := by decide) :
    PED X (.Call (.Name x p) [] [] pos) (dMake C P dNilA) := .mk' (pe_make0 M G hr hg hm hb .nil pass0 hdb) (re_make ra_nil)
theorem ed_make (M : Mk X.K C f) (G : FnOk X.prog X.w X.K X.mg X.base CX0 k f fd ps (spD X.K P)) (hr : Room (k + 1) X.A) (hm : X.mg x = some (.ref C)) (hb : Binds X.K fd ps []) (ha : PAD X (e :: es) dt) (hg : Gl X x := by rfl) (hdb : (x == ("__debug__" : Str)) = false := by decide)
    (he : starEach (e :: es) X.env = (false, eval e X.env) :: starEach es X.env := by rfl) (hpl : (backTo pos (starEach es X.env)).any (·.1) = false := by rfl) :
    PED X (.Call (.Name x p) (e :: es) [] pos) (dMake C P dt) := .mk' (pe_make M G hr hg hm hb .nil pass0 ha.pe hdb he hpl) (re_make ha.re)
theorem ed_meth {pl : Sem Bool} (ho : PED X o dto) (cl : Cls X.K C) (hm : Meth X.K C m f) (G : FnOk X.prog X.w X.K X.mg X.base CX0 k f fd ps (spD X.K P)) (hr : Room k X.A) (hb : Binds X.K fd ps []) (ha : PAD X (e :: es) dt)
    (he : starEach (e :: es) X.env = (false, eval e X.env) :: starEach es X.env := by rfl) (hpl : (backTo pos (starEach es X.env)).any (·.1) = false := by rfl)
    (hev : eval (.Call (.Attribute o m apos) (e :: es) [] pos) X.env = (do
      let ov ← eval o X.env
      standAt apos.atName
      let (f, first) ← holding [ov] (getMethod ov m pl)
      callWith pos f first (backTo pos (starEach (e :: es) X.env)) (backToKw pos (keywordEach [] X.env))) := by rfl) :
    PED X (.Call (.Attribute o m apos) (e :: es) [] pos) (dMeth C m P dto dt) := .mk' (pe_meth (pl := pl) ho.pe cl hm G hr hb .nil pass0 ha.pe he hpl hev) (re_meth ho.re ha.re)
theorem ed_meth0 {pl : Sem Bool} (ho : PED X o dto) (cl : Cls X.K C) (hm : Meth X.K C m f) (G : FnOk X.prog X.w X.K X.mg X.base CX0 k f fd ps (spD X.K P)) (hr : Room k X.A) (hb : Binds X.K fd ps [])
    (hev : eval (.Call (.Attribute o m apos) [] [] pos) X.env = (do
      let ov ← eval o X.env
      standAt apos.atName
      let (f, first) ← holding [ov] (getMethod ov m pl)
      callWith pos f first [] []) := by rfl) :
    PED X (.Call (.Attribute o m apos) [] [] pos) (dMeth C m P dto dNilA) := .mk' (pe_meth0 (pl := pl) ho.pe cl hm G hr hb .nil pass0 hev) (re_meth ho.re ra_nil)
theorem ed_fld (cl : Cls X.K C) (n : NoAttr X.K C m) (h : PED X e de) (hb : attributeBase e m X.env (eval e X.env) = eval e X.env := by rfl) : PED X (.Attribute e m pos) (dFld C m de) := .mk' (pe_fld h.pe hb) (re_fld cl n h.re)
theorem ed_bml {id : String} {name : Str} {r : V → List V → Hp → VK → Prop} {dr : D → List D → Mu → DK → Prop} (pa : PlainAttrs "list") (slot : Slot "list" name id) (hty : typeOf (.builtin id) = pure (.type "method_descriptor")) (hm : MtR X id r) (hr : RRM X.K r dr) (ho : PED X o dto) (ha : PAD X (e :: es) dt)
    (hbase : attributeBase o name X.env (eval o X.env) = eval o X.env := by rfl)
    (hfew : ((backTo pos (starEach (e :: es) X.env)).all (fun x => !x.1) && (backToKw pos (keywordEach [] X.env)).all (fun x => x.1.isSome) && decide ((e :: es).length + ([] : List Keyword).length + (if ([] : List Keyword).isEmpty then 0 else 1) < 30)) = true := by rfl)
    (hline : (apos.endLine == pos.line) = true := by rfl) (hs : starEach (e :: es) X.env = (false, eval e X.env) :: starEach es X.env := by rfl) (hplain : (backTo pos (starEach es X.env)).any (·.1) = false := by rfl) :
    PED X (.Call (.Attribute o name apos) (e :: es) [] pos) (dBML dr dto dt) := .mk' (pe_bm pa slot hty hm ho.pe ha.pe hbase hfew hline hs hplain) (re_bml hr ho.re ha.re)
theorem ed_m1 {id : String} {name : Str} {r : V → List V → Hp → VK → Prop} {dr : D → List D → Mu → DK → Prop} (slot : Slot "str" name id) (ty : typeOf (.builtin id) = pure (.type "method_descriptor")) (rule : MtR X id r) (hr : RRM X.K r dr) (ho : PED X o dto) (he : PED X e de)
    (hs : starEach [e] X.env = [(false, eval e X.env)] := by rfl) (hbase : attributeBase o name X.env (eval o X.env) = eval o X.env := by rfl) (hline : (apos.endLine == pos.line) = true := by rfl) :
    PED X (.Call (.Attribute o name apos) [e] [] pos) (dM1 dr dto de) := .mk' (pe_m1 slot ty rule ho.pe he.pe hs hbase hline) (re_m1 hr ho.re he.re)
theorem ed_m0 {id : String} {name : Str} {r : V → List V → Hp → VK → Prop} {dr : D → List D → Mu → DK → Prop} (slot : Slot "str" name id) (ty : typeOf (.builtin id) = pure (.type "method_descriptor")) (rule : MtR X id r) (hr : RRM X.K r dr) (ho : PED X o dto)
    (hbase : attributeBase o name X.env (eval o X.env) = eval o X.env := by rfl) (hline : (apos.endLine == pos.line) = true := by rfl) :
    PED X (.Call (.Attribute o name apos) [] [] pos) (dM0 dr dto) := .mk' (pe_m0 slot ty rule ho.pe hbase hline) (re_m0 hr ho.re)
theorem ed_join (ho : PED X o dto) (he : PED X e de) (hs : starEach [e] X.env = [(false, eval e X.env)] := by rfl) (hbase : attributeBase o "join" X.env (eval o X.env) = eval o X.env := by rfl) (hline : (apos.endLine == pos.line) = true := by rfl) :
    PED X (.Call (.Attribute o "join" apos) [e] [] pos) (dM1 dJoin dto de) :=
  ed_m1 PySem.F.slot_str_join PySem.F.type_str_join mt_join rm_join ho he hs hbase hline
theorem ed_split (m : Bool) (ho : PED X o dto) (he : PED X e de) (hs : starEach [e] X.env = [(false, eval e X.env)] := by rfl) (hbase : attributeBase o "split" X.env (eval o X.env) = eval o X.env := by rfl) (hline : (apos.endLine == pos.line) = true := by rfl) :
    PED X (.Call (.Attribute o "split" apos) [e] [] pos) (dM1 (dSplit m) dto de) :=
  ed_m1 PySem.F.slot_str_split PySem.F.type_str_split mt_split rm_split ho he hs hbase hline
theorem ed_append (ho : PED X o dto) (ha : PAD X [e] dt) (hbase : attributeBase o "append" X.env (eval o X.env) = eval o X.env := by rfl)
    (hfew : ((backTo pos (starEach [e] X.env)).all (fun x => !x.1) && (backToKw pos (keywordEach [] X.env)).all (fun x => x.1.isSome) && decide ([e].length + ([] : List Keyword).length + (if ([] : List Keyword).isEmpty then 0 else 1) < 30)) = true := by rfl)
    (hline : (apos.endLine == pos.line) = true := by rfl) (hs : starEach [e] X.env = (false, eval e X.env) :: starEach [] X.env := by rfl) (hplain : (backTo pos (starEach [] X.env)).any (·.1) = false := by rfl) :
    PED X (.Call (.Attribute o "append" apos) [e] [] pos) (dBML dAppend dto dt) := ed_bml PySem.F.plainAttrs_list PySem.F.slot_list_append PySem.F.type_list_append mt_append rm_append ho ha hbase hfew hline hs hplain
/-! comprehensions -/
variable {tg iter : Expr} {wi : TI} {wd : DI} {g : TG} {dg : DG}
theorem tsd_nil : PTsD X [] dYes := .mk' (pts_nil) (rt_yes)
theorem tsd_one (h : PTD X c dA) : PTsD X [c] dA := .mk' (pts_one h.pe) (h.re)
theorem id_seq (h : PED X e de) : PID X tg e (diSeq de) := .mk' (pi_seq h.pe) (ri_seq h.re)
theorem id_str (h : PED X e de) : PID X tg e (diStr de) := .mk' (pi_str h.pe) (ri_str h.re)
theorem id_rng1 (hm : X.mg "range" = none) (ha : PAD X [a] dt) (hg : Gl X "range" := by rfl) (hs : starEach [a] X.env = [(false, eval a X.env)] := by rfl) : PID X tg (.Call (.Name "range" p) [a] [] pos) (diRng1 dt) := .mk' (pi_range1 hg hm ha.pe hs) (ri_rng1 ha.re)
theorem id_rng2 (hm : X.mg "range" = none) (ha : PAD X [a, b] dt) (hg : Gl X "range" := by rfl) (hs : starEach [a, b] X.env = [(false, eval a X.env), (false, eval b X.env)] := by rfl) (hs2 : starEach [b] X.env = [(false, eval b X.env)] := by rfl) : PID X tg (.Call (.Name "range" p) [a, b] [] pos) (diRng2 dt) := .mk' (pi_range2 hg hm ha.pe hs hs2) (ri_rng2 ha.re)
theorem id_enum {elts : List Expr} {kk : Nat} {tpos : Pos} (hm : X.mg "enumerate" = none) (ha : PAD X [e] dt) (hg : Gl X "enumerate" := by rfl) (hs : starEach [e] X.env = [(false, eval e X.env)] := by rfl) : PID X (.Tuple elts kk tpos) (.Call (.Name "enumerate" p) [e] [] pos) (diEnum dt) := .mk' (pi_enum hg hm ha.pe hs) (ri_enum ha.re)
theorem id_enumS {elts : List Expr} {kk : Nat} {tpos : Pos} (hm : X.mg "enumerate" = none) (ha : PAD X [e] dt) (hg : Gl X "enumerate" := by rfl) (hs : starEach [e] X.env = [(false, eval e X.env)] := by rfl) : PID X (.Tuple elts kk tpos) (.Call (.Name "enumerate" p) [e] [] pos) (diEnumS dt) := .mk' (pi_enum hg hm ha.pe hs) (ri_enumS ha.re)
theorem gd_name (i : Nat) (hN : X.N.Nodup) (hi : X.N[i]? = some x := by rfl) (hx : Loc X.env.scope x := by first | exact Or.inl rfl | exact Or.inr rfl) (hf : X.fn x = true ∨ X.env.scope.names.lookup x = some .local := by first | exact .inl rfl | exact .inr rfl) : PGD X (.Name x pos) (dgName i) := .mk' (pg_name hN hi hx hf) (rg_name)
theorem gc_name {vs : List Nat} (i : Nat) (hN : X.N.Nodup) (hm : i ∈ vs := by decide) (hi : X.N[i]? = some x := by rfl) (hx : Loc X.env.scope x := by first | exact Or.inl rfl | exact Or.inr rfl) (hf : X.fn x = true ∨ X.env.scope.names.lookup x = some .local := by first | exact .inl rfl | exact .inr rfl) : PGC X vs (.Name x pos) (dgName i) := .mk' (pg_name hN hi hx hf) (rgc_name hm)
theorem rgs_cons2 {K : PySem.W.Frag} {i : Nat} {is : List Nat} {g : TG} {gs : TGs} (h0 : RG (K := K) g (dgName i)) (h1 : RGs (K := K) gs is) : RGs (K := K) (gCons g gs) (i :: is) := fun vs xs σ ds G F μ H R Rd r hl hs hw h k => by
  cases xs with
  | nil => simp at hl
  | cons x xs =>
    obtain ⟨v, us, e, r1, r2⟩ := r
    exact ⟨v, us, e, h0 v x σ ds G F μ H _ (fun ds1 μ1 => Rd (setAll ds1 is xs) μ1) r1 hs hw h fun σ' ds' G' μ' H' e' s' w' q => h1 us xs σ' ds' G' F μ' H' R Rd (RpL.mono e' _ _ r2) (by simpa using hl) s' w' q (k.up e')⟩
theorem rgcs_cons2 {K : PySem.W.Frag} {ws : List Nat} {i : Nat} {is : List Nat} {g : TG} {gs : TGs} (h0 : RGc K ws g (dgName i)) (h1 : RGcs K ws gs is) : RGcs K ws (gCons g gs) (i :: is) := fun vs xs σ ds G F μ H R Rd r hl hs hw h k => by
  cases xs with
  | nil => simp at hl
  | cons x xs =>
    obtain ⟨v, us, e, r1, r2⟩ := r
    exact ⟨v, us, e, h0 v x σ ds G F μ H _ (fun ds1 μ1 => Rd (setAll ds1 is xs) μ1) r1 hs hw h fun σ' ds' G' μ' H' ew e' s' w' q => h1 us xs σ' ds' G' F μ' H' R Rd (RpL.mono e' _ _ r2) (by simpa using hl) s' w' q fun σ2 ds2 G2 μ2 H2 ew2 e2 => k σ2 ds2 G2 μ2 H2 (ew2.trans ew) (e'.trans e2)⟩
theorem gsd_nil : PGsD X [] [] := .mk' (pgs_nil) (rgs_nil)
theorem gsd_cons {i : Nat} {is : List Nat} (h : PGD X e (dgName i)) (h2 : PGsD X es is) (hs : (assignEach (e :: es) X.env).map (·.2) = assign e X.env :: (assignEach es X.env).map (·.2) := by rfl) : PGsD X (e :: es) (i :: is) := .mk' (pgs_cons h.pg h2.pg hs) (rgs_cons2 h.rg h2.rg)
theorem gsc_nil {vs : List Nat} : PGsC X vs [] [] := .mk' (pgs_nil) (rgcs_nil)
theorem gsc_cons {vs : List Nat} {i : Nat} {is : List Nat} (h : PGC X vs e (dgName i)) (h2 : PGsC X vs es is) (hm : i ∈ vs := by decide) (hs : (assignEach (e :: es) X.env).map (·.2) = assign e X.env :: (assignEach es X.env).map (·.2) := by rfl) : PGsC X vs (e :: es) (i :: is) := .mk' (pgs_cons h.pg h2.pg hs) (rgcs_cons2 h.rg h2.rg)
theorem gd_tup {n kk : Nat} {is : List Nat} (hc : X.calm = true) (h : PGsD X es is) (hl : is.length = n) (hn : (assignEach es X.env).length = n := by rfl) (hst : (assignEach es X.env).findIdx? (·.1) = none := by rfl) : PGD X (.Tuple es kk pos) (dgTup is) := .mk' (pg_tup hc h.pg hn hst) (rg_tup h.rg hl)
theorem gc_tup {vs : List Nat} {n kk : Nat} {is : List Nat} (hc : X.calm = true) (h : PGsC X vs es is) (hl : is.length = n) (hn : (assignEach es X.env).length = n := by rfl) (hst : (assignEach es X.env).findIdx? (·.1) = none := by rfl) : PGC X vs (.Tuple es kk pos) (dgTup is) := .mk' (pg_tup hc h.pg hn hst) (rgc_tup h.rg hl)
theorem ed_lc (m : Bool) {elt : Expr} {ifs : List Expr} {scope : Scope} {own : List (Str × Nat)} {dtt : TTd} (hc : X.calm = true) (hN : X.N.Nodup) (ok : BlkOk X.N X.env.scope scope own) (hi : PID X tg iter wd)
    (hg : ∀ (s : Shared) (H : Hp) (C : Addr) (cl : List (Str × Addr)) (fp : List Addr), PGC (X.blk s H scope (compEnvC scope cl C X.env) fp) (own.map (·.2)) tg dg)
    (ht : ∀ (s : Shared) (H : Hp) (C : Addr) (cl : List (Str × Addr)) (fp : List Addr), PTsD (X.blk s H scope (compEnvC scope cl C X.env) fp) ifs dtt)
    (he : ∀ (s : Shared) (H : Hp) (C : Addr) (cl : List (Str × Addr)) (fp : List Addr), PED (X.blk s H scope (compEnvC scope cl C X.env) fp) elt de) (hs : ∀ x, foldedSetIterable iter X.env x = pure x := by intro _; rfl) :
    PED X (.ListComp elt [⟨tg, iter, ifs, 0⟩] scope pos) (dLc m wd dg dtt de (own.map (·.2))) := .mk' (pe_lc hc hN hi.pi ok (fun s H C cl fp => (hg s H C cl fp).pg) (fun s H C cl fp => (ht s H C cl fp).pe) (fun s H C cl fp => (he s H C cl fp).pe) hs) (re_lc hi.ri (hg X.s_0 X.H_0 0 [] []).rg (ht X.s_0 X.H_0 0 [] []).re (he X.s_0 X.H_0 0 [] []).re)
theorem sd_setLc (m : Bool) (i : Nat) {y : Str} {py spos : Pos} {elt : Expr} {ifs : List Expr} {scope : Scope} {own : List (Str × Nat)} {dtt : TTd} (hc : X.calm = true) (hN : X.N.Nodup) (hy : X.N[i]? = some y) (hyl : X.env.scope.names.lookup y = some .local)
    (hsw : swapsWith (.ListComp elt [⟨tg, iter, ifs, 0⟩] scope pos) (some (.Name y py)) spos.line X.env = pure true) (ok : BlkOk X.N X.env.scope scope own) (hi : PID X tg iter wd)
    (hg : ∀ (s : Shared) (H : Hp) (C : Addr) (cl : List (Str × Addr)) (fp : List Addr), PGC (X.blk s H scope (compEnvC scope cl C X.env) fp) (own.map (·.2)) tg dg)
    (ht : ∀ (s : Shared) (H : Hp) (C : Addr) (cl : List (Str × Addr)) (fp : List Addr), PTsD (X.blk s H scope (compEnvC scope cl C X.env) fp) ifs dtt)
    (he : ∀ (s : Shared) (H : Hp) (C : Addr) (cl : List (Str × Addr)) (fp : List Addr), PED (X.blk s H scope (compEnvC scope cl C X.env) fp) elt de) (hs : ∀ x, foldedSetIterable iter X.env x = pure x := by intro _; rfl) :
    PSD X (.Assign [.Name y py] (.ListComp elt [⟨tg, iter, ifs, 0⟩] scope pos) spos) (dAsg (dLc m wd dg dtt de (own.map (·.2))) (dgName i)) := .mk' (ps_setLc hc hN hy hyl hsw hi.pi ok (fun s H C cl fp => (hg s H C cl fp).pg) (fun s H C cl fp => (ht s H C cl fp).pe) (fun s H C cl fp => (he s H C cl fp).pe) hs) (rs_asg (re_lc hi.ri (hg X.s_0 X.H_0 0 [] []).rg (ht X.s_0 X.H_0 0 [] []).re (he X.s_0 X.H_0 0 [] []).re) rg_name)
/-! dicts -/
theorem ed_dget (hu : X.A.units + 1 < cLine) (h1 : PED X o dto) (h2 : PED X e de) (hs : NoSl e := by exact fun _ _ => rfl) : PED X (.Subscript o e pos) (dDGet dto de) := .mk' (pe_dget hu h1.pe h2.pe hs) (re_dget h1.re h2.re)
theorem sd_dput (hu : X.A.units + 1 < cLine) {pos' : Pos} (h1 : PED X o dto) (h2 : PED X e de) (h3 : PED X a da) (hs : swapsWith a (some (.Subscript o e pos')) pos.line X.env = pure false := by rfl) : PSD X (.Assign [.Subscript o e pos'] a pos) (dDPut dto de da) := .mk' (ps_dput hu h1.pe h2.pe h3.pe hs) (rs_dput h1.re h2.re h3.re)
theorem ppd_nil : PPD X pos [] [] [] := ⟨[], pps_nil, rps_nil⟩
end
section
variable {X : Cx} {a b c o e : Expr} {ta tb tc te to ti tv : TE} {da db dc de dto di dv : TD} {tA tB' : TT} {dA dB : TTd} {pos apos : Pos} {es : List Expr} {t : TA} {dt : TAd} {tg iter : Expr} {wi : TI} {wd : DI} {g : TG} {dg : DG} {C : Addr} {m x : Str}
theorem ppd_cons {ks : List (Option Expr)} {vs : List Expr} {tds : List (TD × TD)} (h1 : PED X a da) (h2 : PED X b db) (h3 : PPD X pos ks vs tds) : PPD X pos (some a :: ks) (b :: vs) ((da, db) :: tds) := by
  obtain ⟨ts, h4, h5⟩ := h3
  exact ⟨_, pps_cons h1.pe h2.pe h4, rps_cons h1.re h2.re h5⟩
theorem ed_disp {ks : List (Option Expr)} {vs : List Expr} {tds : List (TD × TD)} (h : PPD X pos ks vs tds) (hall : ks.all (·.isSome) = true) (hl : ks.length = vs.length) (h0 : ks ≠ []) (h15 : ks.length ≤ 15) : PED X (.Dict ks vs pos) (dDisp tds) := by
  obtain ⟨ts, h4, h5⟩ := h
  exact .mk' (pe_disp h4 hall hl h0 h15) (re_disp h5)
/-! statements -/
theorem sd_set (i : Nat) {pos' : Pos} (hN : X.N.Nodup) (he : PED X e de) (hi : X.N[i]? = some x := by rfl) (hx : Loc X.env.scope x := by first | exact Or.inl rfl | exact Or.inr rfl) (hs : swapsWith e (some (.Name x pos')) pos.line X.env = pure false := by rfl) (hf : X.fn x = true ∨ X.env.scope.names.lookup x = some .local := by first | exact .inl rfl | exact .inr rfl) :
    PSD X (.Assign [.Name x pos'] e pos) (dAsg de (dgName i)) := .mk' (ps_set hN hi hx he.pe hs hf) (rs_asg he.re rg_name)
theorem sd_asg (he : PED X e de) (hg : PGD X tg dg) (hs : swapsWithSole [tg] e pos.line X.env = pure false := by rfl) (hw : swappedStores [tg] e X.env = pure none := by rfl) (h1 : (assignEach [tg] X.env).map (·.2) = [assign tg X.env] := by rfl) : PSD X (.Assign [tg] e pos) (dAsg de dg) := .mk' (ps_asg he.pe hg.pg hs hw h1) (rs_asg he.re hg.rg)
theorem sd_fld {pos' : Pos} (cl : Cls X.K C) (n : NoAttr X.K C m) (h1 : PED X o dto) (h2 : PED X a da) (hs : swapsWith a (some (.Attribute o m pos')) pos.line X.env = pure false := by rfl) : PSD X (.Assign [.Attribute o m pos'] a pos) (dsFld C m dto da) := .mk' (ps_fld h1.pe h2.pe hs) (rs_fld cl n h1.re h2.re)
theorem sd_expr (he : PED X e de) (hs : swapsWith e none pos.line X.env = pure false := by rfl) : PSD X (.Expr e pos) (dDrop de) := .mk' (ps_expr he.pe hs) (rs_drop he.re)
theorem sd_ret (he : PED X e de) : PSD X (.Return (some e) pos) (dRet de) := .mk' (ps_ret he.pe) (rs_ret he.re)
theorem sd_retN : PSD X (.Return none pos) dRetN := .mk' (ps_retN) (rs_retN)
theorem sd_pass : PSD X (.Pass pos) dNext := .mk' (ps_pass) (rs_next)
theorem sd_break : PSD X (.Break pos) dBreak := .mk' (ps_break) (rs_break)
theorem sd_cont : PSD X (.Continue pos) dCont := .mk' (ps_continue) (rs_cont)
theorem sd_if {s1 s2 : List Stmt} {d1 d2 : DS} (hc : PTD X c dA) (h1 : PSSD X s1 d1) (h2 : PSSD X s2 d2) : PSD X (.If c s1 s2 pos) (dIfS dA d1 d2) := .mk' (ps_if hc.pe h1.ps h2.ps) (rs_if hc.re h1.rs h2.rs)
theorem sd_for {s1 : List Stmt} {d1 : DS} (hp : PassesOwn (model X.prog X.w) X.A X.env X.xe) (hc : X.calm = true) (hi : PID X tg iter wd) (hg : PGD X tg dg) (hb : PSSD X s1 d1) (hs : ∀ x, foldedSetIterable iter X.env x = pure x := by intro _; rfl) : PSD X (.For tg iter s1 [] pos) (dFor wd dg d1) := .mk' (ps_for hp hc hi.pi hg.pg hb.ps hs) (rs_for hi.ri hg.rg hb.rs)
theorem ssd_nil : PSSD X [] dNext := .mk' (pss_nil) (rs_next)
theorem ssd_cons {st : Stmt} {sts : List Stmt} {d1 d2 : DS} (h1 : PSD X st d1) (h2 : PSSD X sts d2) : PSSD X (st :: sts) (dSeq d1 d2) := .mk' (pss_cons h1.ps h2.ps) (rs_seq h1.rs h2.rs)
theorem ssd_one {st : Stmt} {d1 : DS} (h1 : PSD X st d1) : PSSD X [st] d1 := .mk' (pss_one h1.ps) (h1.rs)
end

/-! ### a def by its data -/
mutual
/-- d read anew as d', where the list a holds xs for good -/
def ReD (a : Addr) (xs : List D) : D → D → Prop
  | .obj b, d' => d' = .obj b ∨ (b = a ∧ d' = .lst xs)
  | .tup ds, d' => ∃ ds', d' = .tup ds' ∧ ReL a xs ds ds'
  | .lst ds, d' => ∃ ds', d' = .lst ds' ∧ ReL a xs ds ds'
  | .non, d' => d' = .non
  | .bl b, d' => d' = .bl b
  | .int i, d' => d' = .int i
  | .str s, d' => d' = .str s
  | .ty n, d' => d' = .ty n
  | .scr ds, d' => d' = .scr ds
  | .exc C fs, d' => d' = .exc C fs
def ReL (a : Addr) (xs : List D) : List D → List D → Prop
  | [], ds' => ds' = []
  | d :: ds, ds' => ∃ e es, ds' = e :: es ∧ ReD a xs d e ∧ ReL a xs ds es
end
mutual
theorem ReD.rp {K : PySem.W.Frag} {G : Hp} {a : Addr} {xs : List D} {us : List V} (h1 : G a = some (.lst us)) (h2 : RpL K G xs us) : ∀ (d d' : D) (v : V), ReD a xs d d' → Rp K G d v → Rp K G d' v
  | .obj b, d', v, e, r => by
    rcases e with rfl | ⟨rfl, rfl⟩
    · exact r
    · exact ⟨b, us, r, h1, h2⟩
  | .tup ds, _, v, ⟨ds', e, l⟩, ⟨p, vs, q1, q2, q3⟩ => by rw [e]; exact ⟨p, vs, q1, q2, ReL.rp h1 h2 ds ds' vs l q3⟩
  | .lst ds, _, v, ⟨ds', e, l⟩, ⟨p, vs, q1, q2, q3⟩ => by rw [e]; exact ⟨p, vs, q1, q2, ReL.rp h1 h2 ds ds' vs l q3⟩
  | .non, _, v, e, r => by rw [show _ = D.non from e]; exact r
  | .bl b, _, v, e, r => by rw [show _ = D.bl b from e]; exact r
  | .int i, _, v, e, r => by rw [show _ = D.int i from e]; exact r
  | .str s, _, v, e, r => by rw [show _ = D.str s from e]; exact r
  | .ty n, _, v, e, r => by rw [show _ = D.ty n from e]; exact r
  | .scr ds, _, v, e, r => by rw [show _ = D.scr ds from e]; exact r
  | .exc C fs, _, v, e, r => by rw [show _ = D.exc C fs from e]; exact r
theorem ReL.rp {K : PySem.W.Frag} {G : Hp} {a : Addr} {xs : List D} {us : List V} (h1 : G a = some (.lst us)) (h2 : RpL K G xs us) : ∀ (ds ds' : List D) (vs : List V), ReL a xs ds ds' → RpL K G ds vs → RpL K G ds' vs
  | [], _, vs, e, r => by rw [show _ = [] from e]; exact r
  | d :: ds, _, vs, ⟨e, es, q, q1, q2⟩, ⟨v, r, r1, r2, r3⟩ => by rw [q]; exact ⟨v, r, r1, ReD.rp h1 h2 d e v q1 r2, ReL.rp h1 h2 ds es r q2 r3⟩
end
/-- at the end objects may be put away, and a list may stand from now on -/
inductive GhQ (Q : DK) : D → Mu → Prop
  | self {d : D} {μ : Mu} (h : Q d μ) : GhQ Q d μ
  | sub' {d : D} {μ μ' : Mu} (s : SubM μ' μ) (h : GhQ Q d μ') : GhQ Q d μ
  | re {a : Addr} {xs : List D} {d d' : D} {μ : Mu} (h1 : μ a = some (.lst xs)) (e : ReD a xs d d') (h : GhQ Q d' (del μ a)) : GhQ Q d μ
theorem GhQ.sub {Q : DK} {d : D} {μ μ' : Mu} (s : SubM μ' μ) (h : Q d μ') : GhQ Q d μ := .sub' s (.self h)
theorem SubM.del {a : Addr} {μ μ' : Mu} (s : SubM μ' μ) (h2 : μ' a = none) : SubM μ' (del μ a) := fun b m e => by
  unfold DL.del
  by_cases q : b = a
  · subst q; rw [h2] at e; cases e
  · rw [if_neg q]; exact s b m e
theorem GhQ.refix {Q : DK} {a : Addr} {xs : List D} {d d' : D} {μ μ' : Mu} (s : SubM μ' μ) (h1 : μ a = some (.lst xs)) (h2 : μ' a = none) (e : ReD a xs d d') (h : Q d' μ') : GhQ Q d μ := .re h1 e (.sub (s.del h2) h)
theorem GhQ.fix {Q : DK} {a : Addr} {xs : List D} {μ μ' : Mu} (s : SubM μ' μ) (h1 : μ a = some (.lst xs)) (h2 : μ' a = none) (h : Q (.lst xs) μ') : GhQ Q (.obj a) μ := .refix s h1 h2 (.inr ⟨rfl, rfl⟩) h
def startD (N : List Str) (ds : List D) : DSl := ds.map some ++ List.replicate (N.length - ds.length) none
theorem kq_gh {K : PySem.W.Frag} {G F : Hp} {Qd : DK} {Q : VK} (kq : KQ K G F Qd Q) : KQ K G F (GhQ Qd) Q := fun v d G' μ' H' e w r h => by
  induction h generalizing G' with
  | self q => exact kq v _ G' _ H' e w r q
  | sub' s _ ih => exact ih G' e (w.sub s) r
  | re h1 hd _ ih =>
    obtain ⟨vs, h3, h4⟩ := w.lstM h1
    obtain ⟨w2, e2⟩ := w.fix h1 h3
    exact ih _ (e.trans e2) w2 (ReD.rp upd_same (RpL.mono e2 _ _ h4) _ _ _ hd (Rp.mono e2 _ _ r))
section
variable {P : Program} {w : World} {K : PySem.W.Frag} {mg : Str → Option Value} {base : Heap}
theorem okD {x qual : Str} {st : Stmt} {f : Addr} {fd : FuncData} {N ps : List Str} {k : Nat} {PD : DP} {td : DS} (Fu : Fun K x qual st f fd) (S : FnScope N ps (defScope st)) (len : ∀ ds μ Q, PD ds μ Q → ds.length = ps.length)
    (body : ∀ (cdv : Value) (A : Around) (outer : List Env) (s : Shared) (H : Hp) (E : XK), Room k (A.deeper (PyProof.Rows.envOfC qual (defScope st) s.heap.objs.size f cdv)) → PSSD (cxOf CX0 P w K mg base N qual (defScope st) f cdv A outer s H E).nox (defBody st) td)
    (rd : ∀ ds μ Q, PD ds μ Q → td { nx := fun _ μ' => GhQ Q .non μ', rt := GhQ Q } (startD N ds) μ) : FnOk P w K mg base CX0 (k + 1) f fd ps (spD K PD) := by
  refine Fu.ok S (fun vs H Q E h => ?_) (fun cdv A outer s H vs Q E hr h => ⟨_, (body cdv A outer s H E hr).ps, ?_⟩)
  · obtain ⟨G, F, μ, ds, Qd, r, hw, hp, kq⟩ := h
    rw [r.len]; exact len ds μ Qd hp
  · obtain ⟨G, F, μ, ds, Qd, r, hw, hp, kq⟩ := h
    have hs : RpS K G (startD N ds) (L2.start N vs) := by
      unfold startD L2.start
      rw [r.len]
      exact RpS.start r
    have kg := kq_gh kq
    exact (body cdv A outer s H E hr).rs (L2.start N vs) (startD N ds) G F μ H _ _ hs hw (rd ds μ Qd hp) ⟨fun σ' ds' G' μ' H' e _ w' q => kg .non .non G' μ' H' e w' rfl q, kg, fun σ' ds' G' μ' H' e _ w' q => q.elim, fun σ' ds' G' μ' H' e _ w' q => q.elim⟩
end
end DL
set_option Elab.async false
set_option linter.all false
set_option maxRecDepth 100000
set_option maxHeartbeats 4000001
namespace DL
open PySem L2
/-! ### what the text's top holds, by names -/
section
variable (P : Program) (w : World) (K : PySem.W.Frag) (mg : Str → Option Value) (base : Heap)
/-- a def of the top stands under its name -/
def Here (x qual : Str) (st : Stmt) (ps : List Str) : Prop := ∃ (f : Addr) (fd : FuncData), mg x = some (.ref f) ∧ Fun K x qual st f fd ∧ Binds K fd ps []
/-- .. and keeps its promise -/
def DefAt (x : Str) (k : Nat) (ps : List Str) (PD : DP) : Prop := ∃ (f : Addr) (fd : FuncData), mg x = some (.ref f) ∧ PySem.W.keepIn K (.ref f) = true ∧ Binds K fd ps [] ∧ FnOk P w K mg base CX0 k f fd ps (spD K PD)
def HereM (C : Addr) (m qual : Str) (st : Stmt) (ps : List Str) : Prop := ∃ (f : Addr) (fd : FuncData), Meth K C m f ∧ Fun K m qual st f fd ∧ Binds K fd ps []
def MethAt (C : Addr) (m : Str) (k : Nat) (ps : List Str) (PD : DP) : Prop := ∃ (f : Addr) (fd : FuncData), Meth K C m f ∧ Binds K fd ps [] ∧ FnOk P w K mg base CX0 k f fd ps (spD K PD)
def HereI (x : Str) (C : Addr) (qual : Str) (st : Stmt) (ps : List Str) : Prop := mg x = some (.ref C) ∧ ∃ (f : Addr) (fd : FuncData), Mk K C f ∧ Fun K "__init__" qual st f fd ∧ Binds K fd ps []
def MakeAt (x : Str) (C : Addr) (k : Nat) (ps : List Str) (PD : DP) : Prop := mg x = some (.ref C) ∧ ∃ (f : Addr) (fd : FuncData), Mk K C f ∧ Binds K fd ps [] ∧ FnOk P w K mg base CX0 k f fd ps (spD K PD)
end
section
variable {X : Cx} {a b c o e : Expr} {ta tb tc te to ti tv : TE} {da db dc de dto di dv : TD} {pos apos : Pos} {es : List Expr} {t : TA} {dt : TAd} {k : Nat} {C : Addr} {ps : List Str} {PD : DP} {x m : Str} {p : Pos}
theorem ed_callD (G : DefAt X.prog X.w X.K X.mg X.base x k ps PD) (hr : Room k X.A) (ha : PAD X (e :: es) dt)
    (hg : Gl X x := by rfl) (hdb : (x == ("__debug__" : Str)) = false := by decide) (he : starEach (e :: es) X.env = (false, eval e X.env) :: starEach es X.env := by rfl) (hpl : (backTo pos (starEach es X.env)).any (·.1) = false := by rfl) :
    PED X (.Call (.Name x p) (e :: es) [] pos) (dCall PD dt) := by
  obtain ⟨f, fd, h1, h2, h3, h4⟩ := G
  exact ed_call h4 hr h1 h2 h3 ha hg hdb he hpl
theorem ed_makeD0 (G : MakeAt X.prog X.w X.K X.mg X.base x C k ps PD) (hr : Room (k + 1) X.A) (hg : Gl X x := by rfl) (hdb : (x == ("__debug__" : Str)) = false := by decide) :
    PED X (.Call (.Name x p) [] [] pos) (dMake C PD dNilA) := by
  obtain ⟨h0, f, fd, h1, h2, h3⟩ := G
  exact ed_make0 h1 h3 hr h0 h2 hg hdb
theorem ed_makeD (G : MakeAt X.prog X.w X.K X.mg X.base x C k ps PD) (hr : Room (k + 1) X.A) (ha : PAD X (e :: es) dt) (hg : Gl X x := by rfl) (hdb : (x == ("__debug__" : Str)) = false := by decide)
    (he : starEach (e :: es) X.env = (false, eval e X.env) :: starEach es X.env := by rfl) (hpl : (backTo pos (starEach es X.env)).any (·.1) = false := by rfl) :
    PED X (.Call (.Name x p) (e :: es) [] pos) (dMake C PD dt) := by
  obtain ⟨h0, f, fd, h1, h2, h3⟩ := G
  exact ed_make h1 h3 hr h0 h2 ha hg hdb he hpl
theorem ed_methD {pl : Sem Bool} (ho : PED X o dto) (cl : Cls X.K C) (G : MethAt X.prog X.w X.K X.mg X.base C m k ps PD) (hr : Room k X.A) (ha : PAD X (e :: es) dt)
    (he : starEach (e :: es) X.env = (false, eval e X.env) :: starEach es X.env := by rfl) (hpl : (backTo pos (starEach es X.env)).any (·.1) = false := by rfl)
    (hev : eval (.Call (.Attribute o m apos) (e :: es) [] pos) X.env = (do
      let ov ← eval o X.env
      standAt apos.atName
      let (f, first) ← holding [ov] (getMethod ov m pl)
      callWith pos f first (backTo pos (starEach (e :: es) X.env)) (backToKw pos (keywordEach [] X.env))) := by rfl) :
    PED X (.Call (.Attribute o m apos) (e :: es) [] pos) (dMeth C m PD dto dt) := by
  obtain ⟨f, fd, h1, h2, h3⟩ := G
  exact ed_meth (pl := pl) ho cl h1 h3 hr h2 ha he hpl hev
theorem ed_methD0 {pl : Sem Bool} (ho : PED X o dto) (cl : Cls X.K C) (G : MethAt X.prog X.w X.K X.mg X.base C m k ps PD) (hr : Room k X.A)
    (hev : eval (.Call (.Attribute o m apos) [] [] pos) X.env = (do
      let ov ← eval o X.env
      standAt apos.atName
      let (f, first) ← holding [ov] (getMethod ov m pl)
      callWith pos f first [] []) := by rfl) :
    PED X (.Call (.Attribute o m apos) [] [] pos) (dMeth C m PD dto dNilA) := by
  obtain ⟨f, fd, h1, h2, h3⟩ := G
  exact ed_meth0 (pl := pl) ho cl h1 h3 hr h2 hev
theorem ed_gint {i : Int} (h : ∃ t, X.mg x = some (.int i t)) (hg : Gl X x := by rfl) (hd : (x == ("__debug__" : Str)) = false := by decide) : PED X (.Name x pos) (dC (.int i)) := by
  obtain ⟨t, h⟩ := h
  exact ed_glob (v := .int i) h ⟨t, rfl⟩ (fun _ => rfl) hg hd
theorem ed_gstr {i : Str} (h : ∃ t, X.mg x = some (.str i t)) (hg : Gl X x := by rfl) (hd : (x == ("__debug__" : Str)) = false := by decide) : PED X (.Name x pos) (dC (.str i)) := by
  obtain ⟨t, h⟩ := h
  exact ed_glob (v := .str i) h ⟨t, rfl⟩ (fun _ => rfl) hg hd
theorem ed_gref {d : D} (h : X.mg x = some (.ref C) ∧ ∀ G, Rp X.K G d (.ref C)) (hg : Gl X x := by rfl) (hd : (x == ("__debug__" : Str)) = false := by decide) : PED X (.Name x pos) (dC d) := ed_glob (v := .ref C) h.1 rfl h.2 hg hd
theorem gd_sub (ho : PED X o dto) (hi : PED X e di) (ha : ∀ v, assign (.Subscript o e pos) X.env v = (do
      let ov ← holding [v] (eval o X.env)
      let iv ← holding [v, ov] (eval e X.env)
      standAt pos
      holding [v, ov, iv] (setItem ov iv v)
      release [v, ov, iv] []) := by intro _; rfl) : PGD X (.Subscript o e pos) (dgSub dto di) := .mk' (pg_sub ho.pe hi.pe set_list ha) (rg_sub ho.re hi.re)
def dNeg (ta : TD) : TD := fun ds μ Q => ta ds μ fun x μ1 => match x with
  | .int i => Q (.int (-i)) μ1
  | _ => False
theorem ed_neg (h : PED X a da) : PED X (.UnaryOp .USub a pos) (dNeg da) := .mk' (pe_un un_neg h.pe) (fun σ ds G F μ H Qd Q hs hw q kq => h.re σ ds G F μ H _ _ hs hw q fun x dx G1 μ1 H1 e1 w1 rx q1 => by
  split at q1
  · exact ⟨_, rx, (kq.up e1).here w1 (d := .int _) rfl q1⟩
  · exact q1.elim)
end
section
variable {P : Program} {w : World} {K : PySem.W.Frag} {mg : Str → Option Value} {base : Heap}
theorem defAt {x qual : Str} {st : Stmt} {N ps : List Str} {k : Nat} {PD : DP} {td : DS} (Hh : Here K mg x qual st ps) (S : FnScope N ps (defScope st)) (len : ∀ ds μ Q, PD ds μ Q → ds.length = ps.length)
    (body : ∀ (f : Addr) (cdv : Value) (A : Around) (outer : List Env) (s : Shared) (H : Hp) (E : XK), Room k (A.deeper (PyProof.Rows.envOfC qual (defScope st) s.heap.objs.size f cdv)) → PSSD (cxOf CX0 P w K mg base N qual (defScope st) f cdv A outer s H E).nox (defBody st) td)
    (rd : ∀ ds μ Q, PD ds μ Q → td { nx := fun _ μ' => GhQ Q .non μ', rt := GhQ Q } (startD N ds) μ) : DefAt P w K mg base x (k + 1) ps PD := by
  obtain ⟨f, fd, h1, h2, h3⟩ := Hh
  exact ⟨f, fd, h1, h2.kp, h3, okD h2 S len (body f) rd⟩
theorem methAt {m qual : Str} {C : Addr} {st : Stmt} {N ps : List Str} {k : Nat} {PD : DP} {td : DS} (Hh : HereM K C m qual st ps) (S : FnScope N ps (defScope st)) (len : ∀ ds μ Q, PD ds μ Q → ds.length = ps.length)
    (body : ∀ (f : Addr) (cdv : Value) (A : Around) (outer : List Env) (s : Shared) (H : Hp) (E : XK), Room k (A.deeper (PyProof.Rows.envOfC qual (defScope st) s.heap.objs.size f cdv)) → PSSD (cxOf CX0 P w K mg base N qual (defScope st) f cdv A outer s H E).nox (defBody st) td)
    (rd : ∀ ds μ Q, PD ds μ Q → td { nx := fun _ μ' => GhQ Q .non μ', rt := GhQ Q } (startD N ds) μ) : MethAt P w K mg base C m (k + 1) ps PD := by
  obtain ⟨f, fd, h1, h2, h3⟩ := Hh
  exact ⟨f, fd, h1, h3, okD h2 S len (body f) rd⟩
theorem makeAt {x qual : Str} {C : Addr} {st : Stmt} {N ps : List Str} {k : Nat} {PD : DP} {td : DS} (Hh : HereI K mg x C qual st ps) (S : FnScope N ps (defScope st)) (len : ∀ ds μ Q, PD ds μ Q → ds.length = ps.length)
    (body : ∀ (f : Addr) (cdv : Value) (A : Around) (outer : List Env) (s : Shared) (H : Hp) (E : XK), Room k (A.deeper (PyProof.Rows.envOfC qual (defScope st) s.heap.objs.size f cdv)) → PSSD (cxOf CX0 P w K mg base N qual (defScope st) f cdv A outer s H E).nox (defBody st) td)
    (rd : ∀ ds μ Q, PD ds μ Q → td { nx := fun _ μ' => GhQ Q .non μ', rt := GhQ Q } (startD N ds) μ) : MakeAt P w K mg base x C (k + 1) ps PD := by
  obtain ⟨h0, f, fd, h1, h2, h3⟩ := Hh
  exact ⟨h0, f, fd, h1, h3, okD h2 S len (body f) rd⟩
end
end DL
set_option Elab.async false
set_option linter.all false
set_option maxRecDepth 100000
set_option maxHeartbeats 3200000
/-! set(names), names a list of texts of any length. -/
namespace LS
open PySem PySem.Spec PyProof.Rows
/-- how many unlike ones are among the first i -/
def cntD (xs : List Str) : Nat → Nat
  | 0 => 0
  | i + 1 => if ((xs.take i).any (· == xs.getD i Str.empty)) = true then cntD xs i else cntD xs i + 1
theorem cntD_le (xs : List Str) : ∀ i, cntD xs i ≤ i
  | 0 => Nat.le_refl _
  | i + 1 => by
    have := cntD_le xs i
    unfold cntD
    split <;> omega
section
variable {prog : Program} {w : World} {A : Around} {I S : Addr} {fp wr : List Addr} {G : Array GenState → Array GenState → Prop} {m : Nat} {P : Nat → Value → Prop} {St : Nat → Shared → Prop}
theorem grow (W : WalksS prog w A.in1 I fp wr G m P St) (hS : S ∉ fp) (xs : List Str) (few : m + 1 < scanBound) (txt : ∀ i v, P i v → ∃ t, v = .str (xs.getD i Str.empty) t) (lx : xs.length = m) {R : Result → Shared → Prop} :
    ∀ (left i : Nat) (z : Shared), i + left = m → St i z → z.heap.SetOf (PySem.strKind prog w) S (fun y => (xs.take i).any (· == y)) (cntD xs i) →
      (∀ z', Moved (S :: wr) G z z' → z'.heap.SetOf (PySem.strKind prog w) S (fun y => (xs.take m).any (· == y)) (cntD xs m) → R (.ok (.ret .none)) z') →
      codeAny (model prog w) A (.builtin "set.update.loop" ⟨[.ref S, .ref I], []⟩) R z := by
  have nw : S ∉ wr := fun q => hS (W.sub _ q)
  have inc : ∀ b ∈ wr, b ∈ S :: wr := fun b q => List.mem_cons_of_mem _ q
  intro left
  induction left with
  | zero =>
    intro i z e at_ set_ done
    have e2 : i = m := by omega
    rw [e2] at at_ set_
    refine codeAny_builtin PyProof.Rows.F.entry_set_update_loop ?_
    rw [Around.under_plainId PyProof.Rows.F.plain_set_update_loop _]
    refine wpAny_bind (m := pyNext (.ref I)) (W.done z _ _ at_ fun z' mv => wpAny_pure (done z' (mv.mono inc) ?_))
    obtain ⟨ob, es, ep, tb, ho, r⟩ := set_
    exact ⟨ob, es, ep, tb, mv.heap S _ nw ho, r⟩
  | succ left ih =>
    intro i z e at_ set_ done
    have lt : i < m := by omega
    refine codeAny_builtin PyProof.Rows.F.entry_set_update_loop ?_
    rw [Around.under_plainId PyProof.Rows.F.plain_set_update_loop _]
    refine wpAny_bind (m := pyNext (.ref I)) (W.item i z _ _ lt at_ fun v z' hv at2 mv => ?_)
    obtain ⟨t, rfl⟩ := txt i v hv
    have set2 : z'.heap.SetOf (PySem.strKind prog w) S (fun y => (xs.take i).any (· == y)) (cntD xs i) := by
      obtain ⟨ob, es, ep, tb, ho, r⟩ := set_
      exact ⟨ob, es, ep, tb, mv.heap S _ nw ho, r⟩
    refine wpAny_bind (m := holding [Value.str (xs.getD i Str.empty) t] (setAdd S (.str (xs.getD i Str.empty) t))) (wpAny_holding ?_)
    unfold setAdd
    refine wpAny_holding (wpAny_bind ((PySem.strKind prog w).pyHash (k := xs.getD i Str.empty) (strKind_is _ _ _ _) ?_))
    have room : cntD xs i + 1 < scanBound := by have := cntD_le xs i; omega
    refine wpAny_setAddHashed_of (knd := PySem.strKind prog w) (s := { z' with toks := z'.toks + 1 }) (strKind_is _ _ _ _) rfl set2 room fun h' but set3 => ?_
    have set4 : h'.SetOf (PySem.strKind prog w) S (fun y => (xs.take (i + 1)).any (· == y)) (cntD xs (i + 1)) := by
      refine SetOf_congr set3 (fun y => ?_) ?_
      · have hi : i < xs.length := by omega
        rw [List.take_succ_eq_append_getElem hi, List.any_append]
        have g : xs.getD i Str.empty = xs[i] := by simp [List.getD, hi]
        rw [g]
        congr 1
        simp only [List.any_cons, List.any_nil, Bool.or_false]
        by_cases q : y = xs[i]
        · subst q; simp
        · have q2 : (xs[i] == y) = false := beq_eq_false_iff_ne.mpr fun w => q w.symm
          rw [q2]; simp [q]
      · rfl
    refine wpAny_pure ⟨plainId_quiet PyProof.Rows.F.plain_set_update_loop _, ih (i + 1) _ (by omega) (W.frame _ z' _ _ at2 (Nat.le_succ _) fun b hb o q => ?_) set4 fun z2 mv2 fin => ?_⟩
    · rw [but.2 b (fun w : b = S => hS (w ▸ hb))]; exact q
    · refine done z2 (Moved.trans W.gtrans ((mv.mono inc).then_heap (Nat.le_succ _) fun b o hb q => ?_) mv2) fin
      rw [but.2 b (fun w : b = S => hb (w ▸ List.mem_cons_self))]; exact q
end
section
variable {prog : Program} {w : World} {A : Around} {E : Value → Shared → Prop} {z : Shared}
theorem set_of_list {l : Addr} {items : Array Value} {xs : List Str} {Q : Value → Shared → Prop} (none_held : A.handled = none) (at_l : z.heap.IsList l items) (txts : PyProof.Rows.StrsAre items.toList xs) (few : items.size + 1 < scanBound)
    (fin : ∀ (h' : Heap) (tk : Nat), h'.SetOf (PySem.strKind prog w) z.heap.objs.size (fun y => (xs.take items.size).any (· == y)) (cntD xs items.size) → (∀ b o, b < z.heap.objs.size → z.heap.get? b = some o → h'.get? b = some o) → Q (.ref z.heap.objs.size) { z with heap := h', toks := tk }) :
    wpAny (model prog w) A (call (.type "set") [.ref l]) Q E z := by
  obtain ⟨c0, tl0, mro0⟩ := PySem.F.called_set.mro
  have g1 := PySem.F.called_set.made
  have g2 := PySem.F.called_set.sub
  have g3 := PySem.F.called_set.notType
  have g4 := PySem.F.called_set.canCreate
  have g5 := PySem.F.typeCall_set_1 (.ref l)
  refine wpAny_call (codeAny_of_tree (show wpAny _ _ (callAny (.type "set") _) _ _ _ from wpAny_pure ⟨Code.quiet_builtin _ (by decide +kernel), codeAny_builtin PySem.F.entry_type_call ?_⟩))
  rw [Around.under_plain (weight_type_call_type "set" [.ref l] []) rfl]
  repeat (any_goals (first | assumption | wp_step))
  refine codeAny_mono (code_set_new_1 (.ref l) (E := E) (Q₁ := fun ob z1 => ∃ led : Bool, ob = .ref z.heap.objs.size ∧ z1 = { z with heap := z.heap.push { cls := .type "set", dict := none, data := .set #[] 0 (.fresh 0 0 led) } }) fun led => ⟨led, rfl, rfl⟩) fun res z1 got => ?_
  rcases res with er | (ob | _ | _ | _) <;> first | exact got | exact got.elim | skip
  obtain ⟨led, rfl, rfl⟩ := got
  have atS : (z.heap.push { cls := .type "set", dict := none, data := .set #[] 0 (.fresh 0 0 led) }).get? z.heap.objs.size = some { cls := .type "set", dict := none, data := .set #[] 0 (.fresh 0 0 led) } := Heap.get?_push_size _ rfl
  have isS : Shared.TypeIs { z with heap := z.heap.push { cls := .type "set", dict := none, data := .set #[] 0 (.fresh 0 0 led) } } (.ref z.heap.objs.size) "set" := ⟨_, atS, rfl⟩
  have g6 := PySem.F.called_set.init.lookup
  have g7 := PySem.F.called_set.init.bind (.ref z.heap.objs.size)
  repeat (any_goals (first | assumption | wp_step))
  refine codeAny_mono (codeAny_call_builtin (R := wants (fun r z2 => r = .none ∧ ∃ h' tk, z2 = { z with heap := h', toks := tk } ∧ h'.SetOf (PySem.strKind prog w) z.heap.objs.size (fun y => (xs.take items.size).any (· == y)) (cntD xs items.size) ∧
      (∀ b o, b < z.heap.objs.size → z.heap.get? b = some o → h'.get? b = some o)) E) PySem.F.called_set.init.plain PySem.F.entry_set_init (check_set_init_1 isS ?_)) fun res2 z2 got2 => ?_
  · obtain ⟨⟨_, odict, odata, oslots⟩, hol, hcl, nl, hdl⟩ := at_l
    simp only at hcl hdl
    subst hcl; subst hdl
    have here : (z.heap.push { cls := .type "set", dict := none, data := .set #[] 0 (.fresh 0 0 led) }).get? l = some { cls := .type "list", dict := odict, data := .seq items nl, slots := oslots } := Heap.get?_push_of_some _ hol
    have s1 := PySem.F.sub_list_set
    have s2 := PySem.F.sub_list_frozenset
    have s3 : (Value.type "list" == Value.type "dict") = false := by decide
    have isL : (z.heap.push { cls := .type "set", dict := none, data := .set #[] 0 (.fresh 0 0 led) }).IsList l items := ⟨_, here, rfl, nl, rfl⟩
    unfold Builtin.«set.__init__» noKeywords Builtin.Frozenset.updateFrom
    generalize pit : pyIter = PI
    wp_walk
    subst pit
    refine wpAny_pyIter_list isL (wpAny_bind (wpAny_runValue ?_))
    have lS : l < z.heap.objs.size := Heap.lt_size hol
    have hh3 : A.in1.in1.in1.handled = none := by simp [none_held]
    have size1 : (z.heap.push { cls := .type "set", dict := none, data := .set #[] 0 (.fresh 0 0 led) }).objs.size = z.heap.objs.size + 1 := Heap.size_push _ _
    have lI : l ≠ (z.heap.push { cls := .type "set", dict := none, data := .set #[] 0 (.fresh 0 0 led) }).objs.size := by
      rw [size1]; exact Nat.ne_of_lt (Nat.lt_succ_of_lt lS)
    have notIn : z.heap.objs.size ∉ [(z.heap.push { cls := .type "set", dict := none, data := .set #[] 0 (.fresh 0 0 led) }).objs.size, l] := by
      rw [size1]; simp only [List.mem_cons, List.mem_singleton, List.not_mem_nil, or_false, not_or]
      exact ⟨Nat.ne_of_lt (Nat.lt_succ_self _), Nat.ne_of_gt lS⟩
    have lx : xs.length = items.size := by rw [← StrsAre.len_eq txts, Array.length_toList]
    refine grow ((Walks.list hh3 _ l lI items).toS) notIn xs few (fun i v hv => SS.strs_at txts i v (by rw [Array.getElem?_toList]; exact hv)) lx items.size 0 _ (by omega) ⟨⟨_, Heap.get?_push_size _ rfl, rfl, rfl⟩, (isL.push _)⟩ ?first ?last
    case first =>
      have atS2 : ((z.heap.push { cls := .type "set", dict := none, data := .set #[] 0 (.fresh 0 0 led) }).push { cls := .type "list_iterator", data := .fields #[.ref l, .int 0 0] }).get? z.heap.objs.size = some { cls := .type "set", dict := none, data := .set #[] 0 (.fresh 0 0 led) } := Heap.get?_push_of_some _ atS
      exact PyProof.Rows.SetOf_congr ((PyProof.Rows.setObjOf_fresh (knd := PySem.strKind prog w) led).setOf atS2 (by unfold scanBound; omega)) (fun _ => rfl) rfl
    case last =>
      rintro ⟨h', g', d', tk', os'⟩ mv set_
      obtain rfl : g' = z.gens := mv.gens
      obtain rfl : d' = z.drawn := mv.drawn
      obtain rfl : os' = z.os := mv.os
      refine wpAny_pure (wpAny_pure ⟨rfl, h', tk', rfl, set_, fun b o hb q => ?_⟩)
      refine mv.heap b o ?_ (Heap.get?_push_of_some _ (Heap.get?_push_of_some _ q))
      rw [size1]; simp only [List.mem_cons, List.mem_singleton, List.not_mem_nil, or_false, not_or]
      exact ⟨Nat.ne_of_lt hb, Nat.ne_of_lt (Nat.lt_succ_of_lt hb)⟩
  · rcases res2 with er | (r | _ | _ | _) <;> first | exact got2 | exact got2.elim | skip
    obtain ⟨rfl, h', tk, rfl, set_, keep_⟩ := got2
    repeat (any_goals (first | assumption | wp_step))
    exact fin _ _ set_ keep_
end
end LS
set_option Elab.async false
set_option linter.all false
set_option maxRecDepth 100000
set_option maxHeartbeats 1000001
/-! enumerate(xs, start=k), k a number in the text. -/
namespace L2
open PySem PySem.Spec PyProof.Rows
theorem type_kw {M : Model} {A : Around} {E : Value → Shared → Prop} {s : Shared} {pos : Pos} {T : String} {args : List (Bool × Sem Value)} {keywords : List (Option Str × Sem Value)} {Q : Value → Shared → Prop}
    (pl : args.any (·.1) = false) (nk : keywords.any (·.1.isNone) = false) (h : wpAny M A (evalArgs (.type T) true args keywords) (fun a s₁ => wpAny M A (call (.type T) a.pos a.kw) Q E s₁) E s) : wpAny M A (callWith pos (.type T) [] args keywords) Q E s := by
  unfold callWith
  refine wpAny_bind (wpAny_holding (wpAny_mono h (fun a s₁ h₁ => wpAny_bind (wpAny_standAt ?_)) fun _ _ x => x))
  simp only [pl, nk, Bool.or_false]
  refine wpAny_bind (wpAny_pure ?_)
  exact wpAny_bind (wpAny_mono h₁ (fun r s₂ hr => wpAny_bind (wpAny_holding (wpAny_point (wpAny_pure hr)))) fun _ _ x => x)
/-- the list at a, each item in a new pair, counted from k -/
def ItK (K : PySem.W.Frag) (k : Int) (a : Addr) : It :=
  ⟨fun i H => ∃ (xs : List V) (x : V), SqL K H a xs ∧ xs[i]? = some x, fun i H v H' => ∃ T x, v = .ref T ∧ H T = none ∧ H' = upd H T (.tup [.int (k + (i : Nat)), x]) ∧ ∀ xs, SqL K H a xs → xs[i]? = some x, fun i H => ∃ xs : List V, SqL K H a xs ∧ xs.length ≤ i⟩
theorem turn_enumK {P : Program} {w : World} {K : PySem.W.Frag} {elts : List Expr} {kk : Nat} {tpos : Pos} (k : Int) (a e it : Addr) :
    Turn P w K (.Tuple elts kk tpos) (ItK K k a) [e, it] e (fun i h => (∃ old, IsEnum h e it (k + ((i : Nat) : Int)) old) ∧ h.IsListIter it a i ∧ e ≠ it ∧ a ≠ it ∧ a ≠ e) where
  mem := by simp
  obj := fun i h st b hb => by
    obtain ⟨⟨old, he⟩, ⟨o, ho, hc, hd⟩, _⟩ := st
    rcases (show b = e ∨ b = it by simpa using hb) with z | z
    · rw [z]; exact ⟨_, he, fun v q => nomatch q⟩
    · rw [z]; exact ⟨o, ho, fun v q => by rw [hd] at q; cases q⟩
  keep := fun i h h' st q => let ⟨⟨old, he⟩, hi, n1, n2⟩ := st; ⟨⟨old, q e (by simp) _ he⟩, hi.at fun o r => q it (by simp) o r, n1, n2⟩
  item := by
    intro X hP hw hK hc i pins s σ H E I hf st hg
    subst hP hw hK
    obtain ⟨⟨old, he⟩, hit, ne, na, nae⟩ := st
    obtain ⟨xs, x, hq, hx⟩ := hg
    obtain ⟨its, rv, p, hz⟩ := I.list hq
    obtain ⟨u, hu, ru⟩ := rv.get hx
    have hel : e < s.heap.objs.size := Heap.lt_size he
    have hil : it < s.heap.objs.size := by obtain ⟨_, q, _⟩ := hit; exact Heap.lt_size q
    have lt : i < its.toArray.size := by
      have := (List.getElem?_eq_some_iff.mp hu).1
      simpa using this
    refine wpAny_pyNext_enum_itemC (Draws.list (A := X.A.in1) (by simpa using I.ok.hd hc) it a na its.toArray) he ⟨hit, p.isList⟩ lt ne (by simp only [List.mem_cons, List.mem_singleton, List.not_mem_nil, or_false, not_or]; exact ⟨ne, Ne.symm nae⟩) fun x' h' tk hx' ho hst hT hsz hk => ?_
    have eu : x' = u := by
      have y : its[i]? = some x' := by rw [← Array.getElem?_toList] at hx'; simpa using hx'
      rw [hu] at y
      exact (Option.some.inj y).symm
    subst eu
    obtain ⟨hit', _⟩ := hst
    refine ⟨_, rfl, wpAny_letOwnedTupleGo_enum (s := { s with heap := h', toks := tk + 1 }) ho fun h'' he' sb => ?_⟩
    have hT2 : h''.get? s.heap.objs.size = some { cls := .type "tuple", data := .seq #[.int (k + (i : Int)) tk, x'] } := (sb.2 _ (Nat.ne_of_gt hel)).trans hT
    have new : ObjOk X.prog X.w (upd H s.heap.objs.size (.tup [.int (k + (i : Nat)), x])) h'' s.heap.objs.size (.tup [.int (k + (i : Nat)), x]) :=
      ⟨by show 2 ≤ sizeLine; decide, [.int (k + (i : Int)) tk, x'], .cons ⟨_, rfl⟩ (.cons ru .nil), ⟨_, hT2, rfl, _, rfl⟩⟩
    have I1 : Inv X pins σ (upd H s.heap.objs.size (.tup [.int (k + (i : Nat)), x])) { s with heap := h'', toks := tk + 1 } :=
      I.turnedNew (ch := [e, it]) (fun b ob hb q => (sb.2 b (fun z => hb (by simp [z]))).trans (hk b ob (fun z => hb (by simp [z])) (fun z => hb (by simp [z])) q)) hf (Nat.le_refl _) new
    refine ⟨.ref s.heap.objs.size, _, I1, rfl, ⟨_, x, rfl, I.hok.fresh (Nat.le_refl _), rfl, fun ys hy => by rw [I.list_inj hy hq]; exact hx⟩, ⟨⟨x', ?_⟩, hit'.at fun o q => (sb.2 it (Ne.symm ne)).trans q, ne, na, nae⟩, fun b hb => ?_⟩
    · have e1 : k + ((i + 1 : Nat) : Int) = k + (i : Int) + 1 := by omega
      rw [e1]; exact he'
    · have hb' : b < s.heap.objs.size := by
        rcases (show b = e ∨ b = it by simpa using hb) with z | z
        · rw [z]; exact hel
        · rw [z]; exact hil
      rw [upd_ne (Nat.ne_of_lt hb')]
      exact (hf b hb).1
  done := by
    intro X hP hw hK hc i pins s σ H E I hf st hg
    subst hP hw hK
    obtain ⟨⟨old, he⟩, hit, ne, na, nae⟩ := st
    obtain ⟨xs, hq, hx⟩ := hg
    obtain ⟨its, rv, p, hz⟩ := I.list hq
    obtain ⟨f0, f1, f2, f3, f4, f5⟩ := hf it (by simp)
    have over : its.toArray[i]? = none := by
      have := rv.length
      exact Array.getElem?_eq_none (by simp; omega)
    have D : Draws X.prog X.w X.A.in1 it [it, a] i (fun _ _ => True) (fun j h => j = i ∧ h.IsListIter it a i ∧ h.IsList a its.toArray) :=
      { live := fun _ _ st => let ⟨o, ho, _⟩ := st.2.1; ⟨o, ho⟩
        frame := fun _ _ _ st q => ⟨st.1, st.2.1.at fun o r => q it (by simp) o r, st.2.2.at fun o r => q a (by simp) o r⟩
        item := fun j z Q E lt st hQ => absurd st.1 (by omega)
        done := fun z Q E st hE => wpAny_nextOf_list_end (by simpa using I.ok.hd hc) st.2.1 st.2.2 over hE }
    exact wpAny_pyNext_enum_endD D he ⟨rfl, hit, p.isList⟩ fun h' eb => ⟨rfl, I.turned (t' := s.toks) (fun b o hb q => eb b o hb q) f0 f1 f3 f4 f5⟩
  self := fun A i s Q E st h => let ⟨⟨_, he⟩, _⟩ := st; wpAny_pyIter_enum he h
def iEnumK (K : PySem.W.Frag) (k : Int) (ta : TA) : TI := fun σ H R => ta σ H fun vs H1 => ∃ a xs, vs = [.ref a] ∧ SqL K H1 a xs ∧ R (ItK K k a) H1
theorem pi_enumK {X : Cx} {e : Expr} {ta : TA} {p pos tpos p1 p2 : Pos} {elts : List Expr} {kk j : Nat} {k : Int} (h0 : -(2 ^ 63) ≤ k) (h1 : k < 2 ^ 63) (hg : Gl X "enumerate") (hm : X.mg "enumerate" = none) (ha : PA X [e] ta) (hs : starEach [e] X.env = [(false, eval e X.env)] := by rfl) :
    PI X (.Tuple elts kk tpos) (.Call (.Name "enumerate" p) [e] [⟨some "start", .Constant (.int k) j p1, p2⟩] pos) (iEnumK X.K k ta) := by
  refine ⟨fun pins s σ H R I h => ?_⟩
  refine wpAny_Call_Name_kw (ld_blt I hg hm boot_enumerate (type_kw (by rw [hs]; rfl) (by rfl) ?_))
  have go : wpAny (model X.prog X.w) X.A (spliced (backTo pos (starEach [e] X.env))) (fun us s1 => wpAny (model X.prog X.w) X.A (evalAll ((backToKw pos (keywordEach [⟨some "start", .Constant (.int k) j p1, p2⟩] X.env)).map (·.2)))
      (fun ws s2 => wpAny (model X.prog X.w) X.A (call (.type "enumerate") us ((["start"] : List Str).zip ws)) (fun v s1 => wpAny (model X.prog X.w) X.A (pyIter v) (PIE X pins σ (.Tuple elts kk tpos) R) X.xe s1) X.xe s2) X.xe s1) X.xe s := by
    refine thn (ha.run pos pins s σ H _ I h) fun us s1 ⟨vs, H1, I1, r1, a, xs, ex, hq, q⟩ => ?_
    subst ex
    cases r1 with
    | cons r rr =>
      cases rr
      cases r
      refine PyProof.Rows.kws_cons (wpAny_Constant_int (PyProof.Rows.kws_nil ?_))
      have I2 : Inv X pins σ H1 { s1 with toks := s1.toks + 1 } := I1.tok _
      obtain ⟨its, rv, p', hz⟩ := I2.list hq
      have al : a < s1.heap.objs.size := by
        obtain ⟨o, ho, _⟩ := p'.isList
        exact Heap.lt_size ho
      refine enum_begins_start (begins_list a its.toArray) p'.isList h0 h1 fun h' he hit hsz hk => wpAny_pyIter_enum he ?_
      have I3 : Inv X pins σ H1 { s1 with heap := h', toks := s1.toks + 1 } := I2.kept (t' := s1.toks + 1) hk
      have e0 : k = k + ((0 : Nat) : Int) := by omega
      refine ⟨s1.heap.objs.size + 1, [s1.heap.objs.size + 1, s1.heap.objs.size], _, _, H1, rfl, I3, turn_enumK k a (s1.heap.objs.size + 1) s1.heap.objs.size, ⟨⟨.none, by rw [← e0]; exact he⟩, ⟨_, hit, rfl, rfl⟩, Nat.succ_ne_self _, Nat.ne_of_lt al, Nat.ne_of_lt (Nat.lt_succ_of_lt al)⟩, fun b hb => ?_, q⟩
      have hle : s1.heap.objs.size ≤ b := by
        rcases (show b = s1.heap.objs.size + 1 ∨ b = s1.heap.objs.size by simpa using hb) with z | z
        · rw [z]; exact Nat.le_add_right _ _
        · rw [z]; exact Nat.le_refl _
      exact I2.fpOk hle (I2.hok.fresh hle)
  rw [hs] at go ⊢
  exact PyProof.Rows.evalArgs_kwB (by rfl) go
end L2
set_option Elab.async false
set_option linter.all false
set_option maxRecDepth 100000
set_option maxHeartbeats 1000001
/-! A kept error: its class, its fields. -/
namespace BTX
open PySem PySem.W PySem.Spec PySem.Calls PyProof.Rows
section
variable {prog : Program} {w : World} {A : Around} {E : Value → Shared → Prop} {s : Shared} {K : Frag} {x D : Addr} {ox : Obj} {od : Option Obj}
theorem clsOf_own (T : L2.ExcC K D) : findObj K D od "__class__" = some (.bind (.builtin "getset_descriptor.__get__") (.builtin "object.__class__")) := by
  obtain ⟨cd, hc, _⟩ := any_some T.hd
  unfold findObj
  rw [hc, Option.bind_some, T.ha, Option.bind_some]
  simp [T.hn, T.ht]
theorem ask_class {Q : Option Value → Shared → Prop} (T : L2.ExcC K D) (X : K.In s.heap) (I : InstAt s.heap x ox D od) (h : Q (some (.ref D)) { s with toks := s.toks + 1 }) : wpAny (model prog w) A (getAttr? (.ref x) "__class__") Q E s := by
  have fo : findObj K D od "__class__" = _ := clsOf_own T
  obtain ⟨hp, gg, dr, tk, oo⟩ := s
  have M0 := I.type (M := model prog w)
  have M1 := looks_findIn (M := model prog w) X T.hg
  have M2 := looks_findIn (M := model prog w) X T.hk
  have M3 := looks_find (M := model prog w) X I fo
  have below : Looks (model prog w) hp (isInstance (.ref x) (.type "BaseException")) true := M0.andThen (looks_subIn X T.hs)
  have b0 : (false && onTheHeap (Value.builtin "BaseException.__getattribute__")) = false := rfl
  have b2 : (Value.builtin "BaseException.__getattribute__" == Value.builtin "object.__getattribute__") = false := by decide +kernel
  have b1 : (onTheHeap (Value.ref D) && Value.builtin "BaseException.__getattribute__" == Value.builtin "object.__getattribute__") = false := by rw [b2]; rfl
  unfold getAttr? getAttrBy? getAttrBy
  refine wpAny_bind (wpAny_mkText (wpAny_bind (wpAny_attempt (wpAny_holding (wpAny_bind (M0.at (wpAny_bind (M1.at ?_))))))))
  show wpAny _ _ (if (onTheHeap (Value.ref D) && Value.builtin "BaseException.__getattribute__" == Value.builtin "object.__getattribute__") = true then _ else _) _ _ _
  rw [b1, if_neg Bool.false_ne_true]
  unfold getAttrByItsOwn hookBefore
  refine wpAny_bind ?_
  rw [if_pos (show onTheHeap (Value.ref D) = true from rfl)]
  refine M2.at (wpAny_bind (wpAny_attempt (wpAny_holding ?_)))
  unfold callGetattribute
  rw [b0, if_neg Bool.false_ne_true]
  unfold boundAndCalled
  rw [PySem.F.excAttr_ValueError.ga.bind (.ref x)]
  refine wpAny_bind (wpAny_pure ?_)
  show wpAny _ _ (call (.builtin "BaseException.__getattribute__") [.ref x, .str "__class__" tk]) _ _ _
  refine wpAny_call (codeAny_call_builtin PySem.F.excAttr_ValueError.ga.plain PySem.F.entry_bexc_ga ?_)
  refine @check_slot (model prog w) _ _ ⟨hp, gg, dr, tk + 1, oo⟩ "BaseException.__getattribute__" "BaseException" "__getattribute__" (.ref x) [.str "__class__" tk] [] _ (by decide +kernel) (by decide +kernel) below (PySem.F.args_bexc_ga (.ref x) (.str "__class__" tk)) ?_
  unfold Builtin.«object.__getattribute__»
  refine wpAny_bind (wpAny_of_eq (a := ((Value.ref x : Value), [Value.str "__class__" tk])) (by first | rfl | (simp only [slotArgs]; rfl)) ?_)
  refine wpAny_bind (wpAny_pure (wpAny_bind (M0.at (wpAny_bind (M3.at ?_)))))
  show wpAny _ _ (holding [Value.builtin "object.__class__"] (call (.builtin "getset_descriptor.__get__") [.builtin "object.__class__", .ref x, .ref D]) >>= ret) _ _ _
  refine wpAny_bind (wpAny_holding (wpAny_call (class_get (s := ⟨hp, gg, dr, tk + 1, oo⟩) (ox := ox) (od := od) X I T.hm ?_)))
  refine wpAny_pure ?_
  show wpAny _ _ (handedOut (.ref D)) _ _ _
  rw [handedOut_of (v := .ref D) rfl]
  first
    | exact wpAny_pure (wpAny_pure h)
    | exact wpAny_pure h
    | exact wpAny_pure (wpAny_bind (wpAny_pure (wpAny_pure h)))
theorem kit_kept (T : L2.ExcC K D) : KitX K (.ref x) (.ref D) (fun h => ∃ ox od, InstAt h x ox D od) where
  ty := fun _ _ _ ⟨_, _, I⟩ => I.type
  it := fun _ _ X _ => by
    obtain ⟨cd, hc, _⟩ := any_some T.hd
    unfold clsIn at hc
    split at hc
    · rename_i hcl
      intro A Q E s k q
      unfold isType loadHead
      exact wpAny_bind (wpAny_loadPart (k _ _ (X _ _ hcl)) (wpAny_pure q))
    · cases hc
  ne := (PySem.W.handS_kitx_exc (K := K) (x := x) (D := D) (ox := excRec (.ref D) 0 none .none .none .none) T.hg T.hk T.hs T.hd T.ha T.hn T.ht T.hm).ne
  ca := fun X ⟨_, _, I⟩ k => ask_class T X I k
end
end BTX
namespace L2
open PySem PySem.Spec PyProof.Rows
/-- a kept error stands at a -/
def KeptAt (H : Hp) (a C : Addr) : Prop := ∃ d, H a = some (XT (.ref C) d a) ∧ (d = none ∨ ∃ dd fs, d = some dd ∧ H dd = some (.xd fs))
section
variable {X : Cx} {pins : List (Addr × Obj)} {σ : St} {H : Hp} {s : Shared}
theorem KeptAt.inst {a C : Addr} (I : Inv X pins σ H s) (h : KeptAt H a C) : ∃ ox od, PySem.W.InstAt s.heap a ox C od := by
  obtain ⟨d, h1, h2⟩ := h
  obtain ⟨oe, vs, e, z, dd⟩ := xt_at (I.hok a _ h1)
  have nc : PySem.W.notCls oe = true := by unfold PySem.W.notCls; rw [dd] <;> rfl
  rcases h2 with rfl | ⟨b, fs, rfl, h2⟩
  · exact ⟨oe, none, e, z.1, nc, by rw [z.2]; trivial⟩
  · obtain ⟨mA, ⟨o, es, ep, ho, hr⟩, _⟩ := (show ObjOk X.prog X.w H s.heap b (.xd fs) from I.hok b _ h2)
    exact ⟨oe, some o, e, z.1, nc, by rw [z.2]; exact ho⟩
end
/-- isinstance(e, c), e a kept error -/
def rIsX (K : PySem.W.Frag) : List V → Hp → VK → Prop := fun xs H Q => ∃ (a C : Addr) (c : V) (u : Value) (b : Bool), xs = [.ref a, c] ∧ ClsV c u ∧ KeptAt H a C ∧ ExcC K C ∧ PySem.W.kitOne K (.ref C) u = some b ∧ Q (.bl b) H
theorem call_isX {X : Cx} : CallR X (.builtin "isinstance") (rIsX X.K) := by
  intro pins s σ H xs us Q I r h
  obtain ⟨a, C, c, u, b, rfl, k, kept, T, e, q⟩ := h
  obtain ⟨u1, u2, rfl, r1, r2⟩ := vals2 r
  have e2 := k.eq r2
  subst e2
  cases r1
  obtain ⟨ox, od, J⟩ := kept.inst I
  exact PySem.W.kia_one (BTX.kit_kept T) I.kIn ⟨ox, od, J⟩ e (fun z => nomatch z) fun tk => ⟨.bl b, H, I.tok tk, rfl, q⟩
/-- e.f, e a kept error -/
def tKept (K : PySem.W.Frag) (f : Str) (te : TE) : TE := fun σ H Q => te σ H fun x H1 => ∃ (a C dd : Addr) (fs : List (Str × V)) (v : V), x = .ref a ∧ H1 a = some (XT (.ref C) (some dd) a) ∧ H1 dd = some (.xd fs) ∧ XfC K C ∧ PySem.W.findIn K (.ref C) f = some none ∧ fs.lookup f = some v ∧ Q v H1
theorem pe_kept {X : Cx} {e : Expr} {te : TE} {pos : Pos} {n : Str} (he : PE X e te) (hb : attributeBase e n X.env (eval e X.env) = eval e X.env := by rfl) : PE X (.Attribute e n pos) (tKept X.K n te) := by
  refine ⟨fun pins s σ H Q I h => ?_⟩
  refine attr_of hb (thn (he.run pins s σ H _ I h) fun u s1 hh => ?_)
  obtain ⟨x, H1, I1, rx, a, C, dd, fs, v, ex, h1, h2, T, hno, l, q⟩ := hh
  subst ex
  obtain rfl : u = Value.ref a := rx
  obtain ⟨oe, vs, e1, z, d1⟩ := xt_at (I1.hok a _ h1)
  obtain ⟨mA, hns, hr⟩ := (show ObjOk X.prog X.w H1 s1.heap dd (.xd fs) from I1.hok dd _ h2)
  obtain ⟨o2, ho, hl⟩ := lookIn_ns hns
  obtain ⟨u, hu, ru⟩ := RelO.some_of (v := v) (o := mA n) (by rw [← l]; exact hr n)
  have J : PySem.W.InstAt s1.heap a oe C (some o2) := ⟨e1, z.1, by unfold PySem.W.notCls; rw [d1] <;> rfl, by rw [z.2]; exact ho⟩
  exact HandSPX.exc_get I1.kIn J T.ga T.gg T.exC (PySem.W.findObj_own T.hdC hno rfl (by rw [hl, hu])) (handed_of ru) ⟨v, H1, I1.tok _, ru, q⟩
end L2
set_option Elab.async false
set_option linter.all false
set_option maxRecDepth 100000
set_option maxHeartbeats 1000001
namespace L2
open PySem PySem.Spec PyProof.Rows
/-- len(set(xs)), xs a list of texts -/
def tLenSetN (K : PySem.W.Frag) (ta : TE) : TE := fun σ H Q => ta σ H fun x H1 => ∃ (l : Addr) (xs : List Str), x = V.ref l ∧ SqL K H1 l (xs.map V.str) ∧ xs.length ≤ 1000 ∧ Q (.int (LS.cntD xs xs.length)) H1
theorem txts_of : ∀ {xs : List Str} {us : List Value}, Vals (xs.map V.str) us → PyProof.Rows.StrsAre us xs
  | [], _, .nil => .nil
  | y :: ys, _, .cons r t => by
    obtain ⟨k, rfl⟩ := r
    exact .cons y k (txts_of t)
theorem pe_lenSetN {X : Cx} {a : Expr} {ta : TE} {p p2 q pos : Pos} (hc : X.calm = true) (hg : Gl X "len") (hm : X.mg "len" = none) (hg2 : Gl X "set") (hm2 : X.mg "set" = none) (ha : PE X a ta)
    (na : starEach [a] X.env = (false, eval a X.env) :: starEach [] X.env := by rfl) : PE X (.Call (.Name "len" p) [.Call (.Name "set" p2) [a] [] q] [] pos) (tLenSetN X.K ta) := by
  refine ⟨fun pins s σ H Q I h => ?_⟩
  refine Call_ (ld_blt I hg hm boot_len (PyProof.Rows.callWith_builtin1 (PyProof.Rows.args_cons ?_ rfl) rfl rfl))
  refine Call_ (ld_blt I hg2 hm2 PyProof.Rows.boot_set (PyProof.Rows.callWith_type1 (PyProof.Rows.args_cons (thn (ha.run pins s σ H _ I h) fun v s1 ⟨x, H1, I1, r1, q1⟩ => PyProof.Rows.args_nil ?_) na) na rfl))
  obtain ⟨l, xs, rfl, hq, few, q1⟩ := q1
  cases r1
  obtain ⟨its, r, pl, _⟩ := I1.list hq
  have size_ : its.toArray.size = xs.length := by rw [List.size_toArray, ← r.length, List.length_map]
  refine LS.set_of_list (I1.ok.hd hc) pl.isList (xs := xs) (by simpa using txts_of r) (by rw [size_]; unfold scanBound; omega) fun h' tk st keeps_ => PyProof.Rows.args_nil ?_
  rw [size_] at st
  obtain ⟨o, es, ep, t, ho, hex, hd, _, _, _, hf, hn⟩ := st
  have I2 : Inv X pins σ H1 { s1 with heap := h', toks := tk } := I1.kept fun b o e => keeps_ b o (Heap.lt_size e) e
  have := LS.cntD_le xs xs.length
  exact call_len_set ho hex hd hf (by rw [hn]; omega) ⟨.int (LS.cntD xs xs.length), H1, I2.tok _, ⟨_, by rw [hn]⟩, q1⟩
end L2
namespace DL
open PySem L2
/-! ### len(set(names)) -/
def dLenSet (ta : TD) : TD := fun ds μ Q => ta ds μ fun x μ1 => ∃ xs : List Str, LstAt μ1 x (xs.map .str) ∧ xs.length ≤ 1000 ∧ Q (.int (LS.cntD xs xs.length)) μ1
theorem re_lenSet {K : PySem.W.Frag} {te : TE} {td : TD} (h : RE K te td) : RE K (tLenSetN K te) (dLenSet td) := fun σ ds G F μ H Qd Q hs hw q kq =>
  h σ ds G F μ H _ _ hs hw q fun v d G1 μ1 H1 e1 w1 r q1 => by
    obtain ⟨xs, l, few, q1⟩ := q1
    obtain ⟨a, vs, rfl, h2, h3⟩ := l.h w1 r
    have := h3.strs
    subst this
    exact ⟨a, xs, rfl, SqL.of h2, few, (kq.up e1).here w1 (d := .int _) rfl q1⟩
/-! ### isinstance -/
inductive TyD (μ : Mu) : D → Value → Prop where
  | non : TyD μ .non (.type "NoneType")
  | bl (b : Bool) : TyD μ (.bl b) (.type "bool")
  | int (i : Int) : TyD μ (.int i) (.type "int")
  | str (s : Str) : TyD μ (.str s) (.type "str")
  | lst (xs : List D) : TyD μ (.lst xs) (.type "list")
  | objL {a : Addr} {xs : List D} (h : μ a = some (.lst xs)) : TyD μ (.obj a) (.type "list")
  | objD {a : Addr} {kvs : List (Key × D)} (h : μ a = some (.dK kvs)) : TyD μ (.obj a) (.type "dict")
  | tup (xs : List D) : TyD μ (.tup xs) (.type "tuple")
inductive ClD : D → Value → Prop where
  | ty (n : String) : ClD (.ty n) (.type n)
  | own (C : Addr) : ClD (.obj C) (.ref C)
theorem TyD.x {K : PySem.W.Frag} {G F : Hp} {μ : Mu} {H : Hp} (w : Wd K G F μ H) {d : D} {v : V} {t : Value} (r : Rp K G d v) (h : TyD μ d t) : TyX K H v t := by
  cases h with
  | non => have r' : v = V.non := r; rw [r']; exact .base .non
  | bl b => have r' : v = V.bl b := r; rw [r']; exact .base (.bl b)
  | int b => have r' : v = V.int b := r; rw [r']; exact .base (.int b)
  | str b => have r' : v = V.str b := r; rw [r']; exact .base (.str b)
  | lst xs =>
    obtain ⟨a, vs, rfl, h2, _⟩ := r
    exact .base (.lst (w.g _ _ h2))
  | objL h =>
    have r' : v = V.ref _ := r
    obtain ⟨vs, h3, _⟩ := w.lstM h
    rw [r']; exact .base (.lst h3)
  | objD h =>
    have r' : v = V.ref _ := r
    obtain ⟨o, h1, ⟨vs, h2, _⟩, _⟩ := w.m _ _ h
    subst h2
    rw [r']; exact .base (.dK h1)
  | tup xs =>
    obtain ⟨a, vs, rfl, h2, _⟩ := r
    rcases w.g.t h2 with (z | ⟨o, z⟩) | z
    · exact .base (.tup z)
    · exact .fTuple z
    · obtain ⟨o, its, n, z1, z2, _⟩ := z
      exact .kTuple z1 z2
theorem ClD.v {K : PySem.W.Frag} {G : Hp} {d : D} {v : V} {u : Value} (r : Rp K G d v) (h : ClD d u) : ClsV v u := by
  cases h with
  | ty n => have r' : v = V.ty n := r; rw [r']; exact .ty n
  | own C => have r' : v = V.ref C := r; rw [r']; exact .own C
/-- isa: what is known of the classes -/
def dIsi (isa : Value → Value → Option Bool) : List D → Mu → DK → Prop := fun xs μ Q => ∃ (x c : D) (u : Value) (b : Bool), xs = [x, c] ∧ ClD c u ∧ ((∃ t, TyD μ x t ∧ isa t u = some b) ∨ ∃ C fs, x = .exc C fs ∧ isa (.ref C) u = some b) ∧ Q (.bl b) μ
def hIsi (K : PySem.W.Frag) : List V → Hp → VK → Prop := fun xs H Q => rIsi K xs H Q ∨ rIsX K xs H Q
theorem call_isD {X : Cx} : CallR X (.builtin "isinstance") (hIsi X.K) := CallR.or call_isi call_isX
/-- what isa tells holds -/
structure IsaOk (K : PySem.W.Frag) (isa : Value → Value → Option Bool) : Prop where
  kit : ∀ t u b, isa t u = some b → PySem.W.kitOne K t u = some b
  exc : ∀ C u b, isa (.ref C) u = some b → ExcC K C
theorem rl_isi {K : PySem.W.Frag} {isa : Value → Value → Option Bool} (ok : IsaOk K isa) : RRL K (hIsi K) (dIsi isa) := fun xs ds G F μ H Qd Q r w q kq => by
  obtain ⟨x, c, u, b, rfl, hc, hx, q⟩ := q
  obtain ⟨v, r1, rfl, rx, v2, r2, rfl, rc, r3⟩ := r
  have r3' : r2 = [] := r3
  subst r3'
  rcases hx with ⟨t, ty, e⟩ | ⟨C, fs, rfl, e⟩
  · exact .inl ⟨v, v2, t, u, b, rfl, hc.v rc, ty.x w rx, ok.kit t u b e, kq.here w (d := .bl _) rfl q⟩
  · obtain ⟨a, d, rfl, h1, h2⟩ := rx
    refine .inr ⟨a, C, v2, u, b, rfl, hc.v rc, ⟨d, w.g _ _ h1, ?_⟩, ok.exc C u b e, ok.kit _ _ _ e, kq.here w (d := .bl _) rfl q⟩
    rcases h2 with ⟨e2, _⟩ | ⟨dd, e2, e3⟩
    · exact .inl e2
    · exact .inr ⟨dd, _, e2, w.g _ _ e3⟩
/-! ### a kept error's number -/
def lookN (f : Str) : List (Str × Int) → Option Int
  | [] => none
  | (g, n) :: r => if g = f then some n else lookN f r
def dKept (oks : Addr → Bool) (f : Str) (to : TD) : TD := fun ds μ Q => to ds μ fun x μ1 => ∃ C fs n, x = .exc C fs ∧ oks C = true ∧ lookN f fs = some n ∧ Q (.int n) μ1
theorem lookN_num {f : Str} {n : Int} : ∀ {fs : List (Str × Int)}, lookN f fs = some n → (numF fs).lookup f = some (.int n) ∧ fs ≠ []
  | (g, m) :: r, h => by
    refine ⟨?_, by simp⟩
    unfold lookN at h
    unfold numF
    rw [List.map_cons]
    by_cases e : g = f
    · rw [if_pos e] at h
      subst e
      cases h
      simp [List.lookup]
    · rw [if_neg e] at h
      have e2 : (f == g) = false := beq_eq_false_iff_ne.mpr fun z => e z.symm
      have := (lookN_num h).1
      unfold numF at this
      simp only [List.lookup, e2]
      exact this
theorem re_kept {K : PySem.W.Frag} {te : TE} {td : TD} {oks : Addr → Bool} {f : Str} (ok : ∀ C, oks C = true → XfC K C ∧ PySem.W.findIn K (.ref C) f = some none) (h : RE K te td) : RE K (tKept K f te) (dKept oks f td) := fun σ ds G F μ H Qd Q hs hw q kq =>
  h σ ds G F μ H _ _ hs hw q fun v d G1 μ1 H1 e1 w1 r q1 => by
    obtain ⟨C, fs, n, rfl, ho, hl, q1⟩ := q1
    obtain ⟨a, d, rfl, h1, h2⟩ := r
    obtain ⟨l1, l2⟩ := lookN_num hl
    rcases h2 with ⟨_, e2⟩ | ⟨dd, rfl, e3⟩
    · exact absurd e2 l2
    · exact ⟨a, C, dd, _, _, rfl, w1.g _ _ h1, w1.g _ _ e3, (ok C ho).1, (ok C ho).2, l1, (kq.up e1).here w1 (d := .int _) rfl q1⟩
/-! ### enumerate(xs, start=k) -/
def diEnumK (k : Int) (t : TAd) : DI := fun ds μ R => t ds μ fun xs μ1 => match xs with
  | [.lst ys] => R (enumD k ys) (fun _ => True) μ1
  | _ => False
theorem itd_k {K : PySem.W.Frag} {G : Hp} {a : Addr} {k : Int} {items : List D} {keep : Mu → Prop} (h : ∀ F G' μ H, Ex G G' → Wd K G' F μ H → keep μ → ∃ vs, SqL K H a vs ∧ RpL K G' items vs) : ItD K G (ItK K k a) (enumD k items) keep := fun i F G' μ H e w kp => by
  obtain ⟨vs, h1, h2⟩ := h F G' μ H e w kp
  have hl : (enumD k items).length = items.length := by unfold enumD; simp
  rw [hl]
  refine ⟨fun hi => ?_, fun hi => ⟨vs, h1, by rw [h2.len]; exact hi⟩⟩
  obtain ⟨v, hv, rv⟩ := h2.get (i := i) (d := items[i]) (by simp [hi])
  refine ⟨⟨vs, v, h1, hv⟩, fun u H' y => ?_⟩
  obtain ⟨T, x, rfl, hT, rfl, y⟩ := y
  have := y vs h1
  rw [hv] at this
  cases this
  have ex : Ex G' (upd G' T (.tup [.int (k + (i : Nat)), v])) := Ex.new (w.noG hT)
  exact ⟨upd G' T (.tup [.int (k + (i : Nat)), v]), .tup [.int (k + (i : Nat)), items[i]], ex, w.newG hT, ⟨T, _, rfl, SqT.of upd_same, ⟨_, _, rfl, rfl, _, _, rfl, Rp.mono ex _ _ rv, rfl⟩⟩, by unfold enumD; simp [hi], fun _ _ _ _ _ => trivial⟩
theorem ri_enumK {K : PySem.W.Frag} {t : TA} {dt : TAd} {k : Int} (h1 : RA K t dt) : RI K (iEnumK K k t) (diEnumK k dt) := fun σ ds G F μ H R Rd hs hw h kk =>
  h1 σ ds G F μ H _ _ hs hw h fun vs xs G1 μ1 H1 e1 w1 r q => by
    split at q
    · rename_i ys
      obtain ⟨v, r', rfl, rv, r2⟩ := r
      have r2' : r' = [] := r2
      subst r2'
      obtain ⟨a, us, rfl, h2, h3⟩ := rv
      exact ⟨a, us, rfl, SqL.of (w1.g _ _ h2), kk _ _ _ G1 μ1 H1 e1 w1 (itd_k fun F G' μ H e w _ => ⟨us, SqL.of (w.g _ _ (e _ _ h2)), RpL.mono e _ _ h3⟩) q⟩
    · exact q.elim
section
variable {X : Cx} {a b c o e : Expr} {da db dc de dto di dv : TD} {pos apos : Pos} {es : List Expr} {t : TA} {dt : TAd} {k : Nat} {C : Addr} {ps : List Str} {PD : DP} {x m : Str} {p p2 q : Pos}
theorem ed_lenSet (hm : X.mg "len" = none) (hm2 : X.mg "set" = none) (h : PED X a da) (hc : X.calm = true := by rfl) (hg : Gl X "len" := by rfl) (hg2 : Gl X "set" := by rfl)
    (na : starEach [a] X.env = (false, eval a X.env) :: starEach [] X.env := by rfl) : PED X (.Call (.Name "len" p) [.Call (.Name "set" p2) [a] [] q] [] pos) (dLenSet da) := .mk' (pe_lenSetN hc hg hm hg2 hm2 h.pe na) (re_lenSet h.re)
theorem ed_kept {oks : Addr → Bool} {n : Str} (ok : ∀ C, oks C = true → XfC X.K C ∧ PySem.W.findIn X.K (.ref C) n = some none) (he : PED X e de) (hb : attributeBase e n X.env (eval e X.env) = eval e X.env := by rfl) : PED X (.Attribute e n pos) (dKept oks n de) := .mk' (pe_kept he.pe hb) (re_kept ok he.re)
theorem ed_blt {n : String} {x : Str} (hm : X.mg x = none) (hv : bootBuiltins x = some (.type n)) (hg : Gl X x := by rfl) (hn : x ≠ "__name__" := by decide) (hd : (x == ("__debug__" : Str)) = false := by decide) : PED X (.Name x pos) (dC (.ty n)) := .mk' (pe_bltn hg hm hv (v := .ty n) rfl hn hd) (re_c fun _ => rfl)
theorem id_enumK {elts : List Expr} {kk j : Nat} {tpos p1 p2 : Pos} {k : Int} (h0 : -(2 ^ 63) ≤ k) (h1 : k < 2 ^ 63) (hm : X.mg "enumerate" = none) (ha : PAD X [e] dt) (hg : Gl X "enumerate" := by rfl) (hs : starEach [e] X.env = [(false, eval e X.env)] := by rfl) : PID X (.Tuple elts kk tpos) (.Call (.Name "enumerate" p) [e] [⟨some "start", .Constant (.int k) j p1, p2⟩] pos) (diEnumK k dt) := .mk' (pi_enumK h0 h1 hg hm ha.pe hs) (ri_enumK ha.re)
end
end DL
set_option Elab.async false
set_option linter.all false
set_option maxRecDepth 100000
set_option maxHeartbeats 4000001
namespace DL
open PySem L2
/-! ### loops and comprehensions in short -/
theorem small {n : Nat} (h : n ≤ 1000000) : n < sizeLine := Nat.lt_of_le_of_lt h (by decide)
theorem smallE {n : Nat} (h : n ≤ 1000000) : n ≤ sizeLine := Nat.le_of_lt (small h)
/-- each item's value hangs on it alone, nothing changes -/
theorem LcB.pure {m : Bool} {items : List D} {keep : Mu → Prop} {i : Nat} {te : TD} {vs : List Nat} {ds : DSl} {μ : Mu} {Q : DK} (f : D → D) (hk : keep μ) (hl : items.length ≤ 1000000)
    (h : ∀ (j : Nat) (d : D) (Qd : DK), items[j]? = some d → Qd (f d) μ → te ((wipeD ds vs).set i (some d)) μ Qd) (hQ : newLst m (items.map f) μ Q) : LcB m items keep (dgName i) dYes te vs ds μ Q := by
  refine ⟨fun j acc ν => acc = (items.take j).map f ∧ ν = μ, ⟨rfl, rfl⟩, fun j acc ν _ h => h.2 ▸ hk, fun j d acc ν hd h1 => ?_, fun acc ν h1 => ?_⟩
  · obtain ⟨rfl, rfl⟩ := h1
    have hj : j < items.length := (List.getElem?_eq_some_iff.mp hd).1
    refine ⟨small (by rw [List.length_map, List.length_take]; omega), ?_⟩
    show te ((wipeD ds vs).set i (some d)) ν _
    refine h j d _ hd ⟨?_, rfl⟩
    rw [List.take_add_one, hd, List.map_append]
    rfl
  · obtain ⟨rfl, rfl⟩ := h1
    rw [List.take_length]; exact hQ
/-- .. some are left out -/
theorem LcB.filt {m : Bool} {items : List D} {keep : Mu → Prop} {i : Nat} {tt : TTd} {te : TD} {vs : List Nat} {ds : DSl} {μ : Mu} {Q : DK} (p : D → Bool) (f : D → D) (hk : keep μ) (hl : items.length ≤ 1000000)
    (ht : ∀ (j : Nat) (d : D) (Qd : Bool → Mu → Prop), items[j]? = some d → Qd (p d) μ → tt ((wipeD ds vs).set i (some d)) μ Qd) (h : ∀ (j : Nat) (d : D) (Qd : DK), items[j]? = some d → p d = true → Qd (f d) μ → te ((wipeD ds vs).set i (some d)) μ Qd) (hQ : newLst m ((items.filter p).map f) μ Q) : LcB m items keep (dgName i) tt te vs ds μ Q := by
  refine ⟨fun j acc ν => acc = ((items.take j).filter p).map f ∧ ν = μ, ⟨rfl, rfl⟩, fun j acc ν _ h => h.2 ▸ hk, fun j d acc ν hd h1 => ?_, fun acc ν h1 => ?_⟩
  · obtain ⟨rfl, rfl⟩ := h1
    have hj : j < items.length := (List.getElem?_eq_some_iff.mp hd).1
    have hle : ((items.take j).filter p).length ≤ j := Nat.le_trans (List.length_filter_le _ _) (by rw [List.length_take]; omega)
    have step : (items.take (j + 1)).filter p = (items.take j).filter p ++ (if p d = true then [d] else []) := by
      rw [List.take_add_one, hd, List.filter_append]
      simp [List.filter_cons]
    refine ⟨small (by rw [List.length_map]; omega), ?_⟩
    show tt ((wipeD ds vs).set i (some d)) ν _
    refine ht j d _ hd ?_
    cases hp : p d with
    | true =>
      show te ((wipeD ds vs).set i (some d)) ν _
      refine h j d _ hd hp ⟨?_, rfl⟩
      rw [step, hp, if_pos rfl, List.map_append]
      rfl
    | false =>
      show _ ∧ _
      refine ⟨?_, rfl⟩
      rw [step, hp, if_neg (by simp), List.append_nil]
  · obtain ⟨rfl, rfl⟩ := h1
    rw [List.take_length]; exact hQ
/-- by an invariant of what is made so far -/
theorem LcB.inv {m : Bool} {items : List D} {keep : Mu → Prop} {i : Nat} {te : TD} {vs : List Nat} {ds : DSl} {μ : Mu} {Q : DK} (I : Nat → List D → Mu → Prop) (h0 : I 0 [] μ) (hk : ∀ i acc μ, i ≤ items.length → I i acc μ → keep μ) (hl : items.length ≤ 1000000)
    (hn : ∀ i acc μ, I i acc μ → acc.length ≤ i) (h : ∀ (j : Nat) (d : D) (acc : List D) (ν : Mu), items[j]? = some d → I j acc ν → te ((wipeD ds vs).set i (some d)) ν fun z ν' => I (j + 1) (acc ++ [z]) ν') (hQ : ∀ acc ν, I items.length acc ν → newLst m acc ν Q) : LcB m items keep (dgName i) dYes te vs ds μ Q := by
  refine ⟨I, h0, hk, fun j d acc ν hd h1 => ⟨?_, ?_⟩, hQ⟩
  · have hj : j < items.length := (List.getElem?_eq_some_iff.mp hd).1
    have := hn j acc ν h1
    exact small (by omega)
  · show te ((wipeD ds vs).set i (some d)) ν _
    exact h j d acc ν hd h1
theorem rngD_len (lo : Int) (n : Nat) : (rngD lo n).length = n := by unfold rngD; simp
theorem rngD_get {lo : Int} {n i : Nat} {d : D} (h : (rngD lo n)[i]? = some d) : i < n ∧ d = .int (lo + i) := by
  have hi : i < (rngD lo n).length := (List.getElem?_eq_some_iff.mp h).1
  rw [rngD_len] at hi
  unfold rngD at h
  rw [List.getElem?_map, List.getElem?_range hi] at h
  exact ⟨hi, (Option.some.inj h).symm⟩
theorem map_get {α : Type} {f : α → D} {xs : List α} {i : Nat} {d : D} (h : (xs.map f)[i]? = some d) : ∃ x, xs[i]? = some x ∧ d = f x := by
  rw [List.getElem?_map] at h
  cases e : xs[i]? with
  | none => rw [e] at h; cases h
  | some x => rw [e] at h; exact ⟨x, rfl, (Option.some.inj h).symm⟩
theorem enumD_len (k : Int) (xs : List D) : (enumD k xs).length = xs.length := by unfold enumD; simp
theorem enumD_get {k : Int} {xs : List D} {i : Nat} {d : D} (h : (enumD k xs)[i]? = some d) : ∃ x, xs[i]? = some x ∧ d = .tup [.int (k + i), x] := by
  unfold enumD at h
  rw [List.getElem?_mapIdx] at h
  cases e : xs[i]? with
  | none => rw [e] at h; cases h
  | some x => rw [e] at h; exact ⟨x, rfl, (Option.some.inj h).symm⟩
/-! ### {} -/
def dDNew : TD := fun ds μ Q => ∀ p, μ p = none → Q (.obj p) (put μ p (.dK []))
theorem re_dnew {K : PySem.W.Frag} : RE K tDNewK dDNew := fun σ ds G F μ H Qd Q hs hw h kq p hp =>
  kq (.ref p) (.obj p) G (put μ p (.dK [])) _ (Ex.refl G) (hw.newM hp ⟨[], rfl, rfl⟩) rfl (h p (hw.noM hp))
theorem ed_dnew {X : Cx} {pos : Pos} : PED X (.Dict [] [] pos) dDNew := .mk' pe_dnewK re_dnew
end DL
set_option Elab.async false
set_option linter.all false
set_option maxRecDepth 100000
set_option maxHeartbeats 1000001
/-! What may raise, over data. -/
namespace DL
open PySem L2
/-- what is wanted where an error of the class at C leaves, its numbers by name; with the slots, and without -/
abbrev DX := Addr → List (Str × Int) → DSl → Mu → Prop
abbrev DXK := Addr → List (Str × Int) → Mu → Prop
abbrev DSX := DX → DS
abbrev TDX := DX → TD
def KX (K : PySem.W.Frag) (G F : Hp) (xk : DX) (W : WX) : Prop := ∀ C fs d σ ds G' μ' H', Ex G G' → RpS K G' ds σ → Wd K G' F μ' H' → DicR G' d fs → xk C fs ds μ' → W (.ref C) d σ H'
def KE (K : PySem.W.Frag) (G F : Hp) (Ed : DXK) (E : XK) : Prop := ∀ C fs d G' μ' H', Ex G G' → Wd K G' F μ' H' → DicR G' d fs → Ed C fs μ' → E (.ref C) d H'
def RSX (K : PySem.W.Frag) (W : WX) (ts : TS) (td : DSX) : Prop := ∀ σ ds G F μ H E D xk, RpS K G ds σ → Wd K G F μ H → td xk D ds μ → REn K G F E D → KX K G F xk W → ts E σ H
def REX (K : PySem.W.Frag) (W : WX) (te : TE) (td : TDX) : Prop := ∀ σ ds G F μ H Qd Q xk, RpS K G ds σ → Wd K G F μ H → td xk ds μ Qd → KQ K G F Qd Q → KX K G F xk W → te σ H Q
theorem KX.up {K : PySem.W.Frag} {G G1 F : Hp} {xk : DX} {W : WX} (e : Ex G G1) (k : KX K G F xk W) : KX K G1 F xk W := fun C fs d σ ds G' μ' H' e' => k C fs d σ ds G' μ' H' (e.trans e')
def tsOfX (K : PySem.W.Frag) (W : WX) (td : DSX) : TS := fun E σ H => ∃ ds G F μ D xk, RpS K G ds σ ∧ Wd K G F μ H ∧ td xk D ds μ ∧ REn K G F E D ∧ KX K G F xk W
def teOfX (K : PySem.W.Frag) (W : WX) (td : TDX) : TE := fun σ H Q => ∃ ds G F μ Qd xk, RpS K G ds σ ∧ Wd K G F μ H ∧ td xk ds μ Qd ∧ KQ K G F Qd Q ∧ KX K G F xk W
structure PSX (X : Cx) (W : WX) (st : Stmt) (td : DSX) : Prop where
  ps : PS X st (tsOfX X.K W td)
structure PSSX (X : Cx) (W : WX) (st : List Stmt) (td : DSX) : Prop where
  ps : PSs X st (tsOfX X.K W td)
structure PEX (X : Cx) (W : WX) (e : Expr) (td : TDX) : Prop where
  pe : PE X e (teOfX X.K W td)
section
variable {X : Cx} {W : WX}
theorem PSX.mk' {st ts td} (h : PS X st ts) (r : RSX X.K W ts td) : PSX X W st td := ⟨⟨fun pins s σ H E I ⟨ds, G, F, μ, D, xk, a, b, c, d, e⟩ => h.run pins s σ H E I (r σ ds G F μ H E D xk a b c d e)⟩⟩
theorem PSSX.mk' {st ts td} (h : PSs X st ts) (r : RSX X.K W ts td) : PSSX X W st td := ⟨⟨fun pins s σ H E I ⟨ds, G, F, μ, D, xk, a, b, c, d, e⟩ => h.run pins s σ H E I (r σ ds G F μ H E D xk a b c d e)⟩⟩
theorem PEX.mk' {e te td} (h : PE X e te) (r : REX X.K W te td) : PEX X W e td := ⟨⟨fun pins s σ H Q I ⟨ds, G, F, μ, Qd, xk, a, b, c, d, e⟩ => h.run pins s σ H Q I (r σ ds G F μ H Qd Q xk a b c d e)⟩⟩
theorem PSX.rs {st td} (_ : PSX X W st td) : RSX X.K W (tsOfX X.K W td) td := fun σ ds G F μ H E D xk a b c d e => ⟨ds, G, F, μ, D, xk, a, b, c, d, e⟩
theorem PSSX.rs {st td} (_ : PSSX X W st td) : RSX X.K W (tsOfX X.K W td) td := fun σ ds G F μ H E D xk a b c d e => ⟨ds, G, F, μ, D, xk, a, b, c, d, e⟩
theorem PEX.re {e td} (_ : PEX X W e td) : REX X.K W (teOfX X.K W td) td := fun σ ds G F μ H Qd Q xk a b c d e => ⟨ds, G, F, μ, Qd, xk, a, b, c, d, e⟩
end
def xLift (td : DS) : DSX := fun _ => td
def xSeq (t u : DSX) : DSX := fun xk => dSeq (t xk) (u xk)
def xIf (c : TTd) (t u : DSX) : DSX := fun xk => dIfS c (t xk) (u xk)
def xFor (wd : DI) (g : DG) (tb : DSX) : DSX := fun xk => dFor wd g (tb xk)
def xDrop (te : TDX) : DSX := fun xk => dDrop (te xk)
def xRet (te : TDX) : DSX := fun xk => dRet (te xk)
def xSet (i : Nat) (te : TDX) : DSX := fun xk => dAsg (te xk) (dgName i)
def xRaise (C : Addr) : DSX := fun xk _ ds μ => xk C [] ds μ
def xBad (C : Addr) (ta : TAd) : DSX := fun xk _ ds μ => ta ds μ fun xs μ1 => ∃ n : Int, xs = [.int n] ∧ n.natAbs.log2 < 1920 ∧ (Str.ofString (toString n)).length ≤ 1000 ∧ xk C [("line", n)] ds μ1
/-! a def that may raise -/
abbrev DPX := List D → Mu → DK → DXK → Prop
def spDX (K : PySem.W.Frag) (P : DPX) : Sp := fun vs H Q E => ∃ (G F : Hp) (μ : Mu) (ds : List D) (Qd : DK) (Ed : DXK), RpL K G ds vs ∧ Wd K G F μ H ∧ P ds μ Qd Ed ∧ KQ K G F Qd Q ∧ KE K G F Ed E
def xCall (P : DPX) (t : TAd) : TDX := fun xk ds μ Q => t ds μ fun xs μ1 => P xs μ1 Q fun C fs μ2 => xk C fs ds μ2
def GhE (Ed : DXK) : DXK := fun C fs μ1 => ∃ μ', SubM μ' μ1 ∧ Ed C fs μ'
/-- try: body / except x as n: y = n -/
def xTryKeep (cat : Addr → Option Bool) (i j : Nat) (tb : DSX) : DSX := fun xk D => tb (fun C fs ds μ => ∃ b, cat C = some b ∧ (b = true → D.nx (((ds.set i (some (.exc C fs))).set j (some (.exc C fs))).set i none) μ) ∧ (b = false → xk C fs ds μ)) D
section
variable {K : PySem.W.Frag} {W : WX}
theorem rsx_lift {ts : TS} {td : DS} (h : RS K ts td) : RSX K W ts (xLift td) := fun σ ds G F μ H E D _ hs hw q k _ => h σ ds G F μ H E D hs hw q k
theorem rsx_seq {t u : TS} {dt du : DSX} (h1 : RSX K W t dt) (h2 : RSX K W u du) : RSX K W (tSeq t u) (xSeq dt du) := fun σ ds G F μ H E D xk hs hw h k kx =>
  h1 σ ds G F μ H { E with nx := u E } { D with nx := du xk D } xk hs hw h ⟨fun σ' ds' G' μ' H' e s w q => h2 σ' ds' G' F μ' H' E D xk s w q (k.up e) (kx.up e), k.rt, k.bk, k.ct⟩ kx
theorem rsx_if {c : TT} {t u : TS} {dc : TTd} {dt du : DSX} (h0 : RT K c dc) (h1 : RSX K W t dt) (h2 : RSX K W u du) : RSX K W (tIfS c t u) (xIf dc dt du) := fun σ ds G F μ H E D xk hs hw h k kx =>
  h0 σ ds G F μ H _ _ hs hw h fun b G1 μ1 H1 e1 w1 q => by
    cases b with
    | true => exact h1 σ ds G1 F μ1 H1 E D xk (hs.mono e1) w1 q (k.up e1) (kx.up e1)
    | false => exact h2 σ ds G1 F μ1 H1 E D xk (hs.mono e1) w1 q (k.up e1) (kx.up e1)
theorem rsx_drop {te : TE} {de : TDX} (h1 : REX K W te de) : RSX K W (tDrop te) (xDrop de) := fun σ ds G F μ H E D xk hs hw h k kx =>
  h1 σ ds G F μ H _ _ xk hs hw h (fun v d G1 μ1 H1 e1 w1 r q => k.nx σ ds G1 μ1 H1 e1 (hs.mono e1) w1 q) kx
theorem rsx_ret {te : TE} {de : TDX} (h1 : REX K W te de) : RSX K W (tRet te) (xRet de) := fun σ ds G F μ H E D xk hs hw h k kx => h1 σ ds G F μ H _ _ xk hs hw h k.rt kx
theorem rsx_set {te : TE} {de : TDX} {i : Nat} (h1 : REX K W te de) : RSX K W (tAsg te (gName i)) (xSet i de) := fun σ ds G F μ H E D xk hs hw h k kx =>
  h1 σ ds G F μ H _ _ xk hs hw h (fun v d G1 μ1 H1 e1 w1 r q => rg_name v d σ ds G1 F μ1 H1 _ _ r (hs.mono e1) w1 q (k.nx.up e1)) kx
theorem rsx_for {wi : TI} {g : TG} {tb : TS} {wd : DI} {dg : DG} {db : DSX} (h1 : RI K wi wd) (h2 : RG (K := K) g dg) (h3 : RSX K W tb db) : RSX K W (tFor wi g tb) (xFor wd dg db) := fun σ ds G F μ H E D xk hs hw h k kx =>
  h1 σ ds G F μ H _ _ hs hw h fun J items keep G1 μ1 H1 e1 w1 it q => by
    obtain ⟨I, i0, ik, is, ie⟩ := q
    refine ⟨fun i m σ' H' => m = items.length - i ∧ i ≤ items.length ∧ ∃ ds' μ' G', Ex G1 G' ∧ RpS K G' ds' σ' ∧ Wd K G' F μ' H' ∧ I i ds' μ', ⟨_, rfl, Nat.zero_le _, ds, μ1, G1, Ex.refl _, hs.mono e1, w1, i0⟩, ?_⟩
    rintro i m σ' H' ⟨rfl, hi, ds', μ', G', e', s', w', p⟩
    have kp := ik i ds' μ' hi p
    obtain ⟨t1, t2⟩ := it i F G' μ' H' e' w' kp
    by_cases hlt : i < items.length
    · obtain ⟨g1, g2⟩ := t1 hlt
      refine .inr ⟨g1, fun σ2 H2 => ∃ ds2 μ2 G2, Ex G1 G2 ∧ RpS K G2 ds2 σ2 ∧ Wd K G2 F μ2 H2 ∧ I (i + 1) ds2 μ2, fun σ2 H2 ⟨ds2, μ2, G2, x1, x2, x3, x4⟩ => ⟨items.length - (i + 1), by omega, rfl, hlt, ds2, μ2, G2, x1, x2, x3, x4⟩, fun v H2 y => ?_⟩
      obtain ⟨G2, d, e2, w2, rd, hd, _⟩ := g2 v H2 y
      refine h2 v d σ' ds' G2 F μ' H2 _ _ rd (s'.mono e2) w2 (is i d ds' μ' hd p) fun σ3 ds3 G3 μ3 H3 e3 s3 w3 q3 => ?_
      have up := e1.trans (e'.trans (e2.trans e3))
      refine h3 σ3 ds3 G3 F μ3 H3 _ _ xk s3 w3 q3 ⟨fun σ4 ds4 G4 μ4 H4 e4 s4 w4 q4 => ⟨ds4, μ4, G4, e'.trans (e2.trans (e3.trans e4)), s4, w4, q4⟩, k.rt.up up, k.nx.up up, fun σ4 ds4 G4 μ4 H4 e4 s4 w4 q4 => ⟨ds4, μ4, G4, e'.trans (e2.trans (e3.trans e4)), s4, w4, q4⟩⟩ (kx.up up)
    · have : i = items.length := by omega
      exact .inl ⟨t2 (by omega), k.nx σ' ds' G' μ' H' (e1.trans e') s' w' (ie ds' μ' (this ▸ p))⟩
theorem rsx_bad {C : Addr} {ta : TA} {dt : TAd} (h : RA K ta dt) : RSX K W (fun _ σ H => tBad C ta σ H fun cls d H' => W cls d σ H') (xBad C dt) := fun σ ds G F μ H E D xk hs hw q k kx =>
  h σ ds G F μ H _ _ hs hw q fun vs xs G1 μ1 H1 e1 w1 r q1 => by
    obtain ⟨n, rfl, z1, z2, q1⟩ := q1
    obtain ⟨v, r', rfl, rv, r2⟩ := r
    have rv' : v = .int n := rv
    have r2' : r' = [] := r2
    rw [rv', r2']
    refine ⟨n, rfl, z1, z2, fun d hd => ?_⟩
    have eG : Ex G1 (upd G1 d (.xd (numF [(("line" : Str), n)]))) := Ex.new (w1.noG hd)
    exact kx C _ (some d) σ ds _ μ1 _ (e1.trans eG) (hs.mono (e1.trans eG)) (w1.newG hd) (.inr ⟨d, rfl, upd_same⟩) q1
theorem rsx_raise0 {C : Addr} : RSX K W (fun _ σ H => W (.ref C) none σ H) (xRaise C) := fun σ ds G F μ H E D xk hs hw q k kx => kx C [] none σ ds G μ H (Ex.refl G) hs hw (.inl ⟨rfl, rfl⟩) q
theorem rex_call {P : DPX} {t : TA} {dt : TAd} (h1 : RA K t dt) : REX K W (tCallS (spDX K P) (WE W) t) (xCall P dt) := fun σ ds G F μ H Qd Q xk hs hw h kq kx =>
  h1 σ ds G F μ H _ _ hs hw h fun vs xs G1 μ1 H1 e1 w1 r q => ⟨G1, F, μ1, xs, Qd, _, r, w1, q, kq.up e1, fun C fs d G' μ' H' e' w' dr x => kx C fs d σ ds G' μ' H' (e1.trans e') (hs.mono (e1.trans e')) w' dr x⟩
theorem rex_lift {te : TE} {td : TD} (h : RE K te td) : REX K W te (fun _ => td) := fun σ ds G F μ H Qd Q xk hs hw q kq _ => h σ ds G F μ H Qd Q hs hw q kq
theorem rsx_try {c : Value} {cat : Addr → Option Bool} {i j : Nat} {tb : WX → TS} {db : DSX} (hc : ∀ C b, cat C = some b → PySem.W.exmOne K (.ref C) c = some b) (h : ∀ W', RSX K W' (tb W') db) : RSX K W (fun D σ H => tb (wKeep K c i j W D) D σ H) (xTryKeep cat i j db) := fun σ ds G F μ H E D xk hs hw q k kx =>
  h _ σ ds G F μ H E D _ hs hw q k fun C fs d σ' ds' G' μ' H' e s w dr x => by
    obtain ⟨b, hb, yes, no⟩ := x
    refine ⟨b, hc C b hb, fun e1 a ha => ?_, fun e1 => kx C fs d σ' ds' G' μ' H' e s w dr (no e1)⟩
    have eG : Ex G' (upd G' a (XT (.ref C) d a)) := Ex.new (w.noG ha)
    have r : Rp K (upd G' a (XT (.ref C) d a)) (.exc C fs) (.ref a) := ⟨a, d, rfl, upd_same, dr.mono eG⟩
    exact k.nx _ _ _ μ' _ (e.trans eG) ((((s.mono eG).set r i).set r j).wipe1 i) (w.newG ha) (yes e1)
end
/-! ### the rules of the text -/
section
variable {X : Cx} {W : WX} {a b c o e : Expr} {da db dc de : TD} {dA : TTd} {pos : Pos} {es : List Expr} {t : TA} {dt : TAd} {k : Nat} {C fI : Addr} {ps : List Str} {x m : Str} {p : Pos} {tg iter : Expr} {dg : DG} {wd : DI}
theorem sx_lift {st : Stmt} {td : DS} (h : PSD X st td) : PSX X W st (xLift td) := .mk' h.ps (rsx_lift h.rs)
theorem ssx_nil : PSSX X W [] (xLift dNext) := .mk' pss_nil (rsx_lift rs_next)
theorem ssx_lift {st : List Stmt} {td : DS} (h : PSSD X st td) : PSSX X W st (xLift td) := .mk' h.ps (rsx_lift h.rs)
theorem ssx_cons {st : Stmt} {sts : List Stmt} {d1 d2 : DSX} (h1 : PSX X W st d1) (h2 : PSSX X W sts d2) : PSSX X W (st :: sts) (xSeq d1 d2) := .mk' (pss_cons h1.ps h2.ps) (rsx_seq h1.rs h2.rs)
theorem ssx_one {st : Stmt} {d1 : DSX} (h1 : PSX X W st d1) : PSSX X W [st] d1 := .mk' (pss_one h1.ps) h1.rs
theorem sx_if {s1 s2 : List Stmt} {d1 d2 : DSX} (hc : PTD X c dA) (h1 : PSSX X W s1 d1) (h2 : PSSX X W s2 d2) : PSX X W (.If c s1 s2 pos) (xIf dA d1 d2) := .mk' (ps_if hc.pe h1.ps h2.ps) (rsx_if hc.re h1.rs h2.rs)
theorem sx_for {s1 : List Stmt} {d1 : DSX} (hp : PassesOwn (model X.prog X.w) X.A X.env X.xe) (hc : X.calm = true) (hi : PID X tg iter wd) (hg : PGD X tg dg) (hb : PSSX X W s1 d1) (hs : ∀ x, foldedSetIterable iter X.env x = pure x := by intro _; rfl) : PSX X W (.For tg iter s1 [] pos) (xFor wd dg d1) := .mk' (ps_for hp hc hi.pi hg.pg hb.ps hs) (rsx_for hi.ri hg.rg hb.rs)
theorem sx_expr {de : TDX} (he : PEX X W e de) (hs : swapsWith e none pos.line X.env = pure false := by rfl) : PSX X W (.Expr e pos) (xDrop de) := .mk' (ps_expr he.pe hs) (rsx_drop he.re)
theorem sx_ret {de : TDX} (he : PEX X W e de) : PSX X W (.Return (some e) pos) (xRet de) := .mk' (ps_ret he.pe) (rsx_ret he.re)
theorem sx_set {de : TDX} (i : Nat) {pos' : Pos} (hN : X.N.Nodup) (he : PEX X W e de) (hi : X.N[i]? = some x := by rfl) (hx : Loc X.env.scope x := by first | exact Or.inl rfl | exact Or.inr rfl) (hs : swapsWith e (some (.Name x pos')) pos.line X.env = pure false := by rfl) (hf : X.fn x = true ∨ X.env.scope.names.lookup x = some .local := by first | exact .inl rfl | exact .inr rfl | assumption) :
    PSX X W (.Assign [.Name x pos'] e pos) (xSet i de) := .mk' (ps_set hN hi hx he.pe hs hf) (rsx_set he.re)
theorem sx_bad {p2 : Pos} (hc : X.calm = true) (tk : Takes X W) (T : BTX.BadTxt X.prog X.K X.mg x C fI) (hr : Room k X.A) (hk : 1 ≤ k) (ha : PAD X [a] dt) (hg : Gl X x := by rfl) (hd : (x == ("__debug__" : Str)) = false := by decide)
    (he : starEach (a :: []) X.env = (false, eval a X.env) :: starEach [] X.env := by rfl) (hpl : (backTo pos (starEach [] X.env)).any (·.1) = false := by rfl) :
    PSX X W (.Raise (some (.Call (.Name x p) [a] [] pos)) none p2) (xBad C dt) := .mk' (ps_raise hc tk (pmk_bad T hr hk ha.pe hg hd he hpl)) (rsx_bad ha.re)
def DefAtX (P : Program) (w : World) (K : PySem.W.Frag) (mg : Str → Option Value) (base : Heap) (x : Str) (k : Nat) (ps : List Str) (PD : DPX) : Prop := ∃ (f : Addr) (fd : FuncData), mg x = some (.ref f) ∧ PySem.W.keepIn K (.ref f) = true ∧ Binds K fd ps [] ∧ FnOk P w K mg base (L2.CX P w) k f fd ps (spDX K PD)
theorem ex_call {PD : DPX} (tk : Takes X W) (G : DefAtX X.prog X.w X.K X.mg X.base x k ps PD) (hr : Room k X.A) (ha : PAD X (e :: es) dt)
    (hg : Gl X x := by rfl) (hdb : (x == ("__debug__" : Str)) = false := by decide) (he : starEach (e :: es) X.env = (false, eval e X.env) :: starEach es X.env := by rfl) (hpl : (backTo pos (starEach es X.env)).any (·.1) = false := by rfl) :
    PEX X W (.Call (.Name x p) (e :: es) [] pos) (xCall PD dt) := by
  obtain ⟨f, fd, h1, h2, h3, h4⟩ := G
  exact .mk' (pe_callS h4 hr hg h1 h2 h3 (passAt tk) ha.pe hdb he hpl) (rex_call ha.re)
theorem sx_try {n y : Str} {i j : Nat} {body : List Stmt} {np yp mp ap pos' : Pos} {cv : Value} {cat : Addr → Option Bool} {tb : DSX} (st : X.stack = X.env :: X.outer) (fr : X.env.frame = some X.env.locals) (nd : X.N.Nodup) (iN : X.N[i]? = some n) (jN : X.N[j]? = some y) (nl : X.env.kindOf n = some .local) (yl : X.env.scope.names.lookup y = some .local) (nsl : X.env.scope.names.lookup n = some .local) (ij : i ≠ j)
    (names : Names X x cv) (tk : Takes X W) (nex : X.ex = []) (hc : ∀ C b, cat C = some b → PySem.W.exmOne X.K (.ref C) cv = some b)
    (hb : ∀ (W' : WX) (pn : List (Addr × Obj)) (xe : Value → Shared → Prop), Takes (X.tr pn xe) W' → PassesOwn (model X.prog X.w) X.A X.env xe → PSSX (X.tr pn xe) W' body tb)
    (ndb : (n == ("__debug__" : Str)) = false := by decide) (ncd : (n == ("__classdict__" : Str)) = false := by decide) (sw : ∀ (A : Cx), A.env = X.env → swapsWith (.Name n mp) (some (.Name y yp)) ap.line A.env = pure false := by intro A h; rw [h]; rfl) :
    PSX X W (.Try body [.ExceptHandler (some (.Name x np)) (some n) [.Assign [.Name y yp] (.Name n mp) ap] pos'] [] [] pos) (xTryKeep cat i j tb) :=
  .mk' (ps_try_keep (tb := fun W' => tsOfX X.K W' tb) st fr nd iN jN nl yl nsl ij names tk nex ndb ncd sw fun W' pn xe h1 h2 => (hb W' pn xe h1 h2).ps) (rsx_try (c := cv) (cat := cat) (i := i) (j := j) (W := W) (tb := fun W' => tsOfX X.K W' tb) (db := tb) hc fun W' σ ds G F μ H E D xk a b c d e => ⟨ds, G, F, μ, D, xk, a, b, c, d, e⟩)
end
/-- what may not raise, by what may -/
theorem PSD.ofX {X : Cx} {st : Stmt} {td : DSX} (h : PSX X (fun _ _ _ _ => False) st td) : PSD X st (td fun _ _ _ _ => False) := ⟨⟨fun pins s σ H E I ⟨ds, G, F, μ, D, a, b, c, d⟩ => h.ps.run pins s σ H E I ⟨ds, G, F, μ, D, _, a, b, c, d, fun C fs d σ' ds' G' μ' H' _ _ _ _ x => x⟩⟩⟩
theorem takes_never {X : Cx} : Takes X (fun _ _ _ _ => False) := fun u s' ⟨_, _, _, _, _, _, _, _, _, _, _, _, _, _, _, _, z⟩ => z.elim
section
variable {P : Program} {w : World} {K : PySem.W.Frag} {mg : Str → Option Value} {base : Heap}
theorem defAtX {x qual : Str} {st : Stmt} {N ps : List Str} {k : Nat} {PD : DPX} {td : DSX} (Hh : Here K mg x qual st ps) (S : FnScope N ps (defScope st)) (len : ∀ ds μ Q E, PD ds μ Q E → ds.length = ps.length)
    (body : ∀ (f : Addr) (cdv : Value) (A : Around) (outer : List Env) (s : Shared) (H : Hp) (E : XK), Room k (A.deeper (PyProof.Rows.envOfC qual (defScope st) s.heap.objs.size f cdv)) → PSSX (cxOf (L2.CX P w) P w K mg base N qual (defScope st) f cdv A outer s H E) (fun cls d _ H' => E cls d H') (defBody st) td)
    (rd : ∀ ds μ Q E, PD ds μ Q E → td (fun C fs _ μ' => GhE E C fs μ') { nx := fun _ μ' => GhQ Q .non μ', rt := GhQ Q } (startD N ds) μ) : DefAtX P w K mg base x (k + 1) ps PD := by
  obtain ⟨f, fd, h1, h2, h3⟩ := Hh
  refine ⟨f, fd, h1, h2.kp, h3, h2.okX S (fun vs H Q E h => ?_) (fun cdv A outer s H vs Q E hr h => ⟨_, (body f cdv A outer s H E hr).ps, ?_⟩)⟩
  · obtain ⟨G, F, μ, ds, Qd, Ed, r, hw, hp, kq, ke⟩ := h
    rw [r.len]; exact len ds μ Qd Ed hp
  · obtain ⟨G, F, μ, ds, Qd, Ed, r, hw, hp, kq, ke⟩ := h
    have hs : RpS K G (startD N ds) (L2.start N vs) := by
      unfold startD L2.start
      rw [r.len]
      exact RpS.start r
    have kg := kq_gh kq
    refine (body f cdv A outer s H E hr).rs (L2.start N vs) (startD N ds) G F μ H _ _ _ hs hw (rd ds μ Qd Ed hp) ⟨fun σ' ds' G' μ' H' e _ w' q => kg .non .non G' μ' H' e w' rfl q, kg, fun σ' ds' G' μ' H' e _ w' q => q.elim, fun σ' ds' G' μ' H' e _ w' q => q.elim⟩ fun C fs d σ' ds' G' μ' H' e _ w' dr q => ?_
    obtain ⟨μ2, s2, q⟩ := q
    exact ke C fs d G' μ2 H' e (w'.sub s2) dr q
end
end DL
set_option Elab.async false
set_option linter.all false
set_option maxRecDepth 100000
set_option maxHeartbeats 4000001
/-! What is told of a def where no repr is under way; repr; the law's own call. -/
namespace DL
open PySem PySem.Spec PyProof.Rows L2
/-! ### repr -/
def rRepr (K : PySem.W.Frag) : List V → Hp → VK → Prop := fun xs H Q => ∃ v p, xs = [v] ∧ Dp K H v p ∧ p.showable = true ∧ p.hasDict = false ∧ isDisplay p = true ∧ p.depth ≤ 40 ∧ p.shown.length ≤ sizeLine ∧ Q (.str p.shown) H
theorem call_repr {X : Cx} (calm : X.A.guards = some []) (room : X.A.units + 64 < cLine) : CallR X (.builtin "repr") (rRepr X.K) := by
  rintro pins s σ H _ us Q I rs ⟨v, p, rfl, hd, hs, hn, hp, hdep, hl, q⟩
  obtain ⟨u, rfl, ru⟩ : ∃ u, us = [u] ∧ RelV v u := by
    cases rs with
    | cons r t => cases t; exact ⟨_, rfl, r⟩
  obtain ⟨as, r⟩ := Dp.reads I p v u hd ru
  obtain ⟨a, rfl⟩ := isRef_of_reads r hp
  exact repr_of_reads' r hs (PyData.noDict_hsm hn) calm (by omega) (fun _ _ e => e) (fun h' t tk hk => ⟨.str _, H, I.kept hk, ⟨_, rfl⟩, q⟩) hl
def dRepr : List D → Mu → DK → Prop
  | [x], μ, Q => ∃ p, pdM μ x = some p ∧ p.showable = true ∧ p.hasDict = false ∧ isDisplay p = true ∧ p.depth ≤ 40 ∧ p.shown.length ≤ sizeLine ∧ Q (.str p.shown) μ
  | _, _, _ => False
theorem rl_repr {K : PySem.W.Frag} : RRL K (rRepr K) dRepr := fun xs ds G F μ H Qd Q rs w h kq => by
  match ds, h with
  | [x], h =>
    obtain ⟨v, rfl, rv⟩ := rpl1 rs
    obtain ⟨p, h1, h2, h3, h4, h5, h6, q⟩ := h
    exact ⟨v, p, rfl, pdM_dp w rv h1, h2, h3, h4, h5, h6, kq.here w (d := .str _) rfl q⟩
theorem ed_repr {X : Cx} {e : Expr} {dt : TAd} {p pos : Pos} (calm : X.A.guards = some []) (room : X.A.units + 64 < cLine) (hm : X.mg "repr" = none) (ha : PAD X [e] dt) (hg : Gl X "repr" := by rfl)
    (he : starEach [e] X.env = (false, eval e X.env) :: starEach [] X.env := by rfl) (hpl : (backTo pos (starEach [] X.env)).any (·.1) = false := by rfl) : PED X (.Call (.Name "repr" p) [e] [] pos) (dCB dRepr dt) :=
  ed_callB (call_repr calm room) rl_repr hm (by decide +kernel) ha hg (by decide) (by decide) he hpl
/-! ### a def's promise, where no repr is under way -/
structure FnG (P : Program) (w : World) (K : PySem.W.Frag) (mg : Str → Option Value) (base : Heap) (k : Nat) (f : Addr) (fd : FuncData) (ps : List Str) (sp : Sp) : Prop where
  few : ∀ vs H Q E, sp vs H Q E → vs.length = ps.length
  runs : ∀ (A : Around) (outer : List Env) (s : Shared) (H : Hp) (args : Args) (us : List Value) (vs : List V) (Q : VK) (E : XK), A.guards = some [] → Room k A → Env0 P w K mg base A outer s H → BindsTo s fd args (ps.zip us) → Vals vs us → sp vs H Q E →
    codeAny (model P w) A (.call (.ref f) args) (CR CX0 outer P w H s Q E) s
section
variable {P : Program} {w : World} {K : PySem.W.Frag} {mg : Str → Option Value} {base : Heap}
theorem FnG.of {k : Nat} {f : Addr} {fd : FuncData} {ps : List Str} {sp : Sp} (F : FnOk P w K mg base CX0 k f fd ps sp) : FnG P w K mg base k f fd ps sp :=
  ⟨F.len, fun A outer s H args us vs Q E _ hr e hb hv hs => F.run A outer s H args us vs Q E hr e hb hv hs⟩
theorem okG {x qual : Str} {st : Stmt} {f : Addr} {fd : FuncData} {N ps : List Str} {k : Nat} {PD : DP} {td : DS} (Fu : Fun K x qual st f fd) (S : FnScope N ps (defScope st)) (len : ∀ ds μ Q, PD ds μ Q → ds.length = ps.length)
    (body : ∀ (cdv : Value) (A : Around) (outer : List Env) (s : Shared) (H : Hp) (E : XK), A.guards = some [] → Room k (A.deeper (PyProof.Rows.envOfC qual (defScope st) s.heap.objs.size f cdv)) → PSSD (cxOf CX0 P w K mg base N qual (defScope st) f cdv A outer s H E).nox (defBody st) td)
    (rd : ∀ ds μ Q, PD ds μ Q → td { nx := fun _ μ' => GhQ Q .non μ', rt := GhQ Q } (startD N ds) μ) : FnG P w K mg base (k + 1) f fd ps (spD K PD) := by
  obtain ⟨oc, od, kV, doc, pm, an, cdv, ct, osl, rfl, lk, hcd⟩ := Fu.ex
  have few : ∀ vs H Q E, spD K PD vs H Q E → vs.length = ps.length := fun vs H Q E ⟨G, F, μ, ds, Qd, r, hw, hp, kq⟩ => by rw [r.len]; exact len ds μ Qd hp
  refine ⟨few, fun A outer s H args us vs Q E calm hr e0 hb r h => ?_⟩
  refine LamX.run_ofS lk hcd S hr e0 hb r (few vs H Q E h) fun room => ?_
  obtain ⟨G, F, μ, ds, Qd, rr, hw, hp, kq⟩ := h
  have hs : RpS K G (startD N ds) (L2.start N vs) := by
    unfold startD L2.start
    rw [rr.len]
    exact RpS.start rr
  have kg := kq_gh kq
  have b := body cdv A outer s H E calm room
  exact ⟨_, b.ps.nox, b.rs (L2.start N vs) (startD N ds) G F μ H _ _ hs hw (rd ds μ Qd hp) ⟨fun σ' ds' G' μ' H' e _ w' q => kg .non .non G' μ' H' e w' rfl q, kg, fun σ' ds' G' μ' H' e _ w' q => q.elim, fun σ' ds' G' μ' H' e _ w' q => q.elim⟩⟩
end
end DL
set_option Elab.async false
set_option linter.all false
set_option maxRecDepth 100000
set_option maxHeartbeats 4000001
/-! The law is called where nothing runs: no repr is under way. -/
namespace DL
open PySem PySem.Spec PyProof.Rows L2
section
variable {h : Heap} {H : Hp}
/-- what is tracked are lists and empty tables -/
def Soft (h : Heap) (H : Hp) : Prop := ∀ b o, h.get? b = some o → H b ≠ none → (∃ vs n, o.data = .seq vs n) ∨ o.data = .fields #[]
theorem Soft.stay (S : Soft h H) {b : Addr} {o : Obj} (e : h.get? b = some o) (n1 : ∀ vs n, o.data ≠ .seq vs n) (n2 : o.data ≠ .fields #[]) : (hidT h H).get? b = some o :=
  hidT_get e (Classical.byContradiction fun z => (S b o e z).elim (fun ⟨vs, n, q⟩ => n1 vs n q) n2)
theorem Soft.ns (S : Soft h H) {b : Addr} {m : Str → Option Value} : h.Ns b m → (hidT h H).Ns b m
  | ⟨o, es, ep, e, d, r⟩ => ⟨o, es, ep, S.stay e (fun vs n q => by rw [d] at q; cases q) (fun q => by rw [d] at q; cases q), d, r⟩
end
open Classical in
theorem runs_law {P : Program} {w : World} {K : PySem.W.Frag} {mg mb : Str → Option Value} {k : Nat} {fa a : Addr} {cs : List (Addr × Addr)} {fd : FuncData} {x : Str} {sp : Sp} {t : Shared} {vs : List Value} {ns : List Int}
    (KX : K.In t.heap) (hns : t.heap.Ns mainGlobals mg) (hb : t.heap.Ns builtinsNs mb) (hbb : ∀ x : Str, x ≠ "__name__" → mb x = bootBuiltins x) (hlim : t.heap.NoLimit) (hg : t.gens = #[])
    (hT : ∀ p ∈ cs, t.heap.get? p.2 = some { cls := .none, data := .fields #[] }) (nT : ∀ p ∈ cs, K.lookup p.2 = none) (C : ∀ p ∈ cs, PySem.W.CodeHd t.heap p.1 p.2)
    (hbm : ∃ (bm : Addr) (ob : Obj), mg "__builtins__" = some (.ref bm) ∧ bm ≠ builtinsNs ∧ t.heap.get? bm = some ob ∧ ob.cls = .type "module" ∧ ob.dict = some builtinsNs ∧ ob.data = .plain)
    (ha : t.heap.get? a = some { cls := .type "list", data := .seq vs.toArray }) (hi : IntsAre vs ns) (hl : ns.length ≤ sizeLine) (hr : Room k callerA)
    (F : ∀ base : Heap, K.In base → base.Ns mainGlobals mg → (∀ p ∈ cs, LamX.TabB base mg p.1 p.2) → FnG P w K mg base k fa fd [x] sp) (hbind : ∀ (s : Shared) (u : Value), BindsTo s fd ⟨[u], []⟩ [(x, u)])
    (hsp : ∀ H : Hp, (∀ p ∈ cs, H p.2 = some (.tbl #[])) → SqL K H a (ns.map V.int) → sp [.ref a] H (fun v _ => v = .bl true) fun _ _ _ => False) :
    codeAny (model P w) callerA (.call (.ref fa) ⟨[.ref a], []⟩) (fun r s' => r = .ok (.ret (.bool true)) ∧ OldK t.heap s'.heap ∧ s'.os = t.os ∧ AllBare s'.gens) t := by
  have rv := vals_ints hi
  have lv := hi.length
  let so : Obj := { cls := .type "list", data := .seq vs.toArray }
  let own : Prop := K.lookup a = none
  let tb : Addr → Prop := fun b => ∃ p ∈ cs, p.2 = b
  let H : Hp := fun b => if b = a ∧ own then some (.frz so (.lst (ns.map V.int))) else if tb b then some (.tbl #[]) else none
  have tbh : ∀ b, tb b → t.heap.get? b = some { cls := .none, data := .fields #[] } := fun b ⟨p, hp, e⟩ => by rw [← e]; exact hT p hp
  have na : ¬ tb a := fun z => by
    have q := (tbh a z).symm.trans ha
    have q' : Data.fields #[] = Data.seq vs.toArray _ := congrArg Obj.data (Option.some.inj q)
    cases q'
  have H1 : ∀ b, tb b → H b = some (.tbl #[]) := fun b z => (if_neg (fun (q : b = a ∧ own) => na (q.1 ▸ z))).trans (if_pos z)
  have H2 : own → H a = some (.frz so (.lst (ns.map V.int))) := fun z => if_pos ⟨rfl, z⟩
  have H3 : ∀ b u, H b = some u → (b = a ∧ own ∧ u = .frz so (.lst (ns.map V.int))) ∨ (tb b ∧ u = .tbl #[]) := fun b u e => by
    by_cases z : b = a ∧ own
    · exact .inl ⟨z.1, z.2, Option.some.inj (e.symm.trans (if_pos z))⟩
    · have e2 := (if_neg z).symm.trans e
      by_cases y : tb b
      · exact .inr ⟨y, Option.some.inj (e2.symm.trans (if_pos y))⟩
      · have e3 := (if_neg y).symm.trans e2
        cases e3
  have hSome : ∀ b, H b ≠ none → ∃ u, H b = some u := fun b z => by
    cases e : H b with
    | none => exact absurd e z
    | some u => exact ⟨u, rfl⟩
  have soft : Soft t.heap H := fun b o e z => by
    obtain ⟨u, hu⟩ := hSome b z
    rcases H3 b u hu with ⟨rfl, _, _⟩ | ⟨y, _⟩
    · rw [ha] at e; cases e; exact .inl ⟨_, _, rfl⟩
    · rw [tbh b y] at e; cases e; exact .inr rfl
  have sq : SqL K H a (ns.map V.int) := by
    cases e : K.lookup a with
    | none => exact .inl (.inr ⟨so, H2 e⟩)
    | some o =>
      have q := (KX a o e).symm.trans ha
      obtain rfl := Option.some.inj q
      exact .inr ⟨_, vs.toArray, _, e, rfl, rfl, rfl, by rw [List.size_toArray, lv]; exact hl, by simpa using rv⟩
  have kin : K.In (hidT t.heap H) := fun b o e => hidT_get (KX b o e) (Classical.byContradiction fun z => by
    obtain ⟨u, hu⟩ := hSome b z
    rcases H3 b u hu with ⟨rfl, y, _⟩ | ⟨⟨p, hp, rfl⟩, _⟩
    · rw [show K.lookup b = none from y] at e; cases e
    · rw [nT p hp] at e; cases e)
  have hok : HOk P w H t.heap := fun b u hu => by
    rcases H3 b u hu with ⟨rfl, _, rfl⟩ | ⟨y, rfl⟩
    · exact ⟨ha, by rw [List.length_map]; exact hl, vs, _, rv, ha⟩
    · exact tbh b y
  have md : L2.Mod K mg (hidT t.heap H) := ⟨kin, soft.ns hns, ⟨mb, soft.ns hb, hbb⟩, let ⟨mc, h1, h2⟩ := hlim; ⟨mc, soft.ns h1, h2⟩⟩
  have tabs : ∀ p ∈ cs, LamX.TabB (hidT t.heap H) mg p.1 p.2 := fun p hp => by
    obtain ⟨g, es, ep, eg, dg, _⟩ := id hns
    have hp2 := hT p hp
    refine ⟨?_, ?_, fun z => ?_⟩
    · obtain ⟨o, us, file, tf, fl, tg, inF, tx, tt, e1, r1, r2, r3, rest⟩ := C p hp
      exact ⟨o, us, file, tf, fl, tg, inF, tx, tt, soft.stay e1 (fun vs n q => by rw [r2] at q; cases q) (fun q => by rw [r2] at q; cases q; simp at r3), r1, r2, r3, rest⟩
    · obtain ⟨bm, ob, b1, b2, b3, b4, b5, b6⟩ := hbm
      have nG : bm ≠ mainGlobals := fun q => by
        rw [q] at b3
        rw [eg] at b3
        cases b3
        rw [dg] at b6
        cases b6
      have nP : bm ≠ p.2 := fun q => by
        rw [q] at b3
        rw [hp2] at b3
        cases b3
        cases b6
      have st := soft.stay b3 (fun vs n q => by rw [b6] at q; cases q) (fun q => by rw [b6] at q; cases q)
      exact ⟨bm, ob, b1, b2, nG, nP, st, b4, b5, b6⟩
    · rw [z, hp2] at eg; cases eg; cases dg
  have e0 : Env0 P w K mg (hidT t.heap H) callerA [] t H := ⟨rfl, md, fun b o e => of_hidT e, Nat.le_of_eq (hidT_size _ _), trivial, fun b hb => absurd (show b ∈ ([] : List Addr) from hb) (by simp), hok, .of_eq hg⟩
  have run := (F _ kin (soft.ns hns) tabs).runs callerA [] t H ⟨[.ref a], []⟩ [.ref a] [.ref a] _ _ rfl hr e0 (hbind t (.ref a)) (.cons rfl .nil) (hsp H (fun p hp => H1 p.2 ⟨p, hp, rfl⟩) sq)
  refine codeAny_mono run fun r s' q => ?_
  match r, q with
  | .ok (.ret u), ⟨v, H', os, bare, un, hok', r', q⟩ =>
    obtain rfl : v = .bl true := q
    obtain rfl : u = Value.bool true := r'
    have same : ∀ b o, ¬ tb b → t.heap.get? b = some o → s'.heap.get? b = some o := fun b o nb e => by
      cases q : H b with
      | none => exact un.keep b o e q (fun z => nomatch (show b ∈ ([] : List Addr) from z)) (fun z => nomatch (show b ∈ ([] : List Addr) from z))
      | some u =>
        rcases H3 b u q with ⟨rfl, _, rfl⟩ | ⟨y, _⟩
        · obtain ⟨e2, _⟩ := hok' b _ (un.frzs b so _ q)
          rw [ha] at e; cases e
          exact e2
        · exact absurd y nb
    have grown : ∀ b, tb b → ∃ more : Array Value, s'.heap.get? b = some { cls := .none, data := .fields more } := fun b y => by
      obtain ⟨more, z⟩ := un.tbls b #[] (H1 b y)
      exact ⟨_, hok' b _ z⟩
    refine ⟨rfl, ⟨fun b o e => ?_, fun b o e => ?_⟩, os, bare⟩
    · by_cases y : tb b
      · obtain ⟨more, hm⟩ := grown b y
        obtain ⟨p, hp, rfl⟩ := y
        rw [hT p hp] at e; cases e
        exact .inr (.inl ⟨((C p hp).tab (hT p hp)).isCodeTable, rfl, #[], more, rfl, by rw [Array.empty_append]; exact hm⟩)
      · exact .inl (same b o y e)
    · by_cases y : tb b
      · exact (grown b y).elim fun m hm => ⟨_, hm⟩
      · exact ⟨o, same b o y e⟩
/-- what the head must tell of the law -/
def LawG (P : Program) (w : World) (K : PySem.W.Frag) (k n : Nat) (x : Str) (mg : Str → Option Value) (fa : Addr) (h : Heap) : Prop :=
  ∃ (fd : FuncData) (cs : List (Addr × Addr)) (sp : Sp), (∀ p ∈ cs, h.get? p.2 = some { cls := .none, data := .fields #[] }) ∧ (∀ p ∈ cs, K.lookup p.2 = none) ∧ (∀ p ∈ cs, PySem.W.CodeHd h p.1 p.2) ∧ (∀ (s : Shared) (u : Value), BindsTo s fd ⟨[u], []⟩ [(x, u)]) ∧
    (∀ (H : Hp) (a : Addr) (ns : List Int), ns.length ≤ n → (∀ p ∈ cs, H p.2 = some (.tbl #[])) → SqL K H a (ns.map V.int) → sp [.ref a] H (fun v _ => v = .bl true) fun _ _ _ => False) ∧
    ∀ base : Heap, K.In base → base.Ns mainGlobals mg → (∀ p ∈ cs, LamX.TabB base mg p.1 p.2) → FnG P w K mg base k fa fd [x] sp
theorem walkG {l : PySem.W.OpenLaw} {n k : Nat} {q : Program} {loose : List Str} {XP : (Str → Option Value) → Heap → Prop} {YP : World → Heap → Prop} {d : DefRec} {K : Params → PySem.W.Frag} {x : Str} (hn : l.most = some n) (hn2 : n ≤ sizeLine) (hdf : d.params.defaults = []) (hr : Room k callerA)
    (hY : ∀ (w : World) (h : Heap), YP w h → (K w.params).In h) (F : ∀ (w : World) (mg : Str → Option Value) (fa : Addr) (h : Heap), YP w h → (K w.params).In h → h.Ns mainGlobals mg → mg d.name = some (.ref fa) → LawG l.prog w (K w.params) k n x mg fa h) :
    PySem.W.WalkO q loose XP YP l.row.toRowW d [] (fun f vs => PySem.call f vs) := by
  refine Att.attach_call hn hdf fun w s₀ t mg mb fa o pm cd doc a vs ns G Y ho hd hcd hmg hobj hints hlen hg => ?_
  have KX := hY w _ Y
  obtain ⟨fd, cs, sp, hT, nT, C, hb, hsp, hF⟩ := F w mg fa _ Y KX G.T.g hmg
  exact runs_law KX G.T.g G.T.b G.T.builtins G.T.nolimit hg hT nT C G.T.bmain hobj hints (Nat.le_trans hlen hn2) hr hF hb fun H hH hS => hsp H a ns hlen hH hS
end DL
set_option Elab.async false
set_option linter.all false
set_option maxRecDepth 100000
set_option maxHeartbeats 4000001
/-! A lambda handed to a def that calls it once, and keeps what it raises. -/
namespace DL
open PySem PySem.Spec PyProof.Rows L2
section
variable {K : PySem.W.Frag} {G F : Hp} {μ : Mu} {H : Hp}
theorem Wd.tab (w : Wd K G F μ H) {P : Addr} {q : Str} (h : μ P = some (.tbl q)) : LamX.TabS H P q := by
  obtain ⟨o, h1, ⟨ps, h2, h3, h4⟩, _⟩ := w.m P _ h
  subst h2
  exact ⟨ps, h1, h3, fun pos cv hc => let ⟨c, e1, e2⟩ := h4 pos cv hc; ⟨c, e1, w.g _ _ e2⟩⟩
open Classical in
/-- tables grow: what they tell stands from now on -/
theorem Wd.ext (w : Wd K G F μ H) {H1 : Hp} (e : LamX.ExtN H H1) (t : ∀ P q, μ P = some (.tbl q) → LamX.TabS H1 P q) : ∃ G1, Ex G G1 ∧ Wd K G1 F μ H1 := by
  let new : Addr → Prop := fun b => G b = none ∧ μ b = none ∧ F b = none ∧ ∃ q, H1 b = some (LamX.CodeO b q)
  let G1 : Hp := fun b => if new b then H1 b else G b
  have g1 : ∀ b, new b → G1 b = H1 b := fun b h => if_pos h
  have g2 : ∀ b, ¬ new b → G1 b = G b := fun b h => if_neg h
  have ex : Ex G G1 := fun b o h => (g2 b (fun z => by rw [z.1] at h; cases h)).trans h
  have kF : ∀ b o, F b = some o → H1 b = some o := fun b o h => e b o (w.f b o h).1 (w.n.2 b o h).1
  refine ⟨G1, ex, fun b o h => ?_, fun b o h => ?_, fun b m h => ?_, fun b o h => ?_, w.n.2⟩
  · by_cases z : new b
    · rw [g1 b z] at h; exact h
    · rw [g2 b z] at h; exact e b o (w.g b o h) (w.n.1 b o h)
  · obtain ⟨h1, h2, h3⟩ := w.f b o h
    exact ⟨kF b o h, (g2 b (fun z => by rw [z.2.2.1] at h; cases h)).trans h2, h3⟩
  · obtain ⟨o, h1, h2, h3⟩ := w.m b m h
    have gn : G1 b = none := (g2 b (fun z => by rw [z.2.1] at h; cases h)).trans h3
    cases m with
    | lst xs => obtain ⟨vs, rfl, r⟩ := h2; exact ⟨_, e b _ h1 (fun _ z => by cases z), ⟨vs, rfl, RpL.mono ex _ _ r⟩, gn⟩
    | dK xs => obtain ⟨vs, rfl, r⟩ := h2; exact ⟨_, e b _ h1 (fun _ z => by cases z), ⟨vs, rfl, RpK.mono ex r⟩, gn⟩
    | ins C xs => obtain ⟨dx, vs, rfl, r⟩ := h2; exact ⟨_, e b _ h1 (fun _ z => by cases z), ⟨dx, vs, rfl, RpF.mono ex r⟩, gn⟩
    | tbl q =>
      obtain ⟨ps, a1, a2, a3⟩ := t b q h
      refine ⟨_, a1, ⟨ps, rfl, a2, fun pos cv hc => ?_⟩, gn⟩
      obtain ⟨c, e1, e2⟩ := a3 pos cv hc
      refine ⟨c, e1, ?_⟩
      by_cases z : new c
      · rw [g1 c z]; exact e2
      · rw [g2 c z]
        cases gc : G c with
        | some o =>
          have := e c o (w.g c o gc) (w.n.1 c o gc)
          rw [e2] at this
          exact this.symm
        | none =>
          refine absurd ⟨gc, ?_, ?_, q, e2⟩ z
          · cases mc : μ c with
            | none => rfl
            | some m' =>
              exfalso
              obtain ⟨o', z1, z2, _⟩ := w.m c m' mc
              cases m' with
              | lst xs => obtain ⟨vs, rfl, r⟩ := z2; have := e c _ z1 (fun _ z => by cases z); rw [e2] at this; cases this
              | dK xs => obtain ⟨vs, rfl, r⟩ := z2; have := e c _ z1 (fun _ z => by cases z); rw [e2] at this; cases this
              | ins C xs => obtain ⟨dx, vs, rfl, r⟩ := z2; have := e c _ z1 (fun _ z => by cases z); rw [e2] at this; cases this
              | tbl q' =>
                obtain ⟨ps', b1, _⟩ := t c q' mc
                rw [e2] at b1
                cases b1
          · cases fc : F c with
            | none => rfl
            | some o' =>
              exfalso
              have := kF c o' fc
              rw [e2] at this
              exact (w.n.2 c o' fc).2 _ (Option.some.inj this).symm
  · by_cases z : new b
    · obtain ⟨q, hq⟩ := z.2.2.2
      rw [g1 b z, hq] at h
      intro ps y
      rw [y] at h
      exact LamX.codeO_ne ps (Option.some.inj h)
    · rw [g2 b z] at h; exact w.n.1 b o h
end
/-- a name's slot is forgotten: what is wanted of an error told without the slots -/
theorem takes_any {X : Cx} {W : WX} (t : Takes X W) : Takes X (fun cls d _ H => W cls d (List.replicate X.N.length none) H) := fun u s' ⟨a, B, sI, pins, σ, H, cls, d, e, I, nb, up, sky, na, os, ag, w⟩ =>
  t u s' ⟨a, B, sI, pins, List.replicate X.N.length none, H, cls, d, e, I.weak (by rw [List.length_replicate]; exact I.len.symm) (fun i v h => by
    rw [List.getElem?_replicate] at h
    split at h <;> cases h), nb, up, sky, na, os, ag, w⟩
end DL
set_option Elab.async false
set_option linter.all false
set_option maxRecDepth 100000
set_option maxHeartbeats 4000001
/-! Errors of own classes with a text, methods and expressions that may raise, the lambda's call. -/
namespace DL
open PySem L2
/-! ### raise C(text) -/
abbrev veChain : List Value := [.type "ValueError", .type "Exception", .type "BaseException", .type "object"]
structure OwnErr (K : PySem.W.Frag) (mg : Str → Option Value) (x : Str) (C : Addr) : Prop where
  at_ : mg x = some (.ref C)
  exc : PySem.W.excIn K C veChain "ValueError.__new__" = true
  keep : PySem.W.keepIn K (.ref C) = true
  base : PySem.W.subIn K (.ref C) (.type "BaseException") = some true
  ty : PySem.W.typeIn K (.ref C) = some (.type "type")
def xOwn (C : Addr) (ta : TD) : DSX := fun xk _ ds μ => ta ds μ fun _ μ1 => xk C [] ds μ1
/-- f'..{x}..', x a short text -/
def dFs3 (a b : Str) (te : TD) : TD := fun ds μ Q => te ds μ fun x μ1 => ∃ y, x = .str y ∧ y.length ≤ 1000 ∧ Q (.str (a ++ y ++ b)) μ1
/-- no statement that is reached -/
def dNever : DS := fun _ _ _ => False
section
variable {X : Cx} {W : WX} {a b c o e : Expr} {da db dc de dto : TD} {dA : TTd} {pos p p2 apos : Pos} {es : List Expr} {t : TA} {dt : TAd} {k : Nat} {C fI : Addr} {ps : List Str} {x m : Str} {PD : DPX}
theorem sx_own (hc : X.calm = true) (tk : Takes X W) (T : OwnErr X.K X.mg x C) (ha : PED X a da) (hg : Gl X x := by rfl) (hd : (x == ("__debug__" : Str)) = false := by decide)
    (he : starEach [a] X.env = (false, eval a X.env) :: starEach [] X.env := by rfl) : PSX X W (.Raise (some (.Call (.Name x p) [a] [] pos)) none p2) (xOwn C da) :=
  .mk' (ps_raise hc tk (SkE.pmk_own1 PySem.F.excBase_ValueError T.exc T.at_ T.keep (raises_own T.base T.ty) hg ha.pe he hd))
    fun σ ds G F μ H E D xk hs hw q k kx => ha.re σ ds G F μ H _ _ hs hw q fun v d G1 μ1 H1 e1 w1 r q1 => kx C [] none σ ds G1 μ1 H1 e1 (hs.mono e1) w1 (.inl ⟨rfl, rfl⟩) q1
theorem sd_never {st : Stmt} : PSD X st dNever := ⟨⟨fun pins s σ H E I ⟨ds, G, F, μ, D, _, _, q, _⟩ => q.elim⟩⟩
theorem ed_fs3 {u v : Str} {j1 j2 : Nat} {q1 q2 q3 : Pos} (ha : PED X a da) (hu : u.length ≤ 1000 := by decide +kernel) (hv : v.length ≤ 1000 := by decide +kernel) :
    PED X (.JoinedStr [.Constant (.str u) j1 q1, .FormattedValue a (-1) none q2, .Constant (.str v) j2 q3] pos) (dFs3 u v da) := by
  refine .mk' (pe_joined (.cons pe_str (.cons (pe_fmt ha.pe) (.cons pe_str .nil)))) fun σ ds G F μ H Qd Q hs hw q kq => ?_
  have e0 : (Str.empty ++ u).length ≤ 1000 := by rw [Str.length_append]; show 0 + u.length ≤ 1000; omega
  refine ⟨u, rfl, Nat.le_trans e0 (by decide), ?_⟩
  refine ha.re σ ds G F μ H _ _ hs hw q fun x d G1 μ1 H1 ex w1 r q1 => ?_
  obtain ⟨y, rfl, hy, q2⟩ := q1
  have r' : x = V.str y := r
  refine .inl ⟨y, r', Nat.le_trans hy (by decide), y, rfl, ?_, v, rfl, ?_, ?_⟩
  · rw [Str.length_append]; exact Nat.le_trans (Nat.add_le_add e0 hy) (by decide)
  · rw [Str.length_append, Str.length_append]; exact Nat.le_trans (Nat.add_le_add (Nat.add_le_add e0 hy) hv) (by decide)
  · have e1 : Str.empty ++ u ++ y ++ v = u ++ y ++ v := by
      have : Str.empty ++ u = u := TL.ext_tl (by rw [TL.tl_append]; rfl)
      rw [this]
    rw [e1]
    exact (kq.up ex).here w1 (d := .str (u ++ y ++ v)) rfl q2
/-! ### methods that may raise -/
def MethAtX (P : Program) (w : World) (K : PySem.W.Frag) (mg : Str → Option Value) (base : Heap) (C : Addr) (m : Str) (k : Nat) (ps : List Str) (PD : DPX) : Prop := ∃ (f : Addr) (fd : FuncData), Meth K C m f ∧ Binds K fd ps [] ∧ FnOk P w K mg base (L2.CX P w) k f fd ps (spDX K PD)
def xMeth (C : Addr) (m : Str) (P : DPX) (to : TD) (t : TAd) : TDX := fun xk ds μ Q => to ds μ fun x μ1 => match x with
  | .obj a => (∃ fs, μ1 a = some (.ins C fs) ∧ lookD m fs = none) ∧ t ds μ1 fun xs μ2 => P (.obj a :: xs) μ2 Q fun E fs μ3 => xk E fs (List.replicate ds.length none) μ3
  | _ => False
theorem RpS.len {K : PySem.W.Frag} {G : Hp} : ∀ {ds : DSl} {σ : St}, RpS K G ds σ → σ.length = ds.length
  | [], σ, h => by have e : σ = [] := h; rw [e]; rfl
  | x :: ds, _, ⟨y, r, e, _, h⟩ => by rw [e, List.length_cons, List.length_cons, RpS.len h]
theorem RpS.wiped {K : PySem.W.Frag} {G : Hp} : ∀ n : Nat, RpS K G (List.replicate n none) (List.replicate n none)
  | 0 => rfl
  | n + 1 => ⟨none, _, rfl, rfl, RpS.wiped n⟩
theorem ex_meth {pl : Sem Bool} (tk : Takes X W) (ho : PED X o dto) (cl : Cls X.K C) (G : MethAtX X.prog X.w X.K X.mg X.base C m k ps PD) (hr : Room k X.A) (ha : PAD X (e :: es) dt)
    (he : starEach (e :: es) X.env = (false, eval e X.env) :: starEach es X.env := by rfl) (hpl : (backTo pos (starEach es X.env)).any (·.1) = false := by rfl)
    (hev : eval (.Call (.Attribute o m apos) (e :: es) [] pos) X.env = (do
      let ov ← eval o X.env
      standAt apos.atName
      let (f, first) ← holding [ov] (getMethod ov m pl)
      callWith pos f first (backTo pos (starEach (e :: es) X.env)) (backToKw pos (keywordEach [] X.env))) := by rfl) :
    PEX X W (.Call (.Attribute o m apos) (e :: es) [] pos) (xMeth C m PD dto dt) := by
  obtain ⟨f, fd, h1, h2, h3⟩ := G
  have tk2 := takes_any tk
  have pe := pe_meth (pl := pl) (CX := L2.CX X.prog X.w) (E := fun cls d H => W cls d (List.replicate X.N.length none) H) ho.pe cl h1 h3 hr h2 .nil (passes_call tk2 fun _ _ _ _ h => h) ha.pe he hpl hev
  refine ⟨⟨fun pins s σ H Q I ⟨ds, G, F, μ, Qd, xk, hs, hw, q, kq, kx⟩ => pe.run pins s σ H Q I ?_⟩⟩
  have len : X.N.length = ds.length := by rw [← hs.len]; exact I.len.symm
  refine ho.re σ ds G F μ H _ _ hs hw q fun x dx G1 μ1 H1 e1 w1 rx q => ?_
  split at q
  · rename_i a
    obtain ⟨⟨fs, hm, hl⟩, q⟩ := q
    obtain ⟨dd, vs, h3, h4⟩ := w1.insM hm
    have rx' : x = V.ref a := rx
    refine ⟨a, dd, vs, rx', h3, h4.look.2 hl, ha.re σ ds G1 F μ1 H1 _ _ (hs.mono e1) w1 q fun us xs G2 μ2 H2 e2 w2 r2 q2 => ?_⟩
    rw [List.append_nil]
    refine ⟨G2, F, μ2, .obj a :: xs, Qd, _, ⟨x, us, rfl, rx', r2⟩, w2, q2, kq.up (e1.trans e2), fun E fs d G' μ' H' e' w' dr z => ?_⟩
    rw [len]
    exact kx E fs d _ _ G' μ' H' ((e1.trans e2).trans e') (RpS.wiped _) w' dr z
  · exact q.elim
/-- what may raise within an operation, a call of a built-in type -/
def xOp (r : D → D → Mu → DK → Prop) (ta : TDX) (tb : TD) : TDX := fun xk ds μ Q => ta xk ds μ fun x μ1 => tb ds μ1 fun y μ2 => r x y μ2 Q
def xCB1 (r : List D → Mu → DK → Prop) (t : TDX) : TDX := fun xk ds μ Q => t xk ds μ fun x μ1 => r [x] μ1 Q
theorem PEX.any {te : TDX} (h : PEX X W e te) : ∀ σ ds G F μ H Qd Q xk, RpS X.K G ds σ → Wd X.K G F μ H → te xk ds μ Qd → KQ X.K G F Qd Q → KX X.K G F xk W → teOfX X.K W te σ H Q := fun σ ds G F μ H Qd Q xk a b c d e => ⟨ds, G, F, μ, Qd, xk, a, b, c, d, e⟩
end
end DL
set_option Elab.async false
set_option linter.all false
set_option maxRecDepth 100000
set_option maxHeartbeats 4000001
/-! f(lambda: e), where f calls it, keeps the error and answers by a text. -/
namespace DL
open PySem PySem.Spec PyProof.Rows L2
/-- the tables of code in the store -/
def TabsAre (T : List (Addr × Str)) (μ : Mu) : Prop := ∀ P q, μ P = some (.tbl q) ↔ (P, q) ∈ T
def dLost (T : List (Addr × Str)) (cat : Addr → Option Bool) (tl : TDX) (tr : DS) : TD := fun ds μ Q => TabsAre T μ ∧
  tl (fun C fs _ μ' => ∃ b, cat C = some b ∧ (b = true → tr { nx := fun _ μ' => Q .non μ', rt := Q } [none, some (.exc C fs), none] μ') ∧ (b = false → False)) ds μ
    fun _ μ' => ∀ f, tr { nx := fun _ μ' => Q .non μ', rt := Q } [some (.obj f), some .non, none] μ'
/-- what is done behind the lambda's call -/
def retT (K : PySem.W.Frag) (tr : DS) (Q : VK) : Ends := { nx := fun σ H => tsOf K tr { nx := fun _ H' => Q .non H', rt := Q } σ H, rt := Q }
def TTlost (K : PySem.W.Frag) (cv : Value) (tr : DS) : (XK → Hp → VK → Prop) → Hp → VK → Prop := fun tl H Q => ∀ f : Addr,
  tl (fun cls d H' => wKeep K cv 2 1 (fun _ _ _ _ => False) (retT K tr Q) cls d (List.replicate 3 none) H') H (fun _ H' => (retT K tr Q).nx [some (.ref f), some .non, none] H')
/-- what the text's def holds -/
structure LostAt (prog : Program) (w : World) (K : PySem.W.Frag) (mg : Str → Option Value) (x a : Str) (g : Addr) (cv : Value) (tr : DS) : Prop where
  at_ : mg x = some (.ref g)
  keep : PySem.W.keepIn K (.ref g) = true
section
variable {X : Cx} {T : List (Addr × Str)} {cat : Addr → Option Bool} {tl : TDX} {tr : DS} {cv : Value}
theorem re_lost (hc : ∀ C b, cat C = some b → PySem.W.exmOne X.K (.ref C) cv = some b) : RE X.K (LamX.tLam T (TTlost X.K cv tr) (fun E => teOfX X.K (fun cls d _ H' => E cls d H') tl)) (dLost T cat tl tr) := fun σ ds G F μ H Qd Q hs hw h kq => by
  obtain ⟨tb, h⟩ := h
  refine ⟨fun p hp => hw.tab ((tb p.1 p.2).mpr hp), fun H1 eN t1 f => ?_⟩
  obtain ⟨G1, e1, w1⟩ := hw.ext eN fun P q hq => t1 (P, q) ((tb P q).mp hq)
  have k1 := kq.up e1
  have rt : ∀ {ds' σ' G' μ' H'}, Ex G1 G' → RpS X.K G' ds' σ' → Wd X.K G' F μ' H' → tr { nx := fun _ μ' => Qd .non μ', rt := Qd } ds' μ' → (retT X.K tr Q).nx σ' H' := fun {ds' σ' G' μ' H'} e r w q =>
    ⟨ds', G', F, μ', _, r, w, q, ⟨fun σ2 ds2 G2 μ2 H2 e2 _ w2 q2 => (k1.up e) .non .non G2 μ2 H2 e2 w2 rfl q2, (k1.up e), fun σ' ds' G' μ' H' e _ w' q => q.elim, fun σ' ds' G' μ' H' e _ w' q => q.elim⟩⟩
  refine ⟨ds, G1, F, μ, _, _, hs.mono e1, w1, h, fun v d G2 μ2 H2 e2 w2 r q => rt (ds' := [some (.obj f), some .non, none]) e2 ⟨_, _, rfl, ⟨_, rfl, rfl⟩, _, _, rfl, ⟨_, rfl, rfl⟩, _, _, rfl, rfl, rfl⟩ w2 (q f), fun C fs d σ' ds' G2 μ2 H2 e2 _ w2 dr q => ?_⟩
  obtain ⟨b, hb, yes, no⟩ := q
  refine ⟨b, hc C b hb, fun e a ha => ?_, no⟩
  have eG : Ex G2 (upd G2 a (XT (.ref C) d a)) := Ex.new (w2.noG ha)
  exact rt (ds' := [none, some (.exc C fs), none]) (e2.trans eG) ⟨_, _, rfl, rfl, _, _, rfl, ⟨.ref a, rfl, ⟨a, d, rfl, upd_same, dr.mono eG⟩⟩, _, _, rfl, rfl, rfl⟩ (w2.newG ha) (yes e)
end
end DL
set_option Elab.async false
set_option linter.all false
set_option maxRecDepth 100000
set_option maxHeartbeats 4000001
/-! while; operations over what may raise; the lambda handed over, as a rule of the text. -/
namespace DL
open PySem L2
def dWhile (c : TTd) (tb : DS) : DS := fun D ds μ => ∃ I : Nat → DSl → Mu → Prop, (∃ m, I m ds μ) ∧ ∀ m ds μ, I m ds μ → c ds μ fun b μ1 =>
  if b = true then tb { D with nx := fun ds' μ' => ∃ j, j < m ∧ I j ds' μ', ct := fun ds' μ' => ∃ j, j < m ∧ I j ds' μ', bk := D.nx } ds μ1 else D.nx ds μ1
theorem rs_while {K : PySem.W.Frag} {tc : TT} {tb : TS} {dc : TTd} {db : DS} (h0 : RT K tc dc) (h1 : RS K tb db) : RS K (tWhile tc tb) (dWhile dc db) := fun σ ds G F μ H E D hs hw h k => by
  obtain ⟨I, ⟨m0, i0⟩, st⟩ := h
  refine ⟨fun m σ' H' => ∃ ds' G' μ', Ex G G' ∧ RpS K G' ds' σ' ∧ Wd K G' F μ' H' ∧ I m ds' μ', ⟨m0, ds, G, μ, Ex.refl G, hs, hw, i0⟩, ?_⟩
  rintro m σ1 H1 ⟨ds1, G1, μ1, e1, s1, w1, i1⟩
  refine h0 σ1 ds1 G1 F μ1 H1 _ _ s1 w1 (st m ds1 μ1 i1) fun b G2 μ2 H2 e2 w2 q => ?_
  have kk := k.up (e1.trans e2)
  cases b with
  | false => rw [if_neg (by decide)] at q ⊢; exact kk.nx _ _ _ _ _ (Ex.refl _) (s1.mono e2) w2 q
  | true =>
    rw [if_pos rfl] at q ⊢
    refine ⟨fun σ' H' => ∃ j, j < m ∧ ∃ ds' G' μ', Ex G G' ∧ RpS K G' ds' σ' ∧ Wd K G' F μ' H' ∧ I j ds' μ', fun σ' H' z => z, ?_⟩
    have nx : KS K G2 F (fun ds' μ' => ∃ j, j < m ∧ I j ds' μ') (fun σ' H' => ∃ j, j < m ∧ ∃ ds' G' μ', Ex G G' ∧ RpS K G' ds' σ' ∧ Wd K G' F μ' H' ∧ I j ds' μ') :=
      fun σ' ds' G' μ' H' e' s' w' ⟨j, lt, i⟩ => ⟨j, lt, ds', G', μ', (e1.trans e2).trans e', s', w', i⟩
    exact h1 σ1 ds1 G2 F μ2 H2 _ _ (s1.mono e2) w2 q ⟨nx, kk.rt, kk.nx, nx⟩
section
variable {X : Cx} {W : WX} {a b c o e : Expr} {da db dc de : TD} {xa : TDX} {dA : TTd} {pos p p2 : Pos} {es : List Expr} {k : Nat} {C : Addr} {x : Str}
theorem sd_while {s1 : List Stmt} {d1 : DS} (hp : PassesOwn (model X.prog X.w) X.A X.env X.xe) (hc : PTD X c dA) (hb : PSSD X s1 d1) : PSD X (.While c s1 [] pos) (dWhile dA d1) := .mk' (ps_while hp hc.pe hb.ps) (rs_while hc.re hb.rs)
theorem ex_ix (ha : PEX X W a xa) (hb : PED X b db) (hs : PlainIx b := by exact fun _ _ => rfl) : PEX X W (.Subscript a b pos) (xOp dIx xa db) :=
  .mk' (pe_ix ix_seq ha.pe hb.pe hs) fun σ ds G F μ H Qd Q xk hs hw q kq kx =>
    ⟨ds, G, F, μ, _, xk, hs, hw, q, fun u d G1 μ1 H1 e1 w1 r q1 => hb.re σ ds G1 F μ1 H1 _ _ (hs.mono e1) w1 q1 fun y dy G2 μ2 H2 e2 w2 ry q2 => rr_ix u y d dy G2 F μ2 H2 Qd Q (Rp.mono e2 _ _ r) ry w2 q2 (kq.up (e1.trans e2)), kx⟩
theorem ex_callTy1 {id : String} {r : List V → Hp → VK → Prop} {dr : List D → Mu → DK → Prop} (hc : CallR X (.type id) r) (hr : RRL X.K r dr) (hm : X.mg x = none) (hv : bootBuiltins x = some (.type id)) (ha : PEX X W e xa) (hg : Gl X x := by rfl) (hn : x ≠ "__name__" := by decide) (hdb : (x == ("__debug__" : Str)) = false := by decide)
    (he : starEach [e] X.env = (false, eval e X.env) :: starEach [] X.env := by rfl) (hpl : (backTo pos (starEach [] X.env)).any (·.1) = false := by rfl) : PEX X W (.Call (.Name x p) [e] [] pos) (xCB1 dr xa) :=
  .mk' (pe_callTy hc hg hm hv (pa_cons ha.pe pa_nil he) hn hdb he hpl) fun σ ds G F μ H Qd Q xk hs hw q kq kx =>
    ⟨ds, G, F, μ, _, xk, hs, hw, q, fun u d G1 μ1 H1 e1 w1 r q1 => hr [u] [d] G1 F μ1 H1 Qd Q ⟨u, [], rfl, r, rfl⟩ w1 q1 (kq.up e1), kx⟩
end
/-! ### f(lambda: e) -/
section
variable {X : Cx} {T : List (Addr × Str)} {cat : Addr → Option Bool} {tl : TDX} {tr : DS}
/-- the def that calls it: y = None; try: a() except B as n: y = n; and what comes behind -/
theorem gives_keep {Ng : List Str} {x a y n B q : Str} {sg : Scope} {g CS : Addr} {cdg : Value} {st1 st3 : Stmt} {c1 p1 p2 p3 np yp mp ap hp tp : Pos} (hNg : Ng = [a, y, n]) (nd : Ng.Nodup) (lN : sg.names.lookup n = some .local) (lY : sg.names.lookup y = some .local)
    (hB : sg.names.lookup B = some .globalImplicit) (dB : (B == ("__debug__" : Str)) = false) (gB : X.mg B = some (.ref CS)) (ndb : (n == ("__debug__" : Str)) = false) (ncd : (n == ("__classdict__" : Str)) = false) (fnN : (PyProof.Rows.envOfC x sg 0 g cdg).kindOf n = some .local)
    (h1 : ∀ (s : Shared) (H : Hp), PS (cxOf C8.CX0 X.prog X.w X.K X.mg X.base Ng x sg g cdg X.A X.stack s H C8.E0).nox st1 (tAsg (tC .non) (gName 1)))
    (sw1 : ∀ (A : Cx) , A.env.scope = sg → swapsWith (.Name n mp) (some (.Name y yp)) ap.line A.env = pure false)
    (sw2 : ∀ (A : Cx), A.env.scope = sg → swapsWith (.Call (.Name a p1) [] [] p2) none p3.line A.env = pure false)
    (h3 : ∀ (s : Shared) (H : Hp), PSSD (cxOf C8.CX0 X.prog X.w X.K X.mg X.base Ng x sg g cdg X.A X.stack s H C8.E0).nox [st3] tr) :
    LamX.GivesTo X Ng x sg g cdg [st1, .Try [.Expr (.Call (.Name a p1) [] [] p2) p3] [.ExceptHandler (some (.Name B np)) (some n) [.Assign [.Name y yp] (.Name n mp) ap] hp] [] [] tp, st3] a q (TTlost X.K (.ref CS) tr) := by
  subst hNg
  intro f c' s H Q tl act hc h
  have try2 : PS (cxOf C8.CX0 X.prog X.w X.K X.mg X.base [a, y, n] x sg g cdg X.A X.stack s H C8.E0).nox (.Try [.Expr (.Call (.Name a p1) [] [] p2) p3] [.ExceptHandler (some (.Name B np)) (some n) [.Assign [.Name y yp] (.Name n mp) ap] hp] [] [] tp)
      (fun D σ H' => tDrop (fun σZ HZ Qz => σZ[0]? = some (some (.ref f)) ∧ HZ c' = some (LamX.CodeO c' q) ∧ tl (fun cls d H2 => wKeep X.K (.ref CS) 2 1 (fun _ _ _ _ => False) D cls d (List.replicate 3 none) H2) HZ Qz) D σ H') :=
    ps_try_keep (X := (cxOf C8.CX0 X.prog X.w X.K X.mg X.base [a, y, n] x sg g cdg X.A X.stack s H C8.E0).nox) (i := 2) (j := 1) (Wout := fun _ _ _ _ => False)
      (tb := fun W D σ H' => tDrop (fun σZ HZ Qz => σZ[0]? = some (some (.ref f)) ∧ HZ c' = some (LamX.CodeO c' q) ∧ tl (fun cls d H2 => W cls d (List.replicate 3 none) H2) HZ Qz) D σ H')
      rfl rfl nd rfl rfl fnN lY lN (by decide) ⟨hB, dB, .inl gB⟩ takes_never rfl ndb ncd (fun A hA => sw1 A (by rw [hA]; rfl)) fun W pn xe tk _ =>
        pss_one (ps_expr (act (fun cls d _ H2 => W cls d (List.replicate 3 none) H2) pn xe (fun cls d H2 => W cls d (List.replicate 3 none) H2) p1 p2 (takes_any tk) fun _ _ _ _ h => h) (sw2 _ rfl))
  exact ⟨_, pss_cons (h1 s H) (pss_cons try2 (h3 s H).ps), rfl, hc, h f⟩
theorem ed_lost {x a q : Str} {g c P : Addr} {k : Nat} {pg : Arguments} {bg : List Stmt} {sg : Scope} {dV kV doc pm cdv ct oc : Value} {an od : Option Addr} {osl : Array (Option Value)} {Ng : List Str} {cv : Value}
    {params : Arguments} {body : Expr} {scope : Scope} {p lpos pos : Pos} (hcat : ∀ C b, cat C = some b → PySem.W.exmOne X.K (.ref C) cv = some b) (hg : Gl X x) (hm : X.mg x = some (.ref g)) (hk : PySem.W.keepIn X.K (.ref g) = true)
    (lk : X.K.lookup g = some ⟨oc, od, .func (PySem.W.fnOf x x pg bg sg dV kV doc pm an cdv ct), osl⟩) (hcg : PySem.W.codeIn X.K cdv x = true) (hb : Binds X.K (PySem.W.fnOf x x pg bg sg dV kV doc pm an cdv ct) [a] []) (Sg : FnScope Ng [a] sg) (hNg : Ng[0]? = some a) (hva : Vis sg a)
    (hG : LamX.GivesTo X Ng x sg g cdv bg a (X.env.qual ++ "<lambda>") (TTlost X.K cv tr))
    (TB : LamX.TabB X.base X.mg c P) (hcode : X.env.code = .ref c) (hmT : (P, X.env.qual ++ "<lambda>") ∈ T) (hu : ∀ p ∈ T, p.1 = P → p.2 = X.env.qual ++ "<lambda>") (hr : Room (k + 2) X.A) (L : LamX.LamS X.env.scope scope) (hdef : defaultsOf params X.env = ([], []))
    (hbind : ∀ (q : Str) (cl : List (Str × Addr)) (pm cv ctv : Value), bindArgs (PySem.W.kla_fn "<lambda>" q params body scope cl pm cv ctv) ⟨[], []⟩ = pure [])
    (hbody : ∀ (A : Around) (outer : List Env) (s : Shared) (H : Hp) (E : XK) (f c' : Addr), Room k (A.deeper (LamX.lamEnv X scope s.heap.objs.size f c')) → PEX (LamX.lamCx X A outer s H E scope f c') (fun cls d _ H' => E cls d H') body tl)
    (hdb : (x == ("__debug__" : Str)) = false := by decide) (hd : (a == ("__debug__" : Str)) = false := by decide) (hcd : (a == ("__classdict__" : Str)) = false := by decide) :
    PED X (.Call (.Name x p) [.Lambda params body scope lpos] [] pos) (dLost T cat tl tr) :=
  .mk' (LamX.pe_lamcall (t := fun E => teOfX X.K (fun cls d _ H' => E cls d H') tl) hg hm hk lk hcg hb Sg hNg hva hG TB hcode hmT hu hr L hdef hbind (fun A outer s H E f c' hr => (hbody A outer s H E f c' hr).pe) hdb hd hcd) (re_lost hcat)
end
end DL
set_option Elab.async false
set_option linter.all false
set_option maxRecDepth 100000
set_option maxHeartbeats 4000001
/-! list.index of texts; defs called where no repr is under way. -/
namespace DL
open PySem PySem.Spec PyProof.Rows L2
theorem units_ok {k : Nat} {A : Around} (r : Room k A) : A.units + 64 < cLine := by have := r.un; omega
def dIndex : D → List D → Mu → DK → Prop
  | x, [.str s], μ, Q => ∃ (ns : List Str) (j : Nat), LstAt μ x (ns.map .str) ∧ ns[j]? = some s ∧ (∀ m z, m < j → ns[m]? = some z → z ≠ s) ∧ Q (.int (j : Nat)) μ
  | _, _, _, _ => False
theorem eqV_strs (a b : Str) : eqV (.str a) (.str b) = decide (a = b) := by
  by_cases h : a = b <;> simp [eqV, h]
theorem rm_index {K : PySem.W.Frag} : RRM K (rIndex K) dIndex := fun x xs dx ds G F μ H Qd Q rx rs w h kq => by
  match ds, h with
  | [.str s], h =>
    obtain ⟨ns, j, hl, hj, hno, q⟩ := h
    obtain ⟨a, vs, rfl, hH, rv⟩ := hl.h w rx
    have ev := rv.strs
    subst ev
    obtain ⟨v, rfl, r1⟩ := rpl1 rs
    have r2 : v = V.str s := r1
    subst r2
    refine ⟨a, ns.map V.str, .str s, j, .str s, rfl, rfl, SqL.of hH, rfl, ?_, by rw [List.getElem?_map, hj]; rfl, by rw [eqV_strs]; exact decide_eq_true rfl, fun m z' hm hz => ?_, kq.here w (d := .int _) rfl q⟩
    · rw [List.all_map]; exact List.all_eq_true.mpr fun _ _ => rfl
    · rw [List.getElem?_map] at hz
      cases e : ns[m]? with
      | none => rw [e] at hz; cases hz
      | some y =>
        rw [e] at hz
        cases hz
        rw [eqV_strs]
        exact decide_eq_false (hno m y hm e)
section
variable (P : Program) (w : World) (K : PySem.W.Frag) (mg : Str → Option Value) (base : Heap)
def DefG (x : Str) (k : Nat) (ps : List Str) (PD : DP) : Prop := ∃ (f : Addr) (fd : FuncData), mg x = some (.ref f) ∧ PySem.W.keepIn K (.ref f) = true ∧ Binds K fd ps [] ∧ FnG P w K mg base k f fd ps (spD K PD)
end
theorem ed_callG {X : Cx} {e : Expr} {es : List Expr} {dt : TAd} {k : Nat} {ps : List Str} {PD : DP} {x : Str} {p pos : Pos} (calm : X.A.guards = some []) (Fn : DefG X.prog X.w X.K X.mg X.base x k ps PD) (hr : Room k X.A) (ha : PAD X (e :: es) dt)
    (hg : Gl X x := by rfl) (hdb : (x == ("__debug__" : Str)) = false := by decide) (he : starEach (e :: es) X.env = (false, eval e X.env) :: starEach es X.env := by rfl) (hpl : (backTo pos (starEach es X.env)).any (·.1) = false := by rfl) :
    PED X (.Call (.Name x p) (e :: es) [] pos) (dCall PD dt) := by
  obtain ⟨f, fd, hm, hk, hb, F⟩ := Fn
  have pe : PE X (.Call (.Name x p) (e :: es) [] pos) (tCall (spD X.K PD) [] (fun _ _ _ => False) (taOf X.K dt)) := ⟨fun pins s σ H Q I h => wpAny_Call_Name_kw (ld_glob I hg hm (PySem.W.callWith_K (h₀ := X.base) I.ok.mod.kin hk (thn (ha.pe.run pos pins s σ H _ I h) fun us s1 ⟨vs, H1, I1, r, q⟩ => ⟨I1.kIn, by
    have q : spD X.K PD vs H1 Q (fun _ _ _ => False) := by
      have z : spD X.K PD (vs ++ []) H1 Q (fun _ _ _ => False) := q
      rw [List.append_nil] at z
      exact z
    have len : us.length = ps.length := by rw [← r.length]; exact F.few _ _ _ _ q
    have bd := hb s1 us I1.kIn (by rw [List.append_nil]; exact len)
    rw [List.append_nil] at bd
    refine wpAny_call (codeAny_mono (F.runs X.A X.stack s1 H1 ⟨us, []⟩ us vs Q (fun _ _ _ => False) calm hr I1.env0 bd r q) fun r' s' hq => ?_)
    match r', hq with
    | .ok (.ret u), hq => exact I1.after hq⟩) he hpl) hdb)⟩
  exact .mk' pe (re_call ha.re)
end DL
set_option Elab.async false
set_option linter.all false
set_option maxRecDepth 100000
set_option maxHeartbeats 4000001
/-! A def that may raise, called where nothing is let out. -/
namespace DL
open PySem PySem.Spec PyProof.Rows L2
def quiet (P : DPX) : DP := fun ds μ Q => P ds μ Q fun _ _ _ => False
theorem ed_callX0 {X : Cx} {e : Expr} {es : List Expr} {dt : TAd} {k : Nat} {ps : List Str} {PD : DPX} {x : Str} {p pos : Pos} (G : DefAtX X.prog X.w X.K X.mg X.base x k ps PD) (hr : Room k X.A) (ha : PAD X (e :: es) dt)
    (hg : Gl X x := by rfl) (hdb : (x == ("__debug__" : Str)) = false := by decide) (he : starEach (e :: es) X.env = (false, eval e X.env) :: starEach es X.env := by rfl) (hpl : (backTo pos (starEach es X.env)).any (·.1) = false := by rfl) :
    PED X (.Call (.Name x p) (e :: es) [] pos) (dCall (quiet PD) dt) := by
  obtain ⟨f, fd, h1, h2, h3, h4⟩ := G
  refine .mk' (pe_call (CX := L2.CX X.prog X.w) (E := fun _ _ _ => False) h4 hr hg h1 h2 h3 .nil (passes_call takes_never fun _ _ _ _ h => h) ha.pe hdb he hpl) fun σ ds G F μ H Qd Q hs hw h kq =>
    ha.re σ ds G F μ H _ _ hs hw h fun vs xs G1 μ1 H1 e1 w1 r q => ?_
  rw [List.append_nil]
  exact ⟨G1, F, μ1, xs, Qd, _, r, w1, q, kq.up e1, fun C fs d G' μ' H' e' w' dr x => x⟩
end DL
set_option Elab.async false
set_option linter.all false
set_option maxRecDepth 100000
set_option maxHeartbeats 4000001
namespace DL
open PySem L2
/-! ## The law's own numbers, names, fleets: data and promises -/
abbrev Lamp := Str × Int × Int
abbrev Kind := Str × Int × List Lamp
abbrev Flt := List Str × List Kind
abbrev Sight := Int × Int × List Str
def lampD (l : Lamp) : D := .tup [.str l.1, .int l.2.1, .int l.2.2]
def kindD (k : Kind) : D := .tup [.str k.1, .int k.2.1, .tup (k.2.2.map lampD)]
def fleetD (f : Flt) : D := .tup [.tup (f.1.map .str), .tup (f.2.map kindD)]
def sightD (s : Sight) : D := .tup [.int s.1, .int s.2.1, .tup (s.2.2.map .str)]
def GoodLamp (cs : List Str) (l : Lamp) : Prop := l.1 ∈ cs ∧ 0 ≤ l.2.1 ∧ l.2.1 < 32 ∧ 0 ≤ l.2.2 ∧ l.2.2 < 32
def GoodLamps (cs : List Str) (ls : List Lamp) : Prop := 1 ≤ ls.length ∧ ls.length ≤ 6 ∧ ∀ l ∈ ls, GoodLamp cs l
def GoodKind (cs : List Str) (k : Kind) : Prop := 0 ≤ k.2.1 ∧ k.2.1 ≤ 16 ∧ GoodLamps cs k.2.2
def Asc (s : Str) : Prop := ∀ c ∈ s.cps.toList, c < 1114112
def AscKind (k : Kind) : Prop := Asc k.1 ∧ ∀ l ∈ k.2.2, Asc l.1
structure GoodFleet (cs ks : List Str) (f : Flt) : Prop where
  c0 : 1 ≤ f.1.length
  c6 : f.1.length ≤ 6
  cp : f.1 = cs.take f.1.length
  k0 : 1 ≤ f.2.length
  k6 : f.2.length ≤ 6
  kp : f.2.map (·.1) = ks.take f.2.length
  kg : ∀ k ∈ f.2, GoodKind f.1 k
def GoodSight (cs : List Str) (s : Sight) : Prop := 0 ≤ s.1 ∧ s.1 ≤ 99 ∧ 0 ≤ s.2.1 ∧ s.2.1 < 32 ∧ s.2.2.length ≤ 6 ∧ ∀ c ∈ s.2.2, c ∈ cs
def bars : List Str := ["colours", "kind", "lamp", "sight"]
def IsName (s : Str) : Prop := 1 ≤ s.length ∧ s.length ≤ 6 ∧ (∀ c ∈ s.cps.toList, 97 ≤ c ∧ c ≤ 122) ∧ s ∉ bars
def GoodNames (ns : List Str) : Prop := ns.length = 6 ∧ ns.Nodup ∧ (∀ s ∈ ns, IsName s) ∧ Str.ofString "zzq" ∉ ns ∧ ∀ a ∈ ns, ∀ b ∈ ns, a ++ ("x" : Str) ≠ b

/-- the table of draws at m, its digits at dg; at most n draws so far -/
def tabD (cells : List Int) (dg : Addr) (at_ : Int) (rest : List (Key × D)) : List (Key × D) := (.inr "cells", .lst (cells.map .int)) :: (.inr "digits", .obj dg) :: (.inr "at", .int at_) :: rest
structure MOk (m dg : Addr) (rest : List (Key × D)) (n : Nat) (μ : Mu) : Prop where
  ne : m ≠ dg
  few : rest.length ≤ 100 ∧ ∀ kv ∈ rest, kv.1 ≠ (Sum.inr "at" : Key)
  tab : ∃ (cells digits : List Int) (at_ : Int), μ m = some (.dK (tabD cells dg at_ rest)) ∧ μ dg = some (.lst (digits.map .int)) ∧ cells.length = 64 ∧ (∀ c ∈ cells, 0 ≤ c ∧ c < 2147483647) ∧ 0 ≤ at_ ∧ at_ ≤ n ∧ digits.length ≤ 64
def restD (cs ks : List Str) : List (Key × D) := [(.inr "colours", .lst (cs.map .str)), (.inr "kinds", .lst (ks.map .str))]
/-- all but the table and its digits stays -/
def Fr (m dg : Addr) (μ ν : Mu) : Prop := ∀ a, a ≠ m → a ≠ dg → ν a = μ a
theorem Fr.refl {m dg : Addr} (μ : Mu) : Fr m dg μ μ := fun _ _ _ => rfl
theorem Fr.trans {m dg : Addr} {μ ν ρ : Mu} (a : Fr m dg μ ν) (b : Fr m dg ν ρ) : Fr m dg μ ρ := fun x h1 h2 => (b x h1 h2).trans (a x h1 h2)
theorem MOk.mono {m dg : Addr} {rest : List (Key × D)} {n k : Nat} {μ : Mu} (h : MOk m dg rest n μ) (e : n ≤ k) : MOk m dg rest k μ := by
  obtain ⟨a, f, c, d, t, h1, h2, h3, h4, h5, h6, h7⟩ := h
  exact ⟨a, f, c, d, t, h1, h2, h3, h4, h5, by omega, h7⟩
theorem MOk.putO {m dg p : Addr} {rest : List (Key × D)} {n : Nat} {μ : Mu} {o : MO} (h : MOk m dg rest n μ) (e1 : p ≠ m) (e2 : p ≠ dg) : MOk m dg rest n (put μ p o) := by
  obtain ⟨a, f, c, d, t, h1, h2, h3⟩ := h
  exact ⟨a, f, c, d, t, by rw [put_ne (Ne.symm e1)]; exact h1, by rw [put_ne (Ne.symm e2)]; exact h2, h3⟩
theorem MOk.neM {m dg p : Addr} {rest : List (Key × D)} {n : Nat} {μ : Mu} (h : MOk m dg rest n μ) (e : μ p = none) : p ≠ m := by
  obtain ⟨_, _, c, d, t, h1, h2, _⟩ := h
  intro z; rw [z, h1] at e; cases e
theorem MOk.neD {m dg p : Addr} {rest : List (Key × D)} {n : Nat} {μ : Mu} (h : MOk m dg rest n μ) (e : μ p = none) : p ≠ dg := by
  obtain ⟨_, _, c, d, t, h1, h2, _⟩ := h
  intro z; rw [z, h2] at e; cases e

/-! promises -/
def P__law_mixed : DP := fun ds μ Q => ∃ c k : Int, ds = [.int c, .int k] ∧ 0 ≤ c ∧ c < 2^40 ∧ 0 ≤ k ∧ k < 2^40 ∧ ∀ r, 0 ≤ r → r < 2147483629 → Q (.int r) μ
def P__law_folded : DP := fun ds μ Q => ∃ ns : List Int, ds = [.scr (ns.map .int)] ∧ ns.length ≤ 63 ∧ ∀ cells : List Int, cells.length = 64 → (∀ c ∈ cells, 0 ≤ c ∧ c < 2147483647) → Q (.lst (cells.map .int)) μ
def P__law_draw : DP := fun ds μ Q => ∃ (m dg : Addr) (rest : List (Key × D)) (n : Nat) (j : Int), ds = [.obj m, .int j] ∧ MOk m dg rest n μ ∧ n < 2^30 ∧ 0 < j ∧ j < 2^29 ∧
  ∀ r μ', 0 ≤ r → r < j → MOk m dg rest (n + 1) μ' → Fr m dg μ μ' → Q (.int r) μ'
def P__law_names : DP := fun ds μ Q => ∃ c : Int, ds = [.int c, .int 6] ∧ 0 ≤ c ∧ ∀ ns, GoodNames ns → Q (.lst (ns.map .str)) μ
def P__law_lamp : DP := fun ds μ Q => ∃ (m dg : Addr) (rest : List (Key × D)) (n : Nat) (cs : List Str), ds = [.obj m, .tup (cs.map .str)] ∧ MOk m dg rest n μ ∧ n < 2^29 ∧ 1 ≤ cs.length ∧ cs.length ≤ 6 ∧
  ∀ l μ', GoodLamp cs l → MOk m dg rest (n + 4) μ' → Fr m dg μ μ' → Q (lampD l) μ'
def P__law_lamps : DP := fun ds μ Q => ∃ (m dg p : Addr) (rest : List (Key × D)) (n : Nat) (cs : List Str) (rows : List Kind), ds = [.obj m, .tup (cs.map .str), .obj p] ∧ MOk m dg rest n μ ∧ n < 2^28 ∧ 1 ≤ cs.length ∧ cs.length ≤ 6 ∧
  μ p = some (.lst (rows.map kindD)) ∧ p ≠ m ∧ p ≠ dg ∧ rows.length ≤ 6 ∧ (∀ k ∈ rows, GoodKind cs k) ∧ (∀ k ∈ rows, AscKind k) ∧ ∀ ls μ', GoodLamps cs ls → MOk m dg rest (n + 30) μ' → Fr m dg μ μ' → Q (.tup (ls.map lampD)) μ'
def P__law_fleet : DP := fun ds μ Q => ∃ (m dg : Addr) (cs ks : List Str) (n : Nat), ds = [.obj m] ∧ MOk m dg (restD cs ks) n μ ∧ n < 2^27 ∧ cs.length = 6 ∧ ks.length = 6 ∧ (∀ s ∈ cs, Asc s) ∧ (∀ s ∈ ks, Asc s) ∧
  ∀ f μ', GoodFleet cs ks f → MOk m dg (restD cs ks) (n + 300) μ' → Fr m dg μ μ' → Q (fleetD f) μ'
def shows (b : Int) (l : Lamp) : Bool := decide ((b - l.2.1) % 32 ≤ (l.2.2 - l.2.1) % 32)
/-- a kind's column at a bearing -/
def colOf (ls : List Lamp) (b : Int) : List Str := (ls.filter (shows b)).map (·.1)
def columnOf (f : Flt) (k : Str) (c s : Int) : List Str := (f.2.map fun x => if x.1 = k then colOf x.2.2 ((s - c) % 32) else []).flatten
def P__law_column : DP := fun ds μ Q => ∃ (f : Flt) (k : Str) (c s : Int), ds = [fleetD f, .tup [.str k, .int c], .int s] ∧ (∀ x ∈ f.2, x.2.2.length ≤ 6) ∧ f.2.length ≤ 6 ∧ Q (.tup ((columnOf f k c s).map .str)) μ
def P__law_sights : DP := fun ds μ Q => ∃ (m dg : Addr) (cs ks : List Str) (rest : List (Key × D)) (n : Nat) (f : Flt) (j : Int), ds = [.obj m, fleetD f, .int j] ∧ MOk m dg rest n μ ∧ n < 2^26 ∧ GoodFleet cs ks f ∧ ks.Nodup ∧ (∀ s ∈ f.1, Asc s) ∧ 0 ≤ j ∧ j ≤ 60 ∧
  ∀ (ss : List Sight) (μ' : Mu), ss.length ≤ j.toNat → (∀ s ∈ ss, GoodSight f.1 s) → MOk m dg rest (n + 2000) μ' → Fr m dg μ μ' → Q (.lst (ss.map sightD)) μ'
def P__law_begun : DP := fun ds μ Q => ∃ ns : List Int, ds = [.scr (ns.map .int)] ∧ ns.length ≤ 63 ∧ ∀ m dg cs ks μ', μ m = none → μ dg = none → GoodNames cs → GoodNames ks → MOk m dg (restD cs ks) 10 μ' → Fr m dg μ μ' → Q (.obj m) μ'
/-- a word of a row: a text or a number -/
abbrev Word := Sum Str Int
def wordD : Word → D
  | .inl s => .str s
  | .inr i => .int i
def wText : Word → Str
  | .inl s => s
  | .inr i => toString i
def rowOf (ws : List Word) : Str := Txt.join " " (ws.map wText)
def WordOk : Word → Prop
  | .inl s => s.length ≤ 100
  | .inr i => 0 ≤ i ∧ i < 1000000
def P__law_row : DP := fun ds μ Q => ∃ (x : D) (ws : List Word), ds = [x] ∧ SeqD μ x (ws.map wordD) ∧ ws.length ≤ 100 ∧ (∀ w ∈ ws, WordOk w) ∧ Q (.str (rowOf ws)) μ
def sightWords (s : Sight) : List Word := .inl "sight" :: .inr s.1 :: .inr s.2.1 :: s.2.2.map .inl
def lampWords (l : Lamp) : List Word := [.inl "lamp", .inl l.1, .inr l.2.1, .inr l.2.2]
def kindWords (k : Kind) : List Word := [.inl "kind", .inl k.1, .inr k.2.1]
def colourWords (cs : List Str) : List Word := .inl "colours" :: cs.map .inl
def ShortSight (s : Sight) : Prop := (0 ≤ s.1 ∧ s.1 < 1000000) ∧ (0 ≤ s.2.1 ∧ s.2.1 < 1000000) ∧ s.2.2.length ≤ 90 ∧ ∀ c ∈ s.2.2, c.length ≤ 100
def P__law_sight_row : DP := fun ds μ Q => ∃ s : Sight, ds = [sightD s] ∧ ShortSight s ∧ Q (.str (rowOf (sightWords s))) μ
def kindLines (k : Kind) : List Str := rowOf (kindWords k) :: k.2.2.map fun l => rowOf (lampWords l)
def headLines (f : Flt) : List Str := rowOf (colourWords f.1) :: (f.2.map kindLines).flatten
def linesOf (f : Flt) (ss : List Sight) : List Str := headLines f ++ ss.map fun s => rowOf (sightWords s)
structure ShortFleet (f : Flt) : Prop where
  c : f.1.length ≤ 90
  cl : ∀ c ∈ f.1, c.length ≤ 100
  k : f.2.length ≤ 90
  kl : ∀ k ∈ f.2, k.1.length ≤ 100 ∧ (0 ≤ k.2.1 ∧ k.2.1 < 1000000) ∧ k.2.2.length ≤ 90 ∧ ∀ l ∈ k.2.2, l.1.length ≤ 100 ∧ (0 ≤ l.2.1 ∧ l.2.1 < 1000000) ∧ (0 ≤ l.2.2 ∧ l.2.2 < 1000000)
def P__law_lines : DP := fun ds μ Q => ∃ (f : Flt) (ss : List Sight), ds = [fleetD f, .lst (ss.map sightD)] ∧ ShortFleet f ∧ ss.length ≤ 1000 ∧ (∀ s ∈ ss, ShortSight s) ∧ Q (.lst ((linesOf f ss).map .str)) μ
/-! the program's: rows by their words, the draft -/
def ShortW (ws : List Str) : Prop := ws.length ≤ 200000 ∧ ∀ w ∈ ws, w.length ≤ 1000000
def letters : Str := "abcdefghijklmnopqrstuvwxyz"
def isNameB (s : Str) : Bool := !bars.any (· == s) && ((decide (1 ≤ s.length) && decide (s.length ≤ 6)) && s.cps.toList.all fun c => decide (c ∈ letters.cps.toList))
def numOf (w : Str) (m : Nat) : Option Nat := (List.range (m + 1)).find? fun n => decide (w = Str.ofString (toString (n : Int)))
def numD : Option Nat → D
  | some n => .int n
  | none => .non
def coloursOf (ws : List Str) : Option (List Str) := if (1 ≤ (ws.drop 1).length ∧ (ws.drop 1).length ≤ 6) ∧ (ws.drop 1).Nodup ∧ (ws.drop 1).all isNameB = true then some (ws.drop 1) else none
def coloursD : Option (List Str) → D
  | some ns => .tup (ns.map .str)
  | none => .non
def kindOf : List Str → Option (Str × Nat)
  | [_, k, t] => if isNameB k = true then (numOf t 16).map fun n => (k, n) else none
  | _ => none
def pairD : Option (Str × Nat) → D
  | some p => .tup [.str p.1, .int p.2]
  | none => .non
def lampOf (cs : List Str) : List Str → Option Lamp
  | [_, c, a, b] => if c ∈ cs then (match numOf a 31, numOf b 31 with
    | some x, some y => some (c, (x : Int), (y : Int))
    | _, _ => none) else none
  | _ => none
def lampOD : Option Lamp → D
  | some l => lampD l
  | none => .non
def sightOf (cs : List Str) : List Str → Option Sight
  | _ :: m :: s :: col => if col.length ≤ 6 then (match numOf m 99, numOf s 31 with
    | some x, some y => if col.all (fun c => decide (c ∈ cs)) = true then some ((x : Int), (y : Int), col) else none
    | _, _ => none) else none
  | _ => none
def sightOD : Option Sight → D
  | some l => sightD l
  | none => .non
def wordsOf (line : Str) : List Str := (Txt.split ((Txt.split line "#").headD Str.empty) " ").filter fun w => !w.cps.toList.isEmpty
def P_is_name : DP := fun ds μ Q => ∃ s : Str, ds = [.str s] ∧ s.length ≤ 1000000 ∧ Q (.bl (isNameB s)) μ
def P_number_of : DP := fun ds μ Q => ∃ (w : Str) (m : Int), ds = [.str w, .int m] ∧ 0 ≤ m ∧ m ≤ 1000 ∧ Q (numD (numOf w m.toNat)) μ
def P_colours_of : DP := fun ds μ Q => ∃ ws : List Str, ds = [.lst (ws.map .str)] ∧ ShortW ws ∧ Q (coloursD (coloursOf ws)) μ
def P_kind_of : DP := fun ds μ Q => ∃ ws : List Str, ds = [.lst (ws.map .str)] ∧ ShortW ws ∧ Q (pairD (kindOf ws)) μ
def P_lamp_of : DP := fun ds μ Q => ∃ ws cs : List Str, ds = [.lst (ws.map .str), .tup (cs.map .str)] ∧ ShortW ws ∧ Q (lampOD (lampOf cs ws)) μ
def P_sight_of : DP := fun ds μ Q => ∃ ws cs : List Str, ds = [.lst (ws.map .str), .tup (cs.map .str)] ∧ ShortW ws ∧ Q (sightOD (sightOf cs ws)) μ
def P_words_of : DP := fun ds μ Q => ∃ s : Str, ds = [.str s] ∧ s.length ≤ 100000 ∧ Q (.lst ((wordsOf s).map .str)) μ
/-- what the rows have told so far -/
structure Dr where
  cs : List Str
  ks : List Kind
  ss : List Sight
def lacksB (d : Dr) : Bool := match d.ks.getLast? with
  | none => true
  | some k => k.2.2.isEmpty
def mayB (d : Dr) : Bool := !d.cs.isEmpty && (d.ss.isEmpty && (d.ks.isEmpty || (!lacksB d && decide (d.ks.length < 6))))
def takeC (d : Dr) (ws : List Str) : Option Dr := match coloursOf ws with
  | some ns => if d.cs = [] then some { d with cs := ns } else none
  | none => none
def takeK (d : Dr) (ws : List Str) : Option Dr := match kindOf ws with
  | some p => if mayB d = true ∧ p.1 ∉ d.ks.map (·.1) then some { d with ks := d.ks ++ [(p.1, (p.2 : Int), [])] } else none
  | none => none
def addLamp (l : Lamp) (k : Kind) : Kind := (k.1, k.2.1, k.2.2 ++ [l])
def takeL (d : Dr) (ws : List Str) : Option Dr := match lampOf d.cs ws with
  | some l => match d.ks.getLast? with
    | some k => if d.ss = [] ∧ k.2.2.length ≠ 6 then some { d with ks := d.ks.dropLast ++ [addLamp l k] } else none
    | none => none
  | none => none
def takeS (d : Dr) (ws : List Str) : Option Dr := match sightOf d.cs ws with
  | some s => if lacksB d = false ∧ d.ss.length ≠ 60 then some { d with ss := d.ss ++ [s] } else none
  | none => none
def takeM (d : Dr) (ws : List Str) : Option Dr := match ws with
  | [] => none
  | w :: _ => if w = "colours" then takeC d ws else if w = "kind" then takeK d ws else if w = "lamp" then takeL d ws else if w = "sight" then takeS d ws else none
structure DrOk (d : Dr) : Prop where
  c : d.cs.length ≤ 6
  k : d.ks.length ≤ 6
  l : ∀ k ∈ d.ks, k.2.2.length ≤ 6
  s : d.ss.length ≤ 60
def kindsAt (ks : List Kind) (las : List Addr) : List D := List.zipWith (fun (k : Kind) la => D.tup [.str k.1, .int k.2.1, .obj la]) ks las
structure DraftAt (Draft a kk ss : Addr) (las : List Addr) (d : Dr) (μ : Mu) : Prop where
  it : μ a = some (.ins Draft [("_colours", .tup (d.cs.map .str)), ("_kinds", .obj kk), ("_sights", .obj ss)])
  kinds : μ kk = some (.lst (kindsAt d.ks las))
  sights : μ ss = some (.lst (d.ss.map sightD))
  many : las.length = d.ks.length
  lamps : ∀ (i : Nat) (k : Kind) (la : Addr), d.ks[i]? = some k → las[i]? = some la → μ la = some (.lst (k.2.2.map lampD))
  apart : (kk :: ss :: las).Nodup
  ok : DrOk d
/-- what a step may change -/
structure Step (a kk ss : Addr) (las las' : List Addr) (μ μ' : Mu) : Prop where
  old : ∀ b m, b ≠ a → b ≠ kk → b ≠ ss → b ∉ las → μ b = some m → μ' b = some m
  new : ∀ la ∈ las', la ∈ las ∨ μ la = none
def TakeP (Draft : Addr) (f : Dr → List Str → Option Dr) : DP := fun ds μ Q => ∃ (a kk ss : Addr) (las : List Addr) (d : Dr) (ws : List Str), ds = [.obj a, .lst (ws.map .str)] ∧ ShortW ws ∧ ws ≠ [] ∧ DraftAt Draft a kk ss las d μ ∧
  (f d ws = none → Q (.bl false) μ) ∧ ∀ d' las' μ', f d ws = some d' → DraftAt Draft a kk ss las' d' μ' → Step a kk ss las las' μ μ' → Q (.bl true) μ'
def P_Draft___init__ (Draft : Addr) : DP := fun ds μ Q => ∃ a : Addr, ds = [.obj a] ∧ μ a = some (.ins Draft []) ∧ ∀ kk ss μ', μ kk = none → μ ss = none → kk ≠ ss → μ' = put (put (put μ kk (.lst [])) ss (.lst [])) a (.ins Draft [("_colours", .tup []), ("_kinds", .obj kk), ("_sights", .obj ss)]) → Q .non μ'
def P_Draft_lacks (Draft : Addr) : DP := fun ds μ Q => ∃ (a kk ss : Addr) (las : List Addr) (d : Dr), ds = [.obj a] ∧ DraftAt Draft a kk ss las d μ ∧ Q (.bl (lacksB d)) μ
def P_Draft__may_begin_kind (Draft : Addr) : DP := fun ds μ Q => ∃ (a kk ss : Addr) (las : List Addr) (d : Dr), ds = [.obj a] ∧ DraftAt Draft a kk ss las d μ ∧ Q (.bl (mayB d)) μ
def P_Draft__take_colours (Draft : Addr) : DP := TakeP Draft takeC
def P_Draft__take_kind (Draft : Addr) : DP := TakeP Draft takeK
def P_Draft__take_lamp (Draft : Addr) : DP := TakeP Draft takeL
def P_Draft__take_sight (Draft : Addr) : DP := TakeP Draft takeS
def P_Draft_take (Draft : Addr) : DP := TakeP Draft takeM
def P_Draft_told (Draft : Addr) : DP := fun ds μ Q => ∃ (a kk ss : Addr) (las : List Addr) (d : Dr), ds = [.obj a] ∧ DraftAt Draft a kk ss las d μ ∧ Q (.tup [fleetD (d.cs, d.ks), .lst (d.ss.map sightD)]) μ
/-! lines with one thing wrong -/
def oddFirst : List Str := ["colours", "colours a a", "colours A", "colours abcdefg", "colours kind", "colours a b c d e f g", "colours a1", "kind a 1", "lamp a 1 1", "sight 1 1", "Colours a", "colours a, b", "colour a", "colours a 1", "colours sight", "colours a lamp", "colours\ta", "colours a b a", "colours colours"]
def oddKind (k : Str) : List Str := ["kind", "kind zzq", "kind zzq 17", "kind zzq -1", "kind zzq 01", "kind zzq 1 1", "kind zzq x", "kind 1 1", "kind zzqzzqz 1", "kind Zq 1", "kind lamp 1", "kind " ++ k ++ " 1", "colours a", "kinds zzq 1", "kind zzq 1.0", "kind sight 2", "kind zzq 1_0", "kind zzq 100"]
def oddLamp (c : Str) : List Str := ["lamp", "lamp " ++ c, "lamp " ++ c ++ " 1", "lamp " ++ c ++ " 32 1", "lamp " ++ c ++ " 1 32", "lamp " ++ c ++ " -1 1", "lamp " ++ c ++ " 01 1", "lamp zzq 1 2", "lamp " ++ c ++ " x 2", "lamp 1 2 " ++ c, "lamp 1 2", "lamps " ++ c ++ " 1 2", "colours a", "lamp " ++ c ++ " 1 2 3", "lamp " ++ c ++ " 1 02", "lamp " ++ Txt.upper c ++ "Q 1 2", "Lamp " ++ c ++ " 1 2"]
def oddSight (c : Str) : List Str := ["sight", "sight 1", "sight 100 1", "sight 1 32", "sight -1 1", "sight 01 1", "sight 1 01", "sight 1 x", "sight 1 1 zzq", "sight 1 1 " ++ c ++ " zzq", "sight 1 1" ++ repS (" " ++ c) 7, "Sight 1 1", "sight " ++ c ++ " 1 1", "sights 1 1", "1 1 " ++ c, "sight 1 1	", "# 	", "colours a", "kind zzqzzq 1", "lamp " ++ c ++ " 1 2", "sight 1 1 " ++ c ++ ",", "sight 1, 1", "look 1", "sight 1 1 1", "sight 1.0 1", "sight 1 1 dark1"]
/-- a text drawn from a row of texts -/
def OddP (args : List D) (row : List Str) (m dg : Addr) (n : Nat) : DP := fun ds μ Q => ∃ rest, ds = .obj m :: args ∧ MOk m dg rest n μ ∧ n < 2^29 ∧ ∀ l μ', l ∈ row → MOk m dg rest (n + 1) μ' → Fr m dg μ μ' → Q (.str l) μ'
def P__law_odd_first : DP := fun ds μ Q => ∃ m dg n, OddP [] oddFirst m dg n ds μ Q
def P__law_odd_kind : DP := fun ds μ Q => ∃ m dg n k, k.length ≤ 100 ∧ OddP [.str k] (oddKind k) m dg n ds μ Q
def P__law_odd_lamp : DP := fun ds μ Q => ∃ m dg n c, IsName c ∧ OddP [.str c] (oddLamp c) m dg n ds μ Q
def P__law_odd_sight : DP := fun ds μ Q => ∃ m dg n c, IsName c ∧ OddP [.str c] (oddSight c) m dg n ds μ Q
/-! whole texts, line by line -/
/-- a line is taken -/
def lineM (d : Dr) (line : Str) : Option Dr := if 9 ∈ TL.tl line then none else if wordsOf line = [] then some d else takeM d (wordsOf line)
def runM : Dr → List Str → Option Dr
  | d, [] => some d
  | d, l :: r => match lineM d l with
    | none => none
    | some d' => runM d' r
def dr0 : Dr := ⟨[], [], []⟩
/-- a good text -/
structure TextOk (f : Flt) (ss : List Sight) : Prop where
  c1 : 1 ≤ f.1.length
  c6 : f.1.length ≤ 6
  cd : f.1.Nodup
  cn : ∀ c ∈ f.1, IsName c
  k1 : 1 ≤ f.2.length
  k6 : f.2.length ≤ 6
  kd : (f.2.map (·.1)).Nodup
  kn : ∀ k ∈ f.2, IsName k.1
  kg : ∀ k ∈ f.2, GoodKind f.1 k
  sg : ∀ s ∈ ss, GoodSight f.1 s
  s6 : ss.length ≤ 60
structure LinesOk (n : Nat) (ls : List Str) : Prop where
  few : ls.length ≤ n
  ok : ∀ l ∈ ls, l.length ≤ 100 ∧ 10 ∉ TL.tl l
/-- the line that is due is the first that is none -/
def BadAt (ls : List Str) (due : Nat) : Prop := ∃ pre l post d, ls = pre ++ l :: post ∧ pre.length + 1 = due ∧ runM dr0 pre = some d ∧ lineM d l = none
def Lacking (ls : List Str) : Prop := ∃ d, runM dr0 ls = some d ∧ lacksB d = true
def Spoilt (ls : List Str) (due : Nat) : Prop := LinesOk 105 ls ∧ ((due = 0 ∧ Lacking ls) ∨ BadAt ls due)
def lDueD (ls : List Str) (due : Int) : D := .tup [.lst (ls.map .str), .int due]
/-- one line told further down, what is put between saying nothing -/
def Padded (ls : List Str) (due : Nat) (found : List Str) (place : Nat) : Prop := (∀ d, runM d found = runM d ls) ∧ ∀ pre l post, ls = pre ++ l :: post → pre.length + 1 = due → ∃ f1 f2, found = f1 ++ l :: f2 ∧ f1.length + 1 = place ∧ ∀ d, runM d f1 = runM d pre
/-- a text that one thing is spoilt of -/
def SpoilP (j : Nat) (extra : List D) (m dg : Addr) (rest : List (Key × D)) (n : Nat) (f : Flt) (ss : List Sight) : DP := fun ds μ Q => ds = .obj m :: fleetD f :: .lst ((linesOf f ss).map .str) :: extra ∧ MOk m dg rest n μ ∧ n + j < 2^28 ∧ TextOk f ss ∧ Str.ofString "zzq" ∉ f.1 ∧ ss.length ≤ 14 ∧
  ∀ ls due μ', Spoilt ls due → MOk m dg rest (n + j) μ' → Fr m dg μ μ' → Q (lDueD ls due) μ'
def P__law_many : DP := fun ds μ Q => ∃ m dg rest n f ss, SpoilP 5 [.int ((headLines f).length : Nat)] m dg rest n f ss ds μ Q
def P__law_spoilt : DP := fun ds μ Q => ∃ m dg rest n f ss, SpoilP 10 [] m dg rest n f ss ds μ Q
def P__law_spread : DP := fun ds μ Q => ∃ (m dg : Addr) (rest : List (Key × D)) (n : Nat) (ls : List Str) (due : Nat), ds = [.obj m, .lst (ls.map .str), .int due] ∧ MOk m dg rest n μ ∧ n < 2^28 ∧ LinesOk 107 ls ∧ due ≤ ls.length ∧
  ∀ found place μ', ((due = 0 ∧ found = ls ∧ place = max 1 ls.length + 1) ∨ (due ≠ 0 ∧ Padded ls due found place)) → LinesOk 321 found → MOk m dg rest (n + 400) μ' → Fr m dg μ μ' → Q (lDueD found (place : Nat)) μ'
def goM : Nat → Dr → List Str → Sum Nat Dr
  | n, d, [] => if lacksB d = true then .inl n else .inr d
  | n, d, line :: r => match lineM d line with
    | none => .inl n
    | some d' => goM (n + 1) d' r
def readM (s : Str) : Sum Nat Dr := goM 1 ⟨[], [], []⟩ (Txt.split s "\n")
def P__law_refused : DP := fun ds μ Q => (∃ x n, ds = [x] ∧ TyD μ x (.type n) ∧ n ∈ ["NoneType", "int", "list", "bool", "tuple", "dict"] ∧ Q (.lst [.int 0]) μ) ∨
  ∃ s : Str, ds = [.str s] ∧ s.length ≤ 90000 ∧ match readM s with
    | .inl n => Q (.lst [.int (n : Int)]) μ
    | .inr _ => Q .non μ
def P_law : DP := fun ds μ Q => ∃ ns : List Int, ds = [.scr (ns.map .int)] ∧ ns.length ≤ 63 ∧ Q (.bl true) μ
end DL
set_option Elab.async false
set_option linter.all false
set_option maxRecDepth 100000
set_option maxHeartbeats 4000001
/-! What repr may be asked of: data of bounded bulk. -/
namespace DL
open PySem L2 PyProof.Rows
structure SmP (p : PyData) (b d : Nat) : Prop where
  sh : p.showable = true
  nd : p.hasDict = false
  lv : p.leavesShort 13 = true
  bk : p.bulk ≤ b
  dp : p.depth ≤ d
theorem SmP.up {p : PyData} {b d b2 d2 : Nat} (h : SmP p b d) (e1 : b ≤ b2) (e2 : d ≤ d2) : SmP p b2 d2 := ⟨h.sh, h.nd, h.lv, Nat.le_trans h.bk e1, Nat.le_trans h.dp e2⟩
theorem SmP.str {s : Str} {b : Nat} (h : s.length ≤ b) (a : Asc s) : SmP (.str s) b 0 := ⟨by simp only [PyData.showable], by simp only [PyData.hasDict], by
  simp only [PyData.leavesShort, List.all_eq_true, decide_eq_true_eq]
  intro c hc
  exact Nat.lt_trans (a c hc) (by decide), by simp only [PyData.bulk]; exact h, by simp only [PyData.depth]; exact Nat.le_refl _⟩
theorem SmP.int {i : Int} (h : i.natAbs < 10 ^ 12) : SmP (.int i) 0 0 := ⟨by
  simp only [PyData.showable, decide_eq_true_eq]
  by_cases z : i.natAbs = 0
  · rw [z]; decide
  · exact (Nat.log2_lt z).mpr (Nat.lt_trans h (by decide +kernel)), by simp only [PyData.hasDict], by simp only [PyData.leavesShort, decide_eq_true_eq]; exact PyData.shown_int_le h, by simp only [PyData.bulk]; exact Nat.le_refl _, by simp only [PyData.depth]; exact Nat.le_refl _⟩
theorem smp_all {b d : Nat} : ∀ {ps : List PyData}, (∀ p ∈ ps, SmP p b d) → PyData.showableAll ps = true ∧ PyData.hasDictAll ps = false ∧ PyData.leavesShortAll 13 ps = true ∧ PyData.bulkAll ps ≤ ps.length * (b + 1) ∧ PyData.depthAll ps ≤ d
  | [], _ => ⟨by simp only [PyData.showableAll], by simp only [PyData.hasDictAll], by simp only [PyData.leavesShortAll], by simp only [PyData.bulkAll]; exact Nat.zero_le _, by simp only [PyData.depthAll]; exact Nat.zero_le _⟩
  | p :: ps, h => by
    obtain ⟨h1, h2, h3, h4, h5⟩ := smp_all (ps := ps) fun x hx => h x (List.mem_cons_of_mem _ hx)
    have g := h p List.mem_cons_self
    refine ⟨by simp only [PyData.showableAll, g.sh, h1, Bool.and_self], by simp only [PyData.hasDictAll, g.nd, h2, Bool.or_self], by simp only [PyData.leavesShortAll, g.lv, h3, Bool.and_self], ?_, ?_⟩
    · have := g.bk
      have e : (p :: ps).length * (b + 1) = ps.length * (b + 1) + (b + 1) := by rw [List.length_cons, Nat.succ_mul]
      simp only [PyData.bulkAll]
      omega
    · have := g.dp
      simp only [PyData.depthAll]
      omega
theorem SmP.list {ps : List PyData} {b d n : Nat} (h : ∀ p ∈ ps, SmP p b d) (hn : ps.length ≤ n) : SmP (.list ps) (n * (b + 1)) (d + 1) := by
  obtain ⟨h1, h2, h3, h4, h5⟩ := smp_all h
  exact ⟨by simp only [PyData.showable]; exact h1, by simp only [PyData.hasDict]; exact h2, by simp only [PyData.leavesShort]; exact h3, by simp only [PyData.bulk]; exact Nat.le_trans h4 (Nat.mul_le_mul_right _ hn), by simp only [PyData.depth]; omega⟩
theorem SmP.tuple {ps : List PyData} {b d n : Nat} (h : ∀ p ∈ ps, SmP p b d) (hn : ps.length ≤ n) : SmP (.tuple ps) (n * (b + 1)) (d + 1) := by
  obtain ⟨h1, h2, h3, h4, h5⟩ := smp_all h
  exact ⟨by simp only [PyData.showable]; exact h1, by simp only [PyData.hasDict]; exact h2, by simp only [PyData.leavesShort]; exact h3, by simp only [PyData.bulk]; exact Nat.le_trans h4 (Nat.mul_le_mul_right _ hn), by simp only [PyData.depth]; omega⟩
theorem repr_small {p : PyData} {b d : Nat} {x : D} {μ : Mu} {Q : DK} (e : pdM μ x = some p) (hd : isDisplay p = true) (s : SmP p b d) (hb : b ≤ 1000000) (hd2 : d ≤ 40) (q : Q (.str p.shown) μ) : dRepr [x] μ Q := by
  refine ⟨p, e, s.sh, s.nd, hd, Nat.le_trans s.dp hd2, ?_, q⟩
  have h := PyData.shown_le_bulk 13 (by decide) p s.lv
  have h2 := s.bk
  unfold sizeLine
  omega
end DL
set_option Elab.async false
set_option linter.all false
set_option maxRecDepth 100000
set_option maxHeartbeats 4000001
namespace DL
open PySem L2
/-! ### what the top has written, by the heap alone -/
structure FnF (K : PySem.W.Frag) (x qual : Str) (st : Stmt) : Prop where
  ex : ∃ (f : Addr) (oc : Value) (od : Option Addr) (kV doc pm : Value) (an : Option Addr) (cdv ct : Value) (osl : Array (Option Value)), PySem.W.nsIn K mainGlobals x = some (some (.ref f)) ∧
    K.lookup f = some ⟨oc, od, .func (PySem.W.fnOf x qual (defArgs st) (defBody st) (defScope st) .none kV doc pm an cdv ct), osl⟩ ∧ PySem.W.codeIn K cdv qual = true ∧ PySem.W.keepIn K (.ref f) = true
structure MtF (K : PySem.W.Frag) (C : Addr) (x qual : Str) (st : Stmt) : Prop where
  ex : ∃ (f : Addr) (oc : Value) (od : Option Addr) (kV doc pm : Value) (an : Option Addr) (cdv ct : Value) (osl : Array (Option Value)), PySem.W.findIn K (.ref C) x = some (some (.ref f)) ∧ PySem.W.isFn K (.ref f) = true ∧
    K.lookup f = some ⟨oc, od, .func (PySem.W.fnOf x qual (defArgs st) (defBody st) (defScope st) .none kV doc pm an cdv ct), osl⟩ ∧ PySem.W.codeIn K cdv qual = true ∧ PySem.W.keepIn K (.ref f) = true
section
variable {K : PySem.W.Frag} {mg : Str → Option Value} {h : Heap} {x qual : Str} {st : Stmt} {C : Addr} {ps : List Str}
abbrev BindOk (x qual : Str) (st : Stmt) (ps : List Str) : Prop := ∀ (kV doc pm : Value) (an : Option Addr) (cdv ct : Value) (us : List Value), us.length = ps.length → bindArgs (PySem.W.fnOf x qual (defArgs st) (defBody st) (defScope st) .none kV doc pm an cdv ct) ⟨us, []⟩ = pure (ps.zip us)
theorem FnF.here (F : FnF K x qual st) (X : K.In h) (G : h.Ns mainGlobals mg) (hb : BindOk x qual st ps) : Here K mg x qual st ps := by
  obtain ⟨f, oc, od, kV, doc, pm, an, cdv, ct, osl, a, l, c, k⟩ := F.ex
  have Fu := fun_mk l c k
  exact ⟨f, _, PySem.W.mg_of X G a, Fu, Fu.binds hb⟩
theorem MtF.here (F : MtF K C x qual st) (hb : BindOk x qual st ps) : HereM K C x qual st ps := by
  obtain ⟨f, oc, od, kV, doc, pm, an, cdv, ct, osl, a, i, l, c, k⟩ := F.ex
  have Fu := fun_mk l c k
  exact ⟨f, _, ⟨a, i, k⟩, Fu, Fu.binds hb⟩
theorem MtF.hereI {y : Str} (F : MtF K C "__init__" qual st) (X : K.In h) (G : h.Ns mainGlobals mg) (n : PySem.W.nsIn K mainGlobals y = some (some (.ref C))) (mk : PySem.W.makesIn K C = true) (kc : PySem.W.keepIn K (.ref C) = true) (hb : BindOk "__init__" qual st ps) : HereI K mg y C qual st ps := by
  obtain ⟨f, oc, od, kV, doc, pm, an, cdv, ct, osl, a, i, l, c, k⟩ := F.ex
  have Fu := fun_mk l c k
  exact ⟨PySem.W.mg_of X G n, f, _, ⟨mk, a, i, kc⟩, Fu, Fu.binds hb⟩
end
theorem bind1 {a : Str} {R : List Value → List (Str × Value) → Prop} (h : ∀ x, R [x] [(a, x)]) : ∀ us : List Value, us.length = ([a] : List Str).length → R us (([a] : List Str).zip us)
  | [x], _ => h x
section
variable {K : PySem.W.Frag} {x qual : Str} {st : Stmt} {C f : Addr} {oc : Value} {od : Option Addr} {kV doc pm : Value} {an : Option Addr} {cdv ct : Value} {osl : Array (Option Value)}
theorem fnF (a : PySem.W.nsIn K mainGlobals x = some (some (.ref f))) (l : K.lookup f = some ⟨oc, od, .func (PySem.W.fnOf x qual (defArgs st) (defBody st) (defScope st) .none kV doc pm an cdv ct), osl⟩) (c : PySem.W.codeIn K cdv qual = true) (k : PySem.W.keepIn K (.ref f) = true) : FnF K x qual st := ⟨⟨_, _, _, _, _, _, _, _, _, _, a, l, c, k⟩⟩
theorem mtF (a : PySem.W.findIn K (.ref C) x = some (some (.ref f))) (i : PySem.W.isFn K (.ref f) = true) (l : K.lookup f = some ⟨oc, od, .func (PySem.W.fnOf x qual (defArgs st) (defBody st) (defScope st) .none kV doc pm an cdv ct), osl⟩) (c : PySem.W.codeIn K cdv qual = true) (k : PySem.W.keepIn K (.ref f) = true) : MtF K C x qual st := ⟨⟨_, _, _, _, _, _, _, _, _, _, a, i, l, c, k⟩⟩
theorem intF {i : Int} {t : Tok} (a : PySem.W.nsIn K mainGlobals x = some (some (.int i t))) : ∃ t, PySem.W.nsIn K mainGlobals x = some (some (.int i t)) := ⟨t, a⟩
theorem strF {i : Str} {t : Tok} (a : PySem.W.nsIn K mainGlobals x = some (some (.str i t))) : ∃ t, PySem.W.nsIn K mainGlobals x = some (some (.str i t)) := ⟨t, a⟩
theorem tupF {a : Addr} {od : Option Addr} {its : Array Value} {n : Nat} {sl : Array (Option Value)} {ts : List Str} (h : PySem.W.nsIn K mainGlobals x = some (some (.ref a))) (l : K.lookup a = some ⟨.type "tuple", od, .seq its n, sl⟩) (hs : its.size ≤ sizeLine) (hv : Vals (ts.map V.str) its.toList) : PySem.W.nsIn K mainGlobals x = some (some (.ref a)) ∧ ∀ G, Rp K G (.tup (ts.map .str)) (.ref a) :=
  ⟨h, fun G => ⟨a, ts.map V.str, rfl, .inr ⟨_, its, n, l, rfl, rfl, hs, hv⟩, rpl_strs ts⟩⟩
theorem excF {B : Addr} {nm q : Str} {N : Addr} {bs bm : List Value} {sn : List Str} {sub : List Value} {ab : Bool} {col : Option Bool} {dd : Option Addr} {k0 k1 k2 k3 k5 : Option Value} (l : K.lookup B = some (PySem.excClassObj nm q B N bs bm true sn sub ab col dd k0 k1 k2 k3 k5 "ValueError.__new__")) (r : PySem.HandSPX.refsVE bm = true) :
    ∃ nm q N bs bm sn sub ab col dd k0 k1 k2 k3 k5, K.lookup B = some (PySem.excClassObj nm q B N bs bm true sn sub ab col dd k0 k1 k2 k3 k5 "ValueError.__new__") ∧ PySem.HandSPX.refsVE bm = true := ⟨_, _, _, _, _, _, _, _, _, _, _, _, _, _, _, l, r⟩
end

/-! ### what an error of one of these classes is -/
def isaKs (K : PySem.W.Frag) (Bs : List Addr) (t u : Value) : Option Bool := match t with
  | .ref C => if C ∈ Bs then PySem.W.kitOne K t u else none
  | t => PySem.W.kitOne K t u
theorem isaKs_ok {K : PySem.W.Frag} {Bs : List Addr} (e : ∀ B ∈ Bs, ExcC K B) : IsaOk K (isaKs K Bs) where
  kit := fun t u b h => by
    unfold isaKs at h
    split at h
    · split at h
      · exact h
      · cases h
    · exact h
  exc := fun C u b h => by
    have h' : (if C ∈ Bs then PySem.W.kitOne K (.ref C) u else none) = some b := h
    split at h'
    · rename_i z; exact e C z
    · cases h'
theorem isaKs_in {K : PySem.W.Frag} {Bs : List Addr} {B : Addr} {u : Value} (h : B ∈ Bs) : isaKs K Bs (.ref B) u = PySem.W.kitOne K (.ref B) u := if_pos h
theorem all2 {α β : Type} {xs : List α} {ys : List β} {p : α → β → Bool} (h : (xs.all fun x => ys.all fun y => p x y) = true) : ∀ x ∈ xs, ∀ y ∈ ys, p x y = true := fun x hx y hy => List.all_eq_true.mp (List.all_eq_true.mp h x hx) y hy
/-! ### a def that holds lambdas: its code object and the table of its -/
structure LmF (K : PySem.W.Frag) (x qual : Str) (st : Stmt) (c Pa : Addr) : Prop where
  ex : ∃ (f : Addr) (oc : Value) (od : Option Addr) (kV doc pm : Value) (an : Option Addr) (ct : Value) (osl : Array (Option Value)) (o2 : Value) (d2 : Option Addr) (vs : Array Value) (s2 : Array (Option Value)), PySem.W.nsIn K mainGlobals x = some (some (.ref f)) ∧
    K.lookup f = some ⟨oc, od, .func (PySem.W.fnOf x qual (defArgs st) (defBody st) (defScope st) .none kV doc pm an (.ref c) ct), osl⟩ ∧ PySem.W.codeIn K (.ref c) qual = true ∧ PySem.W.keepIn K (.ref f) = true ∧ K.lookup c = some ⟨o2, d2, .fields vs, s2⟩ ∧ (vs[11]? : Option Value) = some (.ref Pa)
theorem lmF {K : PySem.W.Frag} {x qual : Str} {st : Stmt} {c Pa f : Addr} {oc : Value} {od : Option Addr} {kV doc pm : Value} {an : Option Addr} {ct : Value} {osl : Array (Option Value)} {o2 : Value} {d2 : Option Addr} {vs : Array Value} {s2 : Array (Option Value)}
    (a : PySem.W.nsIn K mainGlobals x = some (some (.ref f))) (l : K.lookup f = some ⟨oc, od, .func (PySem.W.fnOf x qual (defArgs st) (defBody st) (defScope st) .none kV doc pm an (.ref c) ct), osl⟩) (e : PySem.W.codeIn K (.ref c) qual = true) (k : PySem.W.keepIn K (.ref f) = true)
    (l2 : K.lookup c = some ⟨o2, d2, .fields vs, s2⟩) (v : (vs[11]? : Option Value) = some (.ref Pa)) : LmF K x qual st c Pa := ⟨⟨_, _, _, _, _, _, _, _, _, _, _, _, _, a, l, e, k, l2, v⟩⟩
theorem LmF.tab {K : PySem.W.Frag} {x qual : Str} {st : Stmt} {c Pa : Addr} (F : LmF K x qual st c Pa) : PySem.W.tabIn K x = some (c, Pa) := by
  obtain ⟨f, oc, od, kV, doc, pm, an, ct, osl, o2, d2, vs, s2, a, l, e, k, l2, v⟩ := F.ex
  unfold PySem.W.tabIn
  simp only [a, l, PySem.W.fnOf, l2, v]
section
variable {P : Program} {w : World} {K : PySem.W.Frag} {mg : Str → Option Value} {base h : Heap}
theorem FnF.defG {x : Str} {st : Stmt} {N ps : List Str} {k : Nat} {PD : DP} {td : DS} (F : FnF K x x st) (X : K.In h) (G : h.Ns mainGlobals mg) (hb : BindOk x x st ps) (S : FnScope N ps (defScope st)) (len : ∀ ds μ Q, PD ds μ Q → ds.length = ps.length)
    (body : ∀ (f : Addr) (cdv : Value) (A : Around) (outer : List Env) (s : Shared) (H : Hp) (E : XK), A.guards = some [] → Room k (A.deeper (PyProof.Rows.envOfC x (defScope st) s.heap.objs.size f cdv)) → PSSD (cxOf CX0 P w K mg base N x (defScope st) f cdv A outer s H E).nox (defBody st) td)
    (rd : ∀ ds μ Q, PD ds μ Q → td { nx := fun _ μ' => GhQ Q .non μ', rt := GhQ Q } (startD N ds) μ) : DefG P w K mg base x (k + 1) ps PD := by
  obtain ⟨f, fd, h1, Fu, hbind⟩ := F.here X G hb
  exact ⟨f, fd, h1, Fu.kp, hbind, okG Fu S len (body f) rd⟩
theorem LmF.defG {x : Str} {st : Stmt} {c Pa : Addr} {N ps : List Str} {k : Nat} {PD : DP} {td : DS} (F : LmF K x x st c Pa) (X : K.In h) (G : h.Ns mainGlobals mg) (hb : BindOk x x st ps) (S : FnScope N ps (defScope st)) (len : ∀ ds μ Q, PD ds μ Q → ds.length = ps.length)
    (body : ∀ (f : Addr) (A : Around) (outer : List Env) (s : Shared) (H : Hp) (E : XK), A.guards = some [] → Room k (A.deeper (PyProof.Rows.envOfC x (defScope st) s.heap.objs.size f (.ref c))) → PSSD (cxOf CX0 P w K mg base N x (defScope st) f (.ref c) A outer s H E).nox (defBody st) td)
    (rd : ∀ ds μ Q, PD ds μ Q → td { nx := fun _ μ' => GhQ Q .non μ', rt := GhQ Q } (startD N ds) μ) : DefG P w K mg base x (k + 1) ps PD := by
  obtain ⟨f, oc, od, kV, doc, pm, an, ct, osl, o2, d2, vs, s2, a, lk, hcd, kp, _, _⟩ := F.ex
  have Fu : Fun K x x st f _ := fun_mk lk hcd kp
  have few : ∀ vs H Q E, spD K PD vs H Q E → vs.length = ps.length := fun vs H Q E ⟨G, F, μ, ds, Qd, r, hw, hp, kq⟩ => by rw [r.len]; exact len ds μ Qd hp
  refine ⟨f, _, PySem.W.mg_of X G a, kp, Fu.binds hb, few, fun A outer s H args us vs Q E calm hr e0 hbd r h => ?_⟩
  refine LamX.run_ofS lk hcd S hr e0 hbd r (few vs H Q E h) fun room => ?_
  obtain ⟨G, F, μ, ds, Qd, rr, hw, hp, kq⟩ := h
  have hs : RpS K G (startD N ds) (L2.start N vs) := by
    unfold startD L2.start
    rw [rr.len]
    exact RpS.start rr
  have kg := kq_gh kq
  have b := body f A outer s H E calm room
  exact ⟨_, b.ps.nox, b.rs (L2.start N vs) (startD N ds) G F μ H _ _ hs hw (rd ds μ Qd hp) ⟨fun σ' ds' G' μ' H' e _ w' q => kg .non .non G' μ' H' e w' rfl q, kg, fun σ' ds' G' μ' H' e _ w' q => q.elim, fun σ' ds' G' μ' H' e _ w' q => q.elim⟩⟩
end
section
variable {P : Program} {w : World} {K : PySem.W.Frag} {mg : Str → Option Value} {base : Heap}
theorem okDX {x qual : Str} {st : Stmt} {f : Addr} {fd : FuncData} {N ps : List Str} {k : Nat} {PD : DPX} {td : DSX} (h2 : Fun K x qual st f fd) (S : FnScope N ps (defScope st)) (len : ∀ ds μ Q E, PD ds μ Q E → ds.length = ps.length)
    (body : ∀ (cdv : Value) (A : Around) (outer : List Env) (s : Shared) (H : Hp) (E : XK), Room k (A.deeper (PyProof.Rows.envOfC qual (defScope st) s.heap.objs.size f cdv)) → PSSX (cxOf (L2.CX P w) P w K mg base N qual (defScope st) f cdv A outer s H E) (fun cls d _ H' => E cls d H') (defBody st) td)
    (rd : ∀ ds μ Q E, PD ds μ Q E → td (fun C fs _ μ' => GhE E C fs μ') { nx := fun _ μ' => GhQ Q .non μ', rt := GhQ Q } (startD N ds) μ) : FnOk P w K mg base (L2.CX P w) (k + 1) f fd ps (spDX K PD) := by
  refine h2.okX S (fun vs H Q E h => ?_) (fun cdv A outer s H vs Q E hr h => ⟨_, (body cdv A outer s H E hr).ps, ?_⟩)
  · obtain ⟨G, F, μ, ds, Qd, Ed, r, hw, hp, kq, ke⟩ := h
    exact r.len.trans (len ds μ Qd Ed hp)
  · obtain ⟨G, F, μ, ds, Qd, Ed, r, hw, hp, kq, ke⟩ := h
    have st0 : RpS K G (startD N ds) (L2.start N vs) := by
      unfold startD L2.start
      rw [r.len]
      exact RpS.start r
    have back := kq_gh kq
    exact (body cdv A outer s H E hr).rs (L2.start N vs) (startD N ds) G F μ H _ _ _ st0 hw (rd ds μ Qd Ed hp) ⟨fun σ2 ds2 G2 μ2 H2 e2 _ w2 q2 => back .non .non G2 μ2 H2 e2 w2 rfl q2, back, fun σ2 ds2 G2 μ2 H2 _ _ _ q2 => q2.elim, fun σ2 ds2 G2 μ2 H2 _ _ _ q2 => q2.elim⟩ fun C fs d σ2 ds2 G2 μ2 H2 e2 _ w2 dr q2 => q2.elim fun μ3 z => ke C fs d G2 μ3 H2 e2 (w2.sub z.1) dr z.2
theorem methAtX {m qual : Str} {C : Addr} {st : Stmt} {N ps : List Str} {k : Nat} {PD : DPX} {td : DSX} (Hh : HereM K C m qual st ps) (S : FnScope N ps (defScope st)) (len : ∀ ds μ Q E, PD ds μ Q E → ds.length = ps.length)
    (body : ∀ (f : Addr) (cdv : Value) (A : Around) (outer : List Env) (s : Shared) (H : Hp) (E : XK), Room k (A.deeper (PyProof.Rows.envOfC qual (defScope st) s.heap.objs.size f cdv)) → PSSX (cxOf (L2.CX P w) P w K mg base N qual (defScope st) f cdv A outer s H E) (fun cls d _ H' => E cls d H') (defBody st) td)
    (rd : ∀ ds μ Q E, PD ds μ Q E → td (fun C fs _ μ' => GhE E C fs μ') { nx := fun _ μ' => GhQ Q .non μ', rt := GhQ Q } (startD N ds) μ) : MethAtX P w K mg base C m (k + 1) ps PD := by
  obtain ⟨f, fd, h1, h2, h3⟩ := Hh
  exact ⟨f, fd, h1, h3, okDX h2 S len (body f) rd⟩
end
/-! ### the end -/
open PySem.Spec PyProof.Rows in
theorem walkH {l : PySem.W.OpenLaw} {n k : Nat} {q : Program} {loose : List Str} {XP : (Str → Option Value) → Heap → Prop} {YP : World → Heap → Prop} {d : DefRec} {K : Params → PySem.W.Frag} {x : Str} (ys : List Str) (hys : (ys.all fun y => (recsOf q).any fun e => e.name == y) = true) (hn : l.most = some n) (hn2 : n ≤ sizeLine) (hdf : d.params.defaults = []) (hr : Room k callerA)
    (hY : ∀ (w : World) (h : Heap), YP w h → (K w.params).In h)
    (F : ∀ (w : World) (mg : Str → Option Value) (fa : Addr) (h : Heap), YP w h → (K w.params).In h → h.Ns mainGlobals mg → mg d.name = some (.ref fa) → (∀ y ∈ ys, ∀ c Pa, PySem.W.tabIn (K w.params) y = some (c, Pa) → PySem.W.CodeHd h c Pa ∧ h.get? Pa = some { cls := .none, data := .fields #[] }) → LawG l.prog w (K w.params) k n x mg fa h) :
    PySem.W.WalkO q loose XP YP l.row.toRowW d [] (fun f vs => PySem.call f vs) := by
  refine Att.attach_call hn hdf fun w s₀ t mg mb fa o pm cd doc a vs ns G Y ho hd hcd hmg hobj hints hlen hg => ?_
  have KX := hY w _ Y
  obtain ⟨fd, cs, sp, hT, nT, C, hb, hsp, hF⟩ := F w mg fa _ Y KX G.T.g hmg fun y hy c Pa ht => by
    have h1 := List.all_eq_true.mp hys y hy
    cases e : (recsOf q).find? (fun e => e.name == y) with
    | none =>
      obtain ⟨dL, hm, hn1⟩ := List.any_eq_true.mp h1
      exact absurd hn1 (List.find?_eq_none.mp e dL hm)
    | some dL => exact PySem.W.tab_of G.T KX e ht
  exact runs_law KX G.T.g G.T.b G.T.builtins G.T.nolimit hg hT nT C G.T.bmain hobj hints (Nat.le_trans hlen hn2) hr hF hb fun H hH hS => hsp H a ns hlen hH hS
def muT (T : List (Addr × Str)) : Mu := fun b => (T.lookup b).map MO.tbl
theorem tabs_muT {T : List (Addr × Str)} (nd : (T.map (·.1)).Nodup) : TabsAre T (muT T) := fun Pa q => by
  unfold muT
  induction T with
  | nil => exact ⟨(fun z => by cases z), (fun z => by cases z)⟩
  | cons p T ih =>
    obtain ⟨b, r⟩ := p
    rw [List.map_cons, List.nodup_cons] at nd
    rw [List.lookup_cons]
    by_cases e : Pa = b
    · subst e
      rw [beq_self_eq_true]
      constructor
      · intro z; cases z; exact .head _
      · intro z
        rcases List.mem_cons.mp z with z | z
        · cases z; rfl
        · exact absurd (List.mem_map.mpr ⟨_, z, rfl⟩) nd.1
    · rw [beq_eq_false_iff_ne.mpr e]
      constructor
      · intro z; exact .tail _ ((ih nd.2).mp z)
      · intro z
        rcases List.mem_cons.mp z with z | z
        · cases z; exact absurd rfl e
        · exact (ih nd.2).mpr z
open Classical in
theorem startT {K : PySem.W.Frag} {H : Hp} {a : Addr} {ns : List Int} {T : List (Addr × Str)} {PD : DP} (nd : (T.map (·.1)).Nodup) (hH : ∀ p ∈ T, H p.1 = some (.tbl #[])) (h3 : SqL K H a (ns.map V.int))
    (hP : ∀ Q : DK, Q (.bl true) (muT T) → PD [.scr (ns.map .int)] (muT T) Q) : spD K PD [.ref a] H (fun v _ => v = .bl true) fun _ _ _ => False := by
  let G : Hp := fun b => if (∃ ps, H b = some (.tbl ps)) then none else H b
  have g1 : ∀ b o, H b = some o → (∀ ps, o ≠ .tbl ps) → G b = some o := fun b o e n => (if_neg (fun ⟨ps, z⟩ => by rw [e] at z; exact n ps (Option.some.inj z))).trans e
  have sq : SqL K G a (ns.map V.int) := by
    rcases h3 with (z | ⟨o, z⟩) | z
    · exact .inl (.inl (g1 _ _ z fun _ e => by cases e))
    · exact .inl (.inr ⟨o, g1 _ _ z fun _ e => by cases e⟩)
    · exact .inr z
  refine ⟨G, fun _ => none, muT T, [.scr (ns.map .int)], fun d _ => d = .bl true, ⟨.ref a, [], rfl, ⟨a, ns.map V.int, rfl, sq, rpl_ints ns⟩, rfl⟩, ⟨fun b o e => ?_, (fun _ _ h => by cases h), fun b m e => ?_, fun b o e ps z => ?_, fun _ _ h => by cases h⟩, hP _ rfl, fun v d G' μ' H' e w r q => by subst q; exact r⟩
  · have e' : (if (∃ ps, H b = some (.tbl ps)) then none else H b) = some o := e
    split at e'
    · cases e'
    · exact e'
  · have e' : (T.lookup b).map MO.tbl = some m := e
    cases el : T.lookup b with
    | none => rw [el] at e'; cases e'
    | some q =>
      rw [el] at e'
      cases e'
      have mem : (b, q) ∈ T := (tabs_muT nd b q).mp (by unfold muT; rw [el]; rfl)
      have hb := hH _ mem
      exact ⟨_, hb, ⟨#[], rfl, by simp [TriplesOk], fun pos cv hc => by simp [codeAmong] at hc⟩, if_pos ⟨_, hb⟩⟩
  · have e' : (if (∃ ps, H b = some (.tbl ps)) then none else H b) = some o := e
    subst z
    split at e'
    · cases e'
    · rename_i h
      exact h ⟨_, e'⟩
end DL
set_option Elab.async false
set_option linter.all false
set_option maxRecDepth 100000
set_option maxHeartbeats 4000001
/-! Bits, a tuple told several times, a list the other way about, name += number; a try within a def that lets nothing out. -/
namespace DL
open PySem L2
def dAddI : D → D → Mu → DK → Prop
  | .int i, .int j, μ, Q => Q (.int (i + j)) μ
  | _, _, _, _ => False
def dShl : D → D → Mu → DK → Prop
  | .int i, .int j, μ, Q => i = 1 ∧ 0 ≤ j ∧ j ≤ 1000 ∧ Q (.int (2 ^ j.toNat)) μ
  | _, _, _, _ => False
def dShr : D → D → Mu → DK → Prop
  | .int i, .int j, μ, Q => 0 ≤ j ∧ Q (.int (i / 2 ^ j.toNat)) μ
  | _, _, _, _ => False
/-- n & 1 -/
def dOdd : D → D → Mu → DK → Prop
  | .int i, .int j, μ, Q => 0 ≤ i ∧ j = 1 ∧ Q (.int (i % 2)) μ
  | _, _, _, _ => False
section
variable {K : PySem.W.Frag}
theorem rr_shl : RR2 K (fun x y H Q => ∃ k : Nat, x = .int 1 ∧ y = .int (k : Int) ∧ k ≤ 134217727 ∧ Q (.int (2 ^ k)) H) dShl := fun x y dx dy G F μ H Qd Q rx ry w h kq => by
  unfold dShl at h
  split at h
  · obtain ⟨rfl, h1, h2, h3⟩ := h
    rename_i j
    have ry' : y = V.int j := ry
    refine ⟨j.toNat, rx, by rw [ry']; congr 1; omega, by omega, kq.here w (d := .int _) rfl h3⟩
  · exact h.elim
theorem rr_shr : RR2 K (rI (fun _ j => 0 ≤ j) fun i j => .int (i / 2 ^ j.toNat)) dShr := fun x y dx dy G F μ H Qd Q rx ry w h kq => by
  unfold dShr at h
  split at h
  · exact ⟨_, _, rx, ry, h.1, kq.here w (d := .int _) rfl h.2⟩
  · exact h.elim
theorem rr_odd : RR2 K (fun x y H Q => ∃ n : Nat, x = .int (n : Int) ∧ y = .int 1 ∧ Q (.int ((n % 2 : Nat) : Int)) H) dOdd := fun x y dx dy G F μ H Qd Q rx ry w h kq => by
  unfold dOdd at h
  split at h
  · obtain ⟨h1, rfl, h3⟩ := h
    rename_i i
    have rx' : x = V.int i := rx
    refine ⟨i.toNat, by rw [rx']; congr 1; omega, ry, ?_⟩
    have e : ((i.toNat % 2 : Nat) : Int) = i % 2 := by omega
    rw [e]
    exact kq.here w (d := .int _) rfl h3
  · exact h.elim
/-- a tuple told several times -/
def dMulT : D → D → Mu → DK → Prop
  | .tup xs, .int k, μ, Q => xs ≠ [] ∧ 2 ≤ k ∧ k ≤ 1000 ∧ xs.length ≤ 1000 ∧ Q (.tup (List.replicate k.toNat xs).flatten) μ
  | _, _, _, _ => False
theorem rr_mulT : RR2 K (rRepT K) dMulT := fun x y dx dy G F μ H Qd Q rx ry w h kq => by
  unfold dMulT at h
  split at h
  · obtain ⟨h1, h2, h3, h4, h5⟩ := h
    obtain ⟨a, vs, rfl, hq, hr⟩ := rx
    have ry' : y = V.int _ := ry
    refine ⟨a, _, vs, rfl, ry', w.g.t hq, fun e => h1 ?_, h2, h3, by rw [hr.len]; exact h4, fun p hp => ?_⟩
    · have := hr.len
      rw [e] at this
      exact List.length_eq_zero_iff.mp this.symm
    · exact kq (.ref p) (.tup _) _ μ _ (Ex.new (w.noG hp)) (w.newG hp) ⟨p, _, rfl, SqT.of upd_same, RpL.mono (Ex.new (w.noG hp)) _ _ (rpl_rep hr _)⟩ h5
  · exact h.elim
/-- the other way about -/
def dReverse : D → List D → Mu → DK → Prop
  | .obj a, [], μ, Q => ∃ xs, μ a = some (.lst xs) ∧ Q .non (put μ a (.lst xs.reverse))
  | _, _, _, _ => False
theorem RpL.rev {G : Hp} : ∀ {ds : List D} {vs : List V}, RpL K G ds vs → RpL K G ds.reverse vs.reverse
  | [], _, h => by rw [h]; rfl
  | d :: ds, _, ⟨v, r, h1, h2, h3⟩ => by rw [h1, List.reverse_cons, List.reverse_cons]; exact (RpL.rev h3).app (RpL.one h2)
theorem rm_reverse : RRM K rReverse dReverse := fun x xs dx ds G F μ H Qd Q rx rs w h kq => by
  unfold dReverse at h
  split at h
  · have rx' : x = V.ref _ := rx
    obtain ⟨ys, hm, h⟩ := h
    obtain ⟨vs, h1, h2⟩ := w.lstM hm
    have rs' : xs = [] := rs
    exact ⟨_, vs, rx', rs', h1, kq _ .non G _ _ (Ex.refl G) (w.chgL hm h2.rev) rfl h⟩
  · exact h.elim
/-- a method of a list that may change, without arguments -/
def dBML0 (r : D → List D → Mu → DK → Prop) (to : TD) : TD := fun ds μ Q => to ds μ fun x μ1 => isLstM μ1 x ∧ r x [] μ1 Q
theorem re_bml0 {r : V → List V → Hp → VK → Prop} {dr : D → List D → Mu → DK → Prop} {to : TE} {dto : TD} (hr : RRM K r dr) (h1 : RE K to dto) : RE K (tBM0 K "list" r to) (dBML0 dr dto) :=
  fun σ ds G F μ H Qd Q hs hw h kq => h1 σ ds G F μ H _ _ hs hw h fun x dx G1 μ1 H1 e1 w1 rx q1 => by
    obtain ⟨q0, q1⟩ := q1
    refine ⟨?_, hr x [] dx [] G1 F μ1 H1 Qd Q rx rfl w1 q1 (kq.up e1)⟩
    cases dx with
    | obj a =>
      obtain ⟨xs, hm⟩ := q0
      obtain ⟨vs, h3, h4⟩ := w1.lstM hm
      have rx' : x = V.ref a := rx
      subst rx'
      exact .inl ⟨rfl, vs, SqL.of h3⟩
    | _ => exact False.elim q0
/-- name += number -/
def dAug (i : Nat) (r : D → D → Mu → DK → Prop) (te : TD) : DS := fun E ds μ => dVar i ds μ fun x _ => te ds μ fun y μ1 => r x y μ1 fun z μ2 => E.nx (ds.set i (some z)) μ2
theorem rs_aug {i : Nat} {r : R2} {dr : D → D → Mu → DK → Prop} {te : TE} {de : TD} (hr : RR2 K r dr) (h1 : RE K te de) : RS K (tAug i te r) (dAug i dr de) := fun σ ds G F μ H E D hs hw h k => by
  unfold dAug dVar at h
  split at h
  · rename_i d hd
    obtain ⟨v, e1, rv⟩ := RpS.get hs hd
    refine ⟨v, e1, h1 σ ds G F μ H _ _ hs hw h fun y dy G1 μ1 H1 e1 w1 ry q => hr v y d dy G1 F μ1 H1 _ _ (Rp.mono e1 _ _ rv) ry w1 q fun z dz G2 μ2 H2 e2 w2 rz q2 => ?_⟩
    exact k.nx _ _ G2 μ2 H2 (e1.trans e2) ((hs.mono (e1.trans e2)).set rz i) w2 q2
  · exact h.elim
end
section
variable {X : Cx} {a b o e : Expr} {da db dto de : TD} {pos : Pos}
theorem ed_shl (ha : PED X a da) (hb : PED X b db) : PED X (.BinOp a .LShift b pos) (dOp dShl da db) := ed_op op_oneShl rr_shl ha hb
theorem ed_shr (ha : PED X a da) (hb : PED X b db) : PED X (.BinOp a .RShift b pos) (dOp dShr da db) := ed_op op_shr rr_shr ha hb
theorem ed_odd (ha : PED X a da) (hb : PED X b db) : PED X (.BinOp a .BitAnd b pos) (dOp dOdd da db) := ed_op op_odd rr_odd ha hb
theorem ed_mulT (ha : PED X a da) (hb : PED X b db) : PED X (.BinOp a .Mult b pos) (dOp dMulT da db) := ed_op op_repT rr_mulT ha hb
theorem ed_reverse {apos : Pos} (ho : PED X o dto) (hbase : attributeBase o "reverse" X.env (eval o X.env) = eval o X.env := by rfl) (hline : (apos.endLine == pos.line) = true := by rfl) :
    PED X (.Call (.Attribute o "reverse" apos) [] [] pos) (dBML0 dReverse dto) := .mk' (pe_bm0 PySem.F.plainAttrs_list PySem.F.slot_list_reverse PySem.F.type_list_reverse mt_reverse ho.pe hbase hline) (re_bml0 rm_reverse ho.re)
theorem rr_ipadd {K : PySem.W.Frag} : RR2 K (ipI fun i j => i + j) dAddI := fun x y dx dy G F μ H Qd Q rx ry w h kq => by
  unfold dAddI at h
  split at h
  · exact ⟨_, _, rx, ry, kq.here w (d := .int _) rfl h⟩
  · exact h.elim
theorem sd_augI {i : Nat} {x : Str} {pos' : Pos} (hN : X.N.Nodup) (he : PED X e de) (hi : X.N[i]? = some x := by rfl) (hx : Loc X.env.scope x := by first | exact Or.inl rfl | exact Or.inr rfl) (hf : X.fn x = true ∨ X.env.scope.names.lookup x = some .local := by first | exact .inl rfl | exact .inr rfl | assumption) :
    PSD X (.AugAssign (.Name x pos') .Add e pos) (dAug i dAddI de) := .mk' (ps_aug hN hi hx he.pe ip_add hf) (rs_aug rr_ipadd he.re)
end
/-- a, b = x, y; a, b, c = x, y, z -/
def dPar (i j : Nat) (ta : TAd) : DS := fun E ds μ => ta ds μ fun xs μ1 => match xs with
  | [x, y] => E.nx ((ds.set i (some x)).set j (some y)) μ1
  | _ => False
def dPar3 (i j l : Nat) (ta : TAd) : DS := fun E ds μ => ta ds μ fun xs μ1 => match xs with
  | [x, y, z] => E.nx (((ds.set i (some x)).set j (some y)).set l (some z)) μ1
  | _ => False
section
variable {K : PySem.W.Frag}
theorem rs_par {i j : Nat} {ta : TA} {da : TAd} (h1 : RA K ta da) : RS K (tPar i j ta) (dPar i j da) := fun σ ds G F μ H E D hs hw h k =>
  h1 σ ds G F μ H _ _ hs hw h fun vs xs G1 μ1 H1 e1 w1 r q => by
    match xs, q with
    | [x, y], q =>
      obtain ⟨v, u, rfl, rv, ru⟩ := rpl2 r
      exact ⟨v, u, rfl, k.nx _ _ G1 μ1 H1 e1 (((hs.mono e1).set rv i).set ru j) w1 q⟩
theorem rs_par3 {i j l : Nat} {ta : TA} {da : TAd} (h1 : RA K ta da) : RS K (tPar3 i j l ta) (dPar3 i j l da) := fun σ ds G F μ H E D hs hw h k =>
  h1 σ ds G F μ H _ _ hs hw h fun vs xs G1 μ1 H1 e1 w1 r q => by
    match xs, q with
    | [x, y, z], q =>
      obtain ⟨v, rest, rfl, rv, rr⟩ := r
      obtain ⟨u, w, rfl, ru, rw'⟩ := rpl2 rr
      exact ⟨v, u, w, rfl, k.nx _ _ G1 μ1 H1 e1 ((((hs.mono e1).set rv i).set ru j).set rw' l) w1 q⟩
end
section
variable {X : Cx}
theorem sd_par (i j : Nat) {x y : Str} {a b : Expr} {da : TAd} {px py pt pos : Pos} {kt k2 pt2} (hc : X.calm = true) (hN : X.N.Nodup) (ha : PAD X [a, b] da) (hw : swappedStores [.Tuple [.Name x px, .Name y py] kt pt] (.Tuple [a, b] k2 pt2) X.env = pure (some [x, y]))
    (hi : X.N[i]? = some x := by rfl) (hj : X.N[j]? = some y := by rfl) (hij : i ≠ j := by decide) (hx : X.env.scope.names.lookup x = some .local := by rfl) (hy : X.env.scope.names.lookup y = some .local := by rfl)
    (hs : swapsWithSole [.Tuple [.Name x px, .Name y py] kt pt] (.Tuple [a, b] k2 pt2) pos.line X.env = pure false := by rfl) :
    PSD X (.Assign [.Tuple [.Name x px, .Name y py] kt pt] (.Tuple [a, b] k2 pt2) pos) (dPar i j da) := .mk' (ps_par hc hN hi hj hij hx hy ha.pe hw hs) (rs_par ha.re)
theorem sd_par3 (i j l : Nat) {x y z : Str} {a b c : Expr} {da : TAd} {px py pz pt pos : Pos} {kt k2 pt2} (hc : X.calm = true) (hN : X.N.Nodup) (ha : PAD X [a, b, c] da) (hw : swappedStores [.Tuple [.Name x px, .Name y py, .Name z pz] kt pt] (.Tuple [a, b, c] k2 pt2) X.env = pure (some [x, y, z]))
    (hi : X.N[i]? = some x := by rfl) (hj : X.N[j]? = some y := by rfl) (hl : X.N[l]? = some z := by rfl) (hij : i ≠ j := by decide) (hil : i ≠ l := by decide) (hjl : j ≠ l := by decide) (hx : X.env.scope.names.lookup x = some .local := by rfl) (hy : X.env.scope.names.lookup y = some .local := by rfl) (hz : X.env.scope.names.lookup z = some .local := by rfl)
    (hs : swapsWithSole [.Tuple [.Name x px, .Name y py, .Name z pz] kt pt] (.Tuple [a, b, c] k2 pt2) pos.line X.env = pure false := by rfl) :
    PSD X (.Assign [.Tuple [.Name x px, .Name y py, .Name z pz] kt pt] (.Tuple [a, b, c] k2 pt2) pos) (dPar3 i j l da) := .mk' (ps_par3 hc hN hi hj hl hij hil hjl hx hy hz ha.pe hw hs) (rs_par3 ha.re)
end
end DL
set_option Elab.async false
set_option linter.all false
set_option maxRecDepth 100000
set_option maxHeartbeats 4000001
/-! An exception that leaves a list comprehension. -/
namespace PySem
namespace HandSPX
/-- noted by another block's name already: noted anew -/
theorem looks_overZ {M : Model} {A : Around} {E : Value → Shared → Prop} {s : Shared} {Z : Obj → Prop} {base : Heap} {env : Env} {outer : List Env} {L e C : Addr} {Q : Unit → Shared → Prop} (hZ : Steady Z) (hCL : rawInt C ≠ rawInt L) (hfr : A.frames = some (env :: outer)) (hf : env.frame = some L) (hfl : HeldZ base (env :: outer) e Z C s.heap)
    (hQ : ∀ h', HeldZ base (env :: outer) e Z L h' → s.heap.UpToSlots h' → Q () { s with heap := h' }) : wpAny M A (noteFrame (.ref e) env) Q E s := by
  obtain ⟨hkb, hen, hl, oe, vs, T, oT, ts, he, hz, hd, h1, hnT, hTe, hT, hdT, h3⟩ := hfl
  unfold noteFrame
  simp only [hf]
  refine wpAny_bind (wpAny_field he hd h1 ?_)
  rw [if_pos (show (Value.ref T != Value.none) = true from by simp)]
  refine wpAny_bind (wpAny_field hT hdT h3 ?_)
  rw [if_neg (show ¬ ((rawInt C == rawInt L) = true) from by simpa using hCL)]
  refine wpAny_bind (wpAny_setField hT hdT (Array.getElem?_eq_some_iff.mp h3).1 ?_)
  have other : ∀ b, b ≠ T → (s.heap.update T (Obj.mapFields (·.setIfInBounds 3 Value.none))).get? b = s.heap.get? b := fun b hb => Heap.get?_update_other _ _ (Ne.symm hb)
  have noRecord : ∀ b o, s.heap.get? b = some o → (∀ vs, o.data ≠ .fields vs) → b ≠ T := fun b o hb hnf q => by
    rw [q, hT] at hb; injection hb with hb; subst hb; exact hnf ts hdT
  refine wpAny_entryZ hZ hfr (hl.of_keeps fun b o hb hnf => ⟨o, (other b (noRecord b o hb hnf)).trans hb, rfl⟩) hf ((other e (Ne.symm hTe)).trans he)
    (fun b o hbo => (other b fun q => by rw [q, hnT] at hbo; cases hbo).trans (hkb b o hbo)) hen hd (Array.getElem?_eq_some_iff.mp h1).1 hz fun h' hN => ?_
  obtain ⟨x1, x2, x3, x4⟩ := hN
  exact hQ h' ⟨x1, hen, x2, x3⟩ fun b o hb hnf => x4 b o ((other b (noRecord b o hb hnf)).trans hb) hnf
end HandSPX
end PySem
namespace DL
open PySem PySem.Spec L2
/-- a block's context that lets out -/
abbrev blkX (X : Cx) (s : Shared) (H : Hp) (scope : Scope) (cenv : Env) (fp : List Addr) (xe : Value → Shared → Prop) : Cx := { X.blk s H scope cenv fp with xe := xe }
theorem blkTo {X : Cx} {s : Shared} {H : Hp} {scope : Scope} {cenv : Env} {fp : List Addr} {xe : Value → Shared → Prop} {pins : List (Addr × Obj)} {σ : St} {H' : Hp} {s' : Shared} (I : Inv (X.blk s H scope cenv fp) pins σ H' s') : Inv (blkX X s H scope cenv fp xe) pins σ H' s' :=
  ⟨⟨I.ok.mod, I.ok.kind, I.ok.glob, I.ok.blt, I.ok.above, I.ok.inj, I.ok.has, I.ok.cab, I.ok.hd, I.ok.frames, I.ok.stk, I.ok.exf, I.ok.bs, I.ok.bsz, I.ok.noex, I.ok.exfs, I.ok.funs, I.ok.frf⟩, I.os, I.bare, I.base, I.loc, I.cell, I.free, I.freeC, I.pin, I.hok, I.len⟩
theorem frames_move {h h' base base' : Heap} : ∀ {l : List Env}, h.FunFrames base l → (∀ L ∈ frs l, h'.get? L = h.get? L ∧ base'.get? L = none) → h'.FunFrames base' l
  | [], _, _ => trivial
  | env :: l, ⟨hk, ⟨L, o, hf, hn, ho, hd⟩, hr⟩, hm => by
    have m := hm L (List.mem_filterMap.mpr ⟨env, List.mem_cons_self, hf⟩)
    refine ⟨hk, ⟨L, o, hf, m.2, m.1.trans ho, hd⟩, frames_move hr fun b hb => hm b ?_⟩
    obtain ⟨e, he, q⟩ := List.mem_filterMap.mp hb
    exact List.mem_filterMap.mpr ⟨e, List.mem_cons_of_mem _ he, q⟩
theorem rawInt_ne {a b : Addr} (h : a ≠ b) : rawInt a ≠ rawInt b := by
  intro e
  unfold rawInt at e
  injection e with e
  exact h (by exact_mod_cast e)
section
variable {X : Cx} {pins : List (Addr × Obj)} {σ : St}
theorem blk_takes {W : WX} {s3 : Shared} {H3 : Hp} {scope : Scope} {ce : Env} {fp : List Addr} {xe : Value → Shared → Prop} (hs : X.stack = X.env :: X.outer) (hf : X.env.frame = some X.env.locals) (tk : Takes X W) (I3 : Inv X pins σ H3 s3) (f3 : ∀ b ∈ fp, FpOk X pins H3 b ∧ b < s3.heap.objs.size)
    (cL : ce.locals = s3.heap.objs.size) (cF : ce.frame = X.env.frame) (u : Value) (s' : Shared) (x : XE (blkX X s3 H3 scope ce fp xe) (fun cls d _ H' => W cls d σ H') u s') :
    notedBy (model X.prog X.w) X.A ce (fun e s'' => CompFails (model X.prog X.w) X.A X.xe ce e s'') u s' := by
  obtain ⟨a, B, sI, pB, σB, HB, cls, d, rfl, IB, nb, up, sky, na, os, ag, w⟩ := x
  have hfr : X.A.frames = some (X.env :: X.outer) := by rw [I3.ok.frames, hs]
  have en : noteFrame (.ref a) ce = noteFrame (.ref a) X.env := by
    unfold noteFrame PySem.frameOf
    rw [cF]
  unfold notedBy
  rw [en]
  have IX : Inv X pins σ HB sI := I3.call' (ch := fp) IB.os IB.base IB.hok IB.bare fun b hb => ⟨(f3 b hb).1.2.2.2.1, (f3 b hb).1.2.1, (f3 b hb).1.2.2.2.2.1, (f3 b hb).1.2.2.2.2.2⟩
  have nC : HB ce.locals = none := IB.free
  have fC : FpOk X pins HB ce.locals := I3.fpOk (Nat.le_of_eq cL.symm) nC
  have nCs : ce.locals ∉ frs X.stack := fun hm => by
    rcases List.mem_cons.mp (I3.stkSub _ hm) with z | z
    · exact fC.2.1 z
    · exact fC.2.2.1 z
  obtain ⟨m, hn, _⟩ := IB.loc
  have hn : sI.heap.Ns ce.locals m := hn
  -- noted by the def's frame
  have fin : ∀ h1, HandSPX.HeldZ B (X.env :: X.outer) a (Zc cls d) X.env.locals h1 → s'.heap.UpToSlots h1 → CompFails (model X.prog X.w) X.A X.xe ce (.ref a) { s' with heap := h1 } := by
    intro h1 hh up1
    obtain ⟨oC, es, ep, eC, dC, r⟩ := id hn
    have bC : B.get? ce.locals = some oC := nb _ _ eC nCs
    have n1 : h1.Ns ce.locals m := ⟨oC, es, ep, hh.1 _ _ bC, dC, r⟩
    refine ⟨m, n1, fun h2 m' n2 sb => ?_⟩
    obtain ⟨o2, es2, ep2, e2, d2, _⟩ := id n2
    have fr2 : o2.isFreed = false := Obj.isFreed_of_dict d2
    have naC : ce.locals ≠ a := fun z => by
      have := hh.2.1
      rw [← z, bC] at this; cases this
    have upd2 : ∀ {h : Heap} {o : Obj}, h.get? ce.locals = some o → (h.update ce.locals fun _ => o2).get? ce.locals = some o2 := fun e => Heap.get?_update_self (fun _ => o2) e fr2
    have updN : ∀ {h : Heap} {b : Addr}, b ≠ ce.locals → (h.update ce.locals fun _ => o2).get? b = h.get? b := fun nb' => Heap.get?_update_other _ _ (Ne.symm nb')
    have eB : ∀ L, B.get? L = none → (B.update ce.locals fun _ => o2).get? L = none := fun L e => by
      by_cases z : L = ce.locals
      · rw [z, bC] at e; cases e
      · rw [updN z]; exact e
    have held2 : HandSPX.HeldZ (B.update ce.locals fun _ => o2) (X.env :: X.outer) a (Zc cls d) X.env.locals h2 := by
      obtain ⟨g1, g2, g3, oe, vs, T, oT, ts, t1, t2, t3, t4, t5, t6, t7, t8, t9⟩ := hh
      have nT : T ≠ ce.locals := fun z => by rw [z, bC] at t5; cases t5
      refine ⟨fun b o e => ?_, eB a g2, ?_, oe, vs, T, oT, ts, (sb.2 a (Ne.symm naC)).trans t1, t2, t3, t4, eB T t5, t6, (sb.2 T nT).trans t7, t8, t9⟩
      · by_cases z : b = ce.locals
        · subst z
          rw [upd2 bC] at e
          cases e
          exact e2
        · rw [updN z] at e
          exact (sb.2 b z).trans (g1 b o e)
      · exact frames_move g3 fun L hL => ⟨sb.2 L fun z => nCs (by rw [hs, ← z]; exact hL), eB L (g3.mem hL).1⟩
    unfold passOn
    obtain ⟨g1, g2, g3, oe, vs, T, oT, ts, t1, t2, t3, t4, t5, t6, t7, t8, t9⟩ := id held2
    refine wpAny_bind (wpAny_field t1 t3 t4 ?_)
    rw [if_neg (show ¬ ((Value.ref T == Value.none) = true) from by simp)]
    refine wpAny_bind ?_
    rw [cF, hf]
    refine HandSPX.setFlight_onZ held2 fun h3 hh3 up3 => ?_
    refine wpAny_throw (tk _ _ ?_)
    refine ⟨a, B.update ce.locals fun _ => o2, { sI with heap := sI.heap.update ce.locals fun _ => o2 }, pins, σ, HB, cls, d, rfl, ?_, fun b o e hb => ?_, fun b o e hnf => ?_, ?_, na, os, ag, w⟩
    · obtain ⟨f0, f1, f2, f3', f4, f5⟩ := fC
      exact IX.turned (t' := sI.toks) (fun b o hb e => (updN hb).trans e) f0 f1 f3' f4 f5
    · by_cases z : b = ce.locals
      · subst z
        have e : (sI.heap.update ce.locals fun _ => o2).get? ce.locals = some o := e
        rw [upd2 eC] at e
        rw [upd2 bC]; exact e
      · have e : (sI.heap.update ce.locals fun _ => o2).get? b = some o := e
        rw [updN z] at e
        rw [updN z]
        exact nb b o e hb
    · by_cases z : b = ce.locals
      · subst z
        have e : (sI.heap.update ce.locals fun _ => o2).get? ce.locals = some o := e
        rw [upd2 eC] at e
        cases e
        exact up3 _ _ e2 hnf
      · have e : (sI.heap.update ce.locals fun _ => o2).get? b = some o := e
        rw [updN z] at e
        obtain ⟨sl1, q1⟩ := up b o e hnf
        obtain ⟨sl2, q2⟩ := up1 b _ q1 hnf
        obtain ⟨sl3, q3⟩ := up3 b _ ((sb.2 b z).trans q2) hnf
        exact ⟨sl3, q3⟩
    · show Sky _ X.stack a (Zc cls d) X.env.locals h3
      rw [hs]
      exact .inr (.inr hh3)
  have sky : Sky B X.stack a (Zc cls d) ce.locals s'.heap := sky
  rw [hs] at sky
  rcases sky with ⟨hB, hn', hl, oe, vs, he, hz, hd, h1⟩ | fl | hh
  · exact HandSPX.look_newZ Zc.steady hfr hl hf he hB hn' hd h1 hz fin
  · exact HandSPX.looks_onZ Zc.steady hfr hf fl fin
  · exact HandSPX.looks_overZ Zc.steady (rawInt_ne fC.2.1) hfr hf hh fin
end
section
variable {X : Cx}
/-- as tLc, the element told by what is wanted of its errors -/
def tLcX (W : WX) (wi : TI) (g : TG) (tt : TT) (te : WX → TE) (vs : List Nat) : TE := fun σ H Q => tLc wi g tt (te fun cls d _ H' => W cls d σ H') vs σ H Q
/-- the parts of a block, in any context that lets out -/
structure BlkP (X : Cx) (scope : Scope) (tg elt : Expr) (ifs : List Expr) (g : TG) (tt : TT) (te : WX → TE) : Prop where
  tg_ : ∀ (s : Shared) (H : Hp) (C : Addr) (cl : List (Str × Addr)) (fp : List Addr) (xe : Value → Shared → Prop), PG (blkX X s H scope (compEnvC scope cl C X.env) fp xe) tg g
  ifs_ : ∀ (s : Shared) (H : Hp) (C : Addr) (cl : List (Str × Addr)) (fp : List Addr) (xe : Value → Shared → Prop), PTs (blkX X s H scope (compEnvC scope cl C X.env) fp xe) ifs tt
  elt_ : ∀ (s : Shared) (H : Hp) (C : Addr) (cl : List (Str × Addr)) (fp : List Addr) (xe : Value → Shared → Prop) (W : WX), Takes (blkX X s H scope (compEnvC scope cl C X.env) fp xe) W → PE (blkX X s H scope (compEnvC scope cl C X.env) fp xe) elt (te W)
/-- a turn's state: the iterator's place, the block's context, the measure -/
def AtTurn (X : Cx) (tn : Nat → Heap → Prop) (fp : List Addr) (σ : St) (W : Nat → Nat → Hp → Prop) (n : Nat) (s : Shared) : Prop := ∃ i H, Inv X [] σ H s ∧ tn i s.heap ∧ (∀ b ∈ fp, H b = none) ∧ W i n H
theorem lcX_core {pins : List (Addr × Obj)} {s : Shared} {σ : St} {H : Hp} {Q : VK} {W : WX} {elt tg iter : Expr} {ifs : List Expr} {scope : Scope} {own : List (Str × Nat)} {pos pos' : Pos} {wi : TI} {g : TG} {tt : TT} {te : WX → TE} {use : Option (Value → Sem Unit)} {Qf : Value → Shared → Prop}
    (st : X.stack = X.env :: X.outer) (fr : X.env.frame = some X.env.locals) (tk : Takes X W) (hc : X.calm = true) (hN : X.N.Nodup) (I : Inv X pins σ H s) (hi : PI X tg iter wi) (ok : BlkOk X.N X.env.scope scope own) (bp : BlkP X scope tg elt ifs g tt te) (hs : ∀ x, foldedSetIterable iter X.env x = pure x)
    (h : tLcX W wi g tt te (own.map (·.2)) σ H Q)
    (back : ∀ D ce s' m H', Inv X pins σ H' s' → Q (.ref D) H' → s'.heap.Ns ce.locals m → FpOk X pins H' ce.locals → compEnds (model X.prog X.w) X.A X.xe use Qf (.ref D) ce (.ok .next) s') :
    wpAny (model X.prog X.w) X.A (comprehension (.ListComp elt [⟨tg, iter, ifs, 0⟩] scope pos) scope X.env pos' (newList []) false (eval iter X.env) use) Qf X.xe s := by
  have captured : ∀ y ∈ scope.names, y.2 = .free → ∃ c, X.env.cells.lookup y.1 = some c := fun y hy e => (ok.free y hy e).elim (fun k => I.ok.has _ (.inl k)) fun k => I.ok.has _ (.inr k)
  refine comprehension_at rfl hs (closure_ok captured) ok.kind (fun y hy e => (ok.uniq y hy).trans (by rw [e])) (thn (hi.run pins s σ H _ I h) fun xv sA hx => thn hx fun itv sB hB => ?_)
  obtain ⟨it, fp, tn, J, HB, rfl, IB, T, stB, fpB, q⟩ := hB
  refine wpAny_newObj_type (newEnv_comp ?_) (Nat.zero_le _)
  have fresh : HB sB.heap.objs.size = none := IB.hok.fresh (Nat.le_refl _)
  obtain ⟨Wt, ⟨n0, w0⟩, turn⟩ := q _ fresh
  generalize hD : sB.heap.objs.size = D at *
  generalize hC : ({ sB with heap := sB.heap.push { cls := .type "list", data := .seq ([] : List Value).toArray } } : Shared) = sC at *
  have heapC : sC.heap = sB.heap.push { cls := .type "list", data := .seq ([] : List Value).toArray } := by rw [← hC]
  have kept : ∀ b o, sB.heap.get? b = some o → sC.heap.get? b = some o := fun b o e => by rw [heapC]; exact Heap.get?_push_of_some _ e
  have IC : Inv X pins σ (upd HB D (.lst [])) sC := by
    have new : sC.heap.get? D = some { cls := .type "list", data := .seq ([] : List Value).toArray } := by rw [heapC, ← hD]; exact Heap.get?_push_size _ rfl
    rw [← hC]
    exact IB.laid (t' := sB.toks) (fun b o e => Heap.get?_push_of_some _ e) (Nat.le_of_eq hD) ⟨Nat.zero_le _, [], 0, .nil, by rw [← heapC]; exact new⟩
  have fpC : ∀ b ∈ fp, FpOk X pins (upd HB D (.lst [])) b ∧ b < sC.heap.objs.size := fun b hb => by
    obtain ⟨o, e, _⟩ := T.obj _ _ stB b hb
    have lt : b < sB.heap.objs.size := Heap.lt_size e
    obtain ⟨g0, gr⟩ := fpB b hb
    exact ⟨⟨by rw [upd_ne (by rw [← hD]; exact Nat.ne_of_lt lt)]; exact g0, gr⟩, by rw [heapC, Heap.size_push]; exact Nat.lt_succ_of_lt lt⟩
  have begun := block_start IC ok hN fpC
  generalize hce : compEnvC scope (cellsFrom (sC.heap.objs.size + 1) scope.names (cloFrom X.env.cells scope.names [])) sC.heap.objs.size X.env = ce at begun
  generalize hHC : upd HB D (.lst []) = HC at *
  generalize hst : ({ sC with heap := pushCells (sC.heap.push { cls := .type "dict", data := .dict #[] }) scope.names } : Shared) = sE at begun
  have stE : tn 0 sE.heap := T.keep _ _ _ stB fun b _ o e => by rw [← hst]; exact pushCells_keeps _ _ _ _ (Heap.get?_push_of_some _ (kept b o e))
  have locs : ce.locals = sC.heap.objs.size := by rw [← hce]; rfl
  -- what the block lets out
  let R : Result → Shared → Prop := compEnds (model X.prog X.w) X.A X.xe use Qf (.ref D) ce
  let xe : Value → Shared → Prop := notedBy (model X.prog X.w) X.A ce fun e s' => R (.error e) s'
  let Y : Cx := blkX X sC HC scope ce fp xe
  have pg : PG Y tg g := by have z := bp.tg_ sC HC sC.heap.objs.size (cellsFrom (sC.heap.objs.size + 1) scope.names (cloFrom X.env.cells scope.names [])) fp xe; rw [hce] at z; exact z
  have pt : PTs Y ifs tt := by have z := bp.ifs_ sC HC sC.heap.objs.size (cellsFrom (sC.heap.objs.size + 1) scope.names (cloFrom X.env.cells scope.names [])) fp xe; rw [hce] at z; exact z
  have out : Takes Y (fun cls d _ H' => W cls d σ H') := fun u s' x => blk_takes st fr tk IC fpC locs (by rw [← hce]; rfl) u s' x
  have pe : PE Y elt (te fun cls d _ H' => W cls d σ H') := by
    have z := bp.elt_ sC HC sC.heap.objs.size (cellsFrom (sC.heap.objs.size + 1) scope.names (cloFrom X.env.cells scope.names [])) fp xe
    rw [hce] at z
    exact z _ out
  have IE : Inv Y [] (wipe σ (own.map (·.2))) HC sE := blkTo begun
  have still : ∀ {σ' : St} {H' : Hp} {s' : Shared}, Inv Y [] σ' H' s' → (∀ b ∈ fp, H' b = none) → ∀ b ∈ fp, FpOk Y [] H' b := fun I' hn b hb =>
    ⟨hn b hb, (I'.ok.exf b hb).1, I'.ok.exfs b hb, .inl hb, fun x c e => (I'.ok.exf b hb).2 x c e, fun p hp => (nomatch hp)⟩
  have walk : codeAny (model X.prog X.w) X.A (.compLoop (.ListComp elt [⟨tg, iter, ifs, 0⟩] scope pos) 0 (.ref it) (.ref D) ce) R sE := by
    refine compLoop_any (AtTurn Y tn fp (wipe σ (own.map (·.2))) Wt) ?_ n0 ⟨0, HC, IE, stE, fun b hb => (fpC b hb).1.1, w0⟩
    rintro n s5 ⟨i, H5, I5, st5, n5, w5⟩
    rcases turn i n H5 w5 with ⟨stop, qq⟩ | ⟨go, Nx, hNx, step⟩
    · refine thnF (T.done Y rfl rfl rfl hc i [] s5 _ H5 (fun _ _ => False) I5 (still I5 n5) st5 stop) fun r s6 ⟨hr, I6⟩ => ?_
      cases hr
      have home : Inv X pins σ H5 s6 := IC.call' (ch := fp) I6.os I6.base I6.hok I6.bare fun b hb =>
        let f := (fpC b hb).1
        ⟨f.2.2.2.1, f.2.1, f.2.2.2.2.1, f.2.2.2.2.2⟩
      obtain ⟨m, hn, _⟩ := I6.loc
      exact back D ce s6 m H5 home qq hn (IC.fpOk (Nat.le_of_eq locs.symm) I6.free)
    · refine thnF (T.item Y rfl rfl rfl hc i [] s5 _ H5 (fun _ _ => False) I5 (still I5 n5) st5 go) fun r s6 ⟨u, hr, h6⟩ => ?_
      cases hr
      refine thnF h6 fun _ s7 ⟨x, H7, I7, r7, y7, st7, n7⟩ => ?_
      refine thn (pg.run _ s7 _ H7 x u _ (I7.pinned (still I7 n7) (T.obj _ _ st7)) r7 (step x H7 y7)) fun _ s8 ⟨σ8, H8, I8, hw8, q8⟩ => ?_
      refine thn (pt.run _ s8 σ8 H8 _ I8 q8) fun b s9 ⟨H9, I9, q9⟩ => ?_
      have next : ∀ {s' : Shared} {H' : Hp}, Inv Y ([] ++ pinsAt fp s7.heap) σ8 H' s' → Nx H' → ∃ m, m < n ∧ AtTurn Y tn fp (wipe σ (own.map (·.2))) Wt m s' := fun {s' H'} I' nx => by
        obtain ⟨m', hm, w'⟩ := hNx H' nx
        have stays : ∀ b ∈ fp, ∀ o, s7.heap.get? b = some o → s'.heap.get? b = some o ∧ H' b = none := fun b hb o e =>
          have p := I'.pin (b, o) (List.mem_append_right _ (List.mem_append_right _ (mem_pinsAt hb e)))
          ⟨p.1, p.2.1⟩
        refine ⟨m', hm, i + 1, H', (I'.unpinned (pins := [])).weak (by rw [← hw8, wipe_length]) (fun j v e => ?_), T.keep _ _ _ st7 fun b hb o e => (stays b hb o e).1, fun b hb => ?_, w'⟩
        · exact (wipe_some (by rw [hw8]; exact e)).1
        · obtain ⟨o, e, _⟩ := T.obj _ _ st7 b hb
          exact (stays b hb o e).2
      cases b with
      | false =>
        simp only [Bool.false_eq_true, if_false] at q9 ⊢
        exact next I9 q9
      | true =>
        simp only [if_true] at q9 ⊢
        refine thn (pe.run _ s9 σ8 H9 _ I9 q9) fun z s10 ⟨yv, H10, I10, r10, acc, hD10, hz10, nx⟩ => ?_
        exact app_ok (X := Y) I10 hD10 hz10 r10 fun s11 I11 => next I11 nx
  subst hce
  exact codeAny_compStart_list walk (T.self X.A 0 _ _ _ stE walk)
end
/-- what was lent is taken out of sight -/
theorem Wd.unlend {K : PySem.W.Frag} {G F : Hp} {μ : Mu} {H : Hp} {p : Addr} {o : HO} (w : Wd K G (upd F p o) μ H) (hF : F p = none) : Wd K G F μ H := by
  have up : ∀ a u, F a = some u → upd F p o a = some u := fun a u e => by rw [upd_ne (fun z => by rw [z, hF] at e; cases e)]; exact e
  exact ⟨w.g, fun a u e => w.f a u (up a u e), w.m, w.n.1, fun a u e => w.n.2 a u (up a u e)⟩
/-- the errors of a block's element, told by the def's names as they stood -/
def xBlk (xk : DX) (ds : DSl) : DX := fun C fs _ μ => xk C fs ds μ
def dLcX (m : Bool) (wd : DI) (g : DG) (tt : TTd) (te : TDX) (vs : List Nat) : TDX := fun xk ds μ Q => dLc m wd g tt (te (xBlk xk ds)) vs ds μ Q
theorem rex_lc {K : PySem.W.Frag} {W : WX} {m : Bool} {wi : TI} {g : TG} {tt : TT} {te : WX → TE} {vs : List Nat} {wd : DI} {dg : DG} {dt : TTd} {de : TDX} (h1 : RI K wi wd) (h2 : RGc K vs g dg) (h3 : RT K tt dt) (h4 : ∀ W', REX K W' (te W') de) : REX K W (tLcX W wi g tt te vs) (dLcX m wd dg dt de vs) :=
  fun σ ds G F μ H Qd Q xk hs hw h kq kx => h1 σ ds G F μ H _ _ hs hw h fun J items keep G1 μ1 H1 e1 w1 it q => by
    obtain ⟨I, i0, ik, is, ie⟩ := q
    intro p hp
    have hF : F p = none := w1.noF hp
    refine ⟨fun i m H' => m = items.length - i ∧ i ≤ items.length ∧ ∃ acc vs' μ' G', Ex G1 G' ∧ Wd K G' (upd F p (.lst vs')) μ' H' ∧ RpL K G' acc vs' ∧ I i acc μ', ⟨_, rfl, Nat.zero_le _, [], [], μ1, G1, Ex.refl _, w1.lend hp, rfl, i0⟩, ?_⟩
    rintro i m' H' ⟨rfl, hi, acc, vs', μ', G', e', w', ra, pI⟩
    have kp := ik i acc μ' hi pI
    obtain ⟨t1, t2⟩ := it i _ G' μ' H' e' w' kp
    by_cases hlt : i < items.length
    · obtain ⟨g1, g2⟩ := t1 hlt
      refine .inr ⟨g1, fun H2 => ∃ acc vs' μ' G', Ex G1 G' ∧ Wd K G' (upd F p (.lst vs')) μ' H2 ∧ RpL K G' acc vs' ∧ I (i + 1) acc μ', fun H2 ⟨a1, a2, a3, a4, x1, x2, x3, x4⟩ => ⟨items.length - (i + 1), by omega, rfl, hlt, a1, a2, a3, a4, x1, x2, x3, x4⟩, fun v H2 y => ?_⟩
      obtain ⟨G2, d, e2, w2, rd, hd, _⟩ := g2 v H2 y
      obtain ⟨hz, hg⟩ := is i d acc μ' hd pI
      have s0 := (hs.mono (e1.trans (e'.trans e2))).wipe vs
      refine h2 v d (wipe σ vs) (wipeD ds vs) G2 _ μ' H2 _ _ rd s0 w2 hg fun σ3 ds3 G3 μ3 H3 ew e3 s3 w3 q3 => ⟨ew.trans wipe_wipe, ?_⟩
      refine h3 σ3 ds3 G3 _ μ3 H3 _ _ s3 w3 q3 fun b G4 μ4 H4 e4 w4 q4 => ?_
      cases b with
      | true =>
        have e04 := e1.trans (e'.trans (e2.trans (e3.trans e4)))
        refine h4 _ σ3 ds3 G4 _ μ4 H4 _ _ (xBlk xk ds) (s3.mono e4) w4 q4 (fun z dz G5 μ5 H5 e5 w5 rz q5 => ?_) fun C fs dd σ5 ds5 G5 μ5 H5 e5 _ w5 dr q5 => ?_
        · have e25 := e2.trans (e3.trans (e4.trans e5))
          have ra5 : RpL K G5 acc vs' := RpL.mono e25 _ _ ra
          exact ⟨vs', (w5.f p _ upd_same).1, by rw [ra.len]; exact hz, acc ++ [dz], vs' ++ [z], μ5, G5, e'.trans e25, w5.lendSet (o' := .lst (vs' ++ [z])), ra5.app (RpL.one rz), q5⟩
        · exact kx C fs dd σ ds G5 μ5 H5 (e04.trans e5) (hs.mono (e04.trans e5)) (w5.unlend hF) dr q5
      | false => exact ⟨acc, vs', μ4, G4, e'.trans (e2.trans (e3.trans e4)), w4, RpL.mono (e2.trans (e3.trans e4)) _ _ ra, q4⟩
    · have hn : i = items.length := by omega
      refine .inl ⟨t2 (by omega), ?_⟩
      have hq := ie acc μ' (hn ▸ pI)
      cases m with
      | false =>
        obtain ⟨w7, e7⟩ := w'.lendFix hF
        exact kq (.ref p) (.lst acc) _ μ' H' (e1.trans (e'.trans e7)) w7 ⟨p, vs', rfl, upd_same, RpL.mono e7 _ _ ra⟩ hq
      | true => exact kq (.ref p) (.obj p) G' (put μ' p (.lst acc)) H' (e1.trans e') (w'.lendMu (m := .lst acc) ⟨vs', rfl, ra⟩ hF) rfl (hq p ((w'.f p _ upd_same).2.2))
section
variable {X : Cx} {W : WX} {tg iter elt : Expr} {wd : DI} {dg : DG} {de : TDX} {pos : Pos}
theorem blkP {ifs : List Expr} {scope : Scope} {vs : List Nat} {dtt : TTd}
    (hg : ∀ (s : Shared) (H : Hp) (C : Addr) (cl : List (Str × Addr)) (fp : List Addr) (xe : Value → Shared → Prop), PGC (blkX X s H scope (compEnvC scope cl C X.env) fp xe) vs tg dg)
    (ht : ∀ (s : Shared) (H : Hp) (C : Addr) (cl : List (Str × Addr)) (fp : List Addr) (xe : Value → Shared → Prop), PTsD (blkX X s H scope (compEnvC scope cl C X.env) fp xe) ifs dtt)
    (he : ∀ (s : Shared) (H : Hp) (C : Addr) (cl : List (Str × Addr)) (fp : List Addr) (xe : Value → Shared → Prop) (W : WX), Takes (blkX X s H scope (compEnvC scope cl C X.env) fp xe) W → PEX (blkX X s H scope (compEnvC scope cl C X.env) fp xe) W elt de) :
    BlkP X scope tg elt ifs (tgcOf X.K vs dg) (ttOf X.K dtt) (fun W => teOfX X.K W de) := ⟨fun s H C cl fp xe => (hg s H C cl fp xe).pg, fun s H C cl fp xe => (ht s H C cl fp xe).pe, fun s H C cl fp xe W t => (he s H C cl fp xe W t).pe⟩
theorem rx_any {K : PySem.W.Frag} {de : TDX} : ∀ W', REX K W' (teOfX K W' de) de := fun W' σ ds G F μ H Qd Q xk a b c d e => ⟨ds, G, F, μ, Qd, xk, a, b, c, d, e⟩
theorem ex_lc (m : Bool) {ifs : List Expr} {scope : Scope} {own : List (Str × Nat)} {dtt : TTd} (st : X.stack = X.env :: X.outer) (fr : X.env.frame = some X.env.locals) (tk : Takes X W) (hc : X.calm = true) (hN : X.N.Nodup) (ok : BlkOk X.N X.env.scope scope own) (hi : PID X tg iter wd)
    (hg : ∀ (s : Shared) (H : Hp) (C : Addr) (cl : List (Str × Addr)) (fp : List Addr) (xe : Value → Shared → Prop), PGC (blkX X s H scope (compEnvC scope cl C X.env) fp xe) (own.map (·.2)) tg dg)
    (ht : ∀ (s : Shared) (H : Hp) (C : Addr) (cl : List (Str × Addr)) (fp : List Addr) (xe : Value → Shared → Prop), PTsD (blkX X s H scope (compEnvC scope cl C X.env) fp xe) ifs dtt)
    (he : ∀ (s : Shared) (H : Hp) (C : Addr) (cl : List (Str × Addr)) (fp : List Addr) (xe : Value → Shared → Prop) (W : WX), Takes (blkX X s H scope (compEnvC scope cl C X.env) fp xe) W → PEX (blkX X s H scope (compEnvC scope cl C X.env) fp xe) W elt de)
    (hs : ∀ x, foldedSetIterable iter X.env x = pure x := by intro _; rfl) : PEX X W (.ListComp elt [⟨tg, iter, ifs, 0⟩] scope pos) (dLcX m wd dg dtt de (own.map (·.2))) := by
  refine .mk' ⟨fun pins s σ H Q I h => ?_⟩ (rex_lc hi.ri (hg X.s_0 X.H_0 0 [] [] X.xe).rg (ht X.s_0 X.H_0 0 [] [] X.xe).re rx_any)
  rw [eval_ListComp]
  refine lcX_core st fr tk hc hN I hi.pi ok (blkP hg ht he) hs h fun D ce s' m' H' I' q hn f => ⟨m', hn, fun h'' sb => ?_⟩
  obtain ⟨f0, f1, f2, f3, f4, f5⟩ := f
  exact ⟨.ref D, H', I'.turned (t' := s'.toks) (fun b o hb e => (sb.2 b hb).trans e) f0 f1 f3 f4 f5, rfl, q⟩
theorem sx_setLc (m : Bool) (i : Nat) {y : Str} {py spos : Pos} {ifs : List Expr} {scope : Scope} {own : List (Str × Nat)} {dtt : TTd} (st : X.stack = X.env :: X.outer) (fr : X.env.frame = some X.env.locals) (tk : Takes X W) (hc : X.calm = true) (hN : X.N.Nodup) (hy : X.N[i]? = some y) (hyl : X.env.scope.names.lookup y = some .local)
    (hsw : swapsWith (.ListComp elt [⟨tg, iter, ifs, 0⟩] scope pos) (some (.Name y py)) spos.line X.env = pure true) (ok : BlkOk X.N X.env.scope scope own) (hi : PID X tg iter wd)
    (hg : ∀ (s : Shared) (H : Hp) (C : Addr) (cl : List (Str × Addr)) (fp : List Addr) (xe : Value → Shared → Prop), PGC (blkX X s H scope (compEnvC scope cl C X.env) fp xe) (own.map (·.2)) tg dg)
    (ht : ∀ (s : Shared) (H : Hp) (C : Addr) (cl : List (Str × Addr)) (fp : List Addr) (xe : Value → Shared → Prop), PTsD (blkX X s H scope (compEnvC scope cl C X.env) fp xe) ifs dtt)
    (he : ∀ (s : Shared) (H : Hp) (C : Addr) (cl : List (Str × Addr)) (fp : List Addr) (xe : Value → Shared → Prop) (W : WX), Takes (blkX X s H scope (compEnvC scope cl C X.env) fp xe) W → PEX (blkX X s H scope (compEnvC scope cl C X.env) fp xe) W elt de)
    (hs : ∀ x, foldedSetIterable iter X.env x = pure x := by intro _; rfl) : PSX X W (.Assign [.Name y py] (.ListComp elt [⟨tg, iter, ifs, 0⟩] scope pos) spos) (xSet i (dLcX m wd dg dtt de (own.map (·.2)))) := by
  refine .mk' ⟨fun pins s σ H E I h => ?_⟩ (rsx_set (te := tLcX W (tiOf X.K wd) (tgcOf X.K (own.map (·.2)) dg) (ttOf X.K dtt) (fun W => teOfX X.K W de) (own.map (·.2))) (rex_lc hi.ri (hg X.s_0 X.H_0 0 [] [] X.xe).rg (ht X.s_0 X.H_0 0 [] [] X.xe).re rx_any))
  rw [exec_Assign_Name_used _ _ _ _ hsw]
  refine wpAny_bind (wpAny_standAt (wpAny_bind ?_))
  show wpAny _ X.A (do let _ ← comprehension (.ListComp elt [⟨tg, iter, ifs, 0⟩] scope pos) scope X.env (firstIterPos [⟨tg, iter, ifs, 0⟩] pos) (newList []) false (eval iter X.env) (some (assign (.Name y py) X.env))) _ _ s
  refine wpAny_bind (thn (lcX_core (Qf := fun _ s' => SP X pins E .next s') st fr tk hc hN I hi.pi ok (blkP hg ht he) hs h fun L ce s' m' H' I' q hn f => ?_) fun _ s' hq => wpAny_pure (wpAny_pure hq))
  show wpAny _ _ (assign (.Name y py) X.env (.ref L)) _ _ _
  refine wpAny_assign_Name (store_ok2 (v := V.ref L) I' hN hy (.inl hyl) rfl (fun s2 I2 ⟨a, sb, ha⟩ => ?_) (.inr hyl))
  obtain ⟨f0, f1, f2, f3, f4, f5⟩ := f
  have ne : ce.locals ≠ a := ha.elim (fun z => by rw [z]; exact f1) fun z => fun e => f4 y a z e.symm
  refine ⟨m', hn.sameBut sb ne, fun h3 sb3 => ?_⟩
  exact ⟨_, H', I2.turned (t' := s2.toks) (fun b o hb e => (sb3.2 b hb).trans e) f0 f1 f3 f4 f5, q⟩
end
end DL
set_option Elab.async false
set_option linter.all false
set_option maxRecDepth 100000
set_option maxHeartbeats 4000001
/-! zip of two lists; the law itself holds lambdas. -/
namespace DL
open PySem PySem.Spec L2
def zipD (xs ys : List D) : List D := List.zipWith (fun x y => D.tup [x, y]) xs ys
theorem zipD_len (xs ys : List D) : (zipD xs ys).length = min xs.length ys.length := by unfold zipD; rw [List.length_zipWith]
theorem zipD_get {xs ys : List D} {i : Nat} {d : D} (h : (zipD xs ys)[i]? = some d) : ∃ x y, xs[i]? = some x ∧ ys[i]? = some y ∧ d = .tup [x, y] := by
  unfold zipD at h
  rw [List.getElem?_zipWith] at h
  split at h
  · cases h; exact ⟨_, _, by assumption, by assumption, rfl⟩
  · cases h
theorem itd_z {K : PySem.W.Frag} {G : Hp} {a b : Addr} {xs ys : List D} {keep : Mu → Prop} (h : ∀ F G' μ H, Ex G G' → Wd K G' F μ H → keep μ → ∃ vs us, SqL K H a vs ∧ RpL K G' xs vs ∧ SqL K H b us ∧ RpL K G' ys us) : ItD K G (Itz K a b) (zipD xs ys) keep := fun i F G' μ H e w k => by
  obtain ⟨vs, us, h1, h2, h3, h4⟩ := h F G' μ H e w k
  rw [zipD_len]
  refine ⟨fun hi => ?_, fun hi => ⟨vs, us, h1, h3, by rw [h2.len, h4.len]; omega⟩⟩
  obtain ⟨v, hv, rv⟩ := h2.get (i := i) (d := xs[i]'(by omega)) (List.getElem?_eq_getElem (by omega))
  obtain ⟨u, hu, ru⟩ := h4.get (i := i) (d := ys[i]'(by omega)) (List.getElem?_eq_getElem (by omega))
  refine ⟨⟨vs, us, v, u, h1, h3, hv, hu⟩, fun z H' y => ?_⟩
  obtain ⟨T, x, y', rfl, hT, rfl, q1, q2⟩ := y
  have e1 := q1 vs h1
  rw [hv] at e1
  cases e1
  have e2 := q2 us h3
  rw [hu] at e2
  cases e2
  have ex : Ex G' (upd G' T (.tup [v, u])) := Ex.new (w.noG hT)
  refine ⟨upd G' T (.tup [v, u]), .tup [xs[i]'(by omega), ys[i]'(by omega)], ex, w.newG hT, ⟨T, _, rfl, SqT.of upd_same, ⟨_, _, rfl, Rp.mono ex _ _ rv, _, _, rfl, Rp.mono ex _ _ ru, rfl⟩⟩, ?_, fun _ _ _ _ _ => trivial⟩
  unfold zipD
  rw [List.getElem?_zipWith, List.getElem?_eq_getElem (by omega), List.getElem?_eq_getElem (by omega)]
def diZip (t : TAd) : DI := fun ds μ R => t ds μ fun vs μ1 => match vs with
  | [x, y] => ∃ xs ys, LstAt μ1 x xs ∧ LstAt μ1 y ys ∧ R (zipD xs ys) (fun ν => keepOf x xs ν ∧ keepOf y ys ν) μ1
  | _ => False
/-- a list, now and as long as it is kept -/
theorem lst_keep {K : PySem.W.Frag} {G F : Hp} {μ : Mu} {H : Hp} {x : D} {v : V} {xs : List D} (w : Wd K G F μ H) (r : Rp K G x v) (h : LstAt μ x xs) :
    ∃ a vs, v = .ref a ∧ SqL K H a vs ∧ ∀ F' G' μ' H', Ex G G' → Wd K G' F' μ' H' → keepOf x xs μ' → ∃ vs, SqL K H' a vs ∧ RpL K G' xs vs := by
  cases x with
  | lst zs =>
    obtain ⟨a, us, rfl, h2, h3⟩ := r
    have h' : zs = xs := h
    subst h'
    exact ⟨a, us, rfl, SqL.of (w.g _ _ h2), fun F' G' μ' H' e w' _ => ⟨us, SqL.of (w'.g _ _ (e _ _ h2)), RpL.mono e _ _ h3⟩⟩
  | obj a =>
    have r' : v = .ref a := r
    have h' : μ a = some (.lst xs) := h
    obtain ⟨us, h2, h3⟩ := w.lstM h'
    exact ⟨a, us, r', SqL.of h2, fun F' G' μ' H' e w' k => by
      obtain ⟨ws, h4, h5⟩ := w'.lstM (a := a) (xs := xs) k
      exact ⟨ws, SqL.of h4, h5⟩⟩
  | _ => exact False.elim h
theorem ri_zip {K : PySem.W.Frag} {t : TA} {dt : TAd} (h1 : RA K t dt) : RI K (iZip K t) (diZip dt) := fun σ ds G F μ H R Rd hs hw h k =>
  h1 σ ds G F μ H _ _ hs hw h fun vs xs G1 μ1 H1 e1 w1 r q => by
    split at q
    · obtain ⟨v, u, rfl, rv, ru⟩ := rpl2 r
      obtain ⟨ps, qs, hp, hq, q⟩ := q
      obtain ⟨a, as, rfl, sa, ka⟩ := lst_keep w1 rv hp
      obtain ⟨b, bs, rfl, sb, kb⟩ := lst_keep w1 ru hq
      exact ⟨a, b, as, bs, rfl, sa, sb, k _ _ _ G1 μ1 H1 e1 w1 (itd_z fun F G' μ H e w kp => by
        obtain ⟨as', x1, x2⟩ := ka F G' μ H e w kp.1
        obtain ⟨bs', x3, x4⟩ := kb F G' μ H e w kp.2
        exact ⟨as', bs', x1, x2, x3, x4⟩) q⟩
    · exact q.elim
theorem id_zip {X : Cx} {e e2 : Expr} {dt : TAd} {p pos : Pos} {elts : List Expr} {kk : Nat} {tpos : Pos} (hm : X.mg "zip" = none) (ha : PAD X [e, e2] dt) (hg : Gl X "zip" := by rfl)
    (hs : starEach [e, e2] X.env = (false, eval e X.env) :: starEach [e2] X.env := by rfl) (hpl : (backTo pos (starEach [e2] X.env)).any (·.1) = false := by rfl) :
    PID X (.Tuple elts kk tpos) (.Call (.Name "zip" p) [e, e2] [] pos) (diZip dt) := .mk' (pi_zip hg hm ha.pe hs hpl) (ri_zip ha.re)
/-- the law that holds a lambda: its promise -/
theorem fnG_lam {P : Program} {w : World} {K : PySem.W.Frag} {mg : Str → Option Value} {base : Heap} {x : Str} {st : Stmt} {f c : Addr} {oc : Value} {od : Option Addr} {kV doc pm : Value} {an : Option Addr} {ct : Value} {osl : Array (Option Value)} {N ps : List Str} {k : Nat} {PD : DP} {td : DS}
    (lk : K.lookup f = some ⟨oc, od, .func (PySem.W.fnOf x x (defArgs st) (defBody st) (defScope st) .none kV doc pm an (.ref c) ct), osl⟩) (hcd : PySem.W.codeIn K (.ref c) x = true) (S : FnScope N ps (defScope st)) (len : ∀ ds μ Q, PD ds μ Q → ds.length = ps.length)
    (body : ∀ (f : Addr) (A : Around) (outer : List Env) (s : Shared) (H : Hp) (E : XK), A.guards = some [] → Room k (A.deeper (PyProof.Rows.envOfC x (defScope st) s.heap.objs.size f (.ref c))) → PSSD (cxOf CX0 P w K mg base N x (defScope st) f (.ref c) A outer s H E).nox (defBody st) td)
    (rd : ∀ ds μ Q, PD ds μ Q → td { nx := fun _ μ' => GhQ Q .non μ', rt := GhQ Q } (startD N ds) μ) : FnG P w K mg base (k + 1) f (PySem.W.fnOf x x (defArgs st) (defBody st) (defScope st) .none kV doc pm an (.ref c) ct) ps (spD K PD) := by
  have few : ∀ vs H Q E, spD K PD vs H Q E → vs.length = ps.length := fun vs H Q E ⟨G, F, μ, ds, Qd, r, hw, hp, kq⟩ => by rw [r.len]; exact len ds μ Qd hp
  refine ⟨few, fun A outer s H args us vs Q E calm hr e0 hbd r h => ?_⟩
  refine LamX.run_ofS lk hcd S hr e0 hbd r (few vs H Q E h) fun room => ?_
  obtain ⟨G, F, μ, ds, Qd, rr, hw, hp, kq⟩ := h
  have hs : RpS K G (startD N ds) (L2.start N vs) := by
    unfold startD L2.start
    rw [rr.len]
    exact RpS.start rr
  have kg := kq_gh kq
  have b := body f A outer s H E calm room
  exact ⟨_, b.ps.nox, b.rs (L2.start N vs) (startD N ds) G F μ H _ _ hs hw (rd ds μ Qd hp) ⟨fun σ' ds' G' μ' H' e _ w' q => kg .non .non G' μ' H' e w' rfl q, kg, fun σ' ds' G' μ' H' e _ w' q => q.elim, fun σ' ds' G' μ' H' e _ w' q => q.elim⟩⟩
end DL
set_option Elab.async false
set_option linter.all false
set_option maxRecDepth 100000
set_option maxHeartbeats 4000001
namespace DL
open PySem L2
/-! ## numbers, names, fleets, columns: promises -/
def tys : List String := ["NoneType", "int", "str", "list", "tuple", "dict", "bool"]
/-- a plain value of any kind -/
def Any (μ : Mu) (x : D) : Prop := ∃ t, TyD μ x (.type t) ∧ t ∈ tys
def isNumB : D → Int → Bool
  | .int i, m => decide (0 ≤ i) && decide (i ≤ m)
  | _, _ => false
def isNameOf : D → List Str → Bool
  | .str s, ns => decide (s ∈ ns)
  | _, _ => false
def P_is_number : DP := fun ds μ Q => ∃ x m, ds = [x, .int m] ∧ Any μ x ∧ Q (.bl (isNumB x m)) μ
def P_is_point : DP := fun ds μ Q => ∃ x, ds = [x] ∧ Any μ x ∧ Q (.bl (isNumB x 31)) μ
def P_is_name_of : DP := fun ds μ Q => ∃ x y ns, ds = [x, y] ∧ Any μ x ∧ SeqD μ y (ns.map .str) ∧ Q (.bl (isNameOf x ns)) μ
def P_check_point (BadPoint : Addr) : DPX := fun ds μ Q E => ∃ (x : D) (c : Str), ds = [x, .str c] ∧ Any μ x ∧ c.length ≤ 20 ∧ if isNumB x 31 = true then Q .non μ else E BadPoint [] μ
def P_shows : DP := fun ds μ Q => ∃ a b c : Int, ds = [.int a, .int b, .int c] ∧ Q (.bl (shows c ("", a, b))) μ
def P_colours_at : DP := fun ds μ Q => ∃ x ls b, ds = [x, .int b] ∧ SeqD μ x (ls.map lampD) ∧ ls.length ≤ 1000 ∧ Q (.tup ((colOf ls b).map .str)) μ
/-- a Fleet -/
def FleetAt (Fleet a : Addr) (f : Flt) (μ : Mu) : Prop := μ a = some (.ins Fleet [("_colours", .tup (f.1.map .str)), ("_rows", .tup (f.2.map kindD))])
def kindIn (f : Flt) : D → Option Kind
  | .str s => f.2.find? fun k => decide (k.1 = s)
  | _ => none
def Few (f : Flt) : Prop := f.1.length ≤ 1000 ∧ f.2.length ≤ 1000 ∧ ∀ k ∈ f.2, k.2.2.length ≤ 1000
def P_kind_row : DP := fun ds μ Q => ∃ k, ds = [kindD k] ∧ k.2.2.length ≤ 1000 ∧ Q (kindD k) μ
def P_Fleet___init__ (Fleet : Addr) : DP := fun ds μ Q => ∃ a f, ds = [.obj a, fleetD f] ∧ μ a = some (.ins Fleet []) ∧ Few f ∧ Q .non (put μ a (.ins Fleet [("_colours", .tup (f.1.map .str)), ("_rows", .tup (f.2.map kindD))]))
def P_Fleet_plain (Fleet : Addr) : DP := fun ds μ Q => ∃ a f, ds = [.obj a] ∧ FleetAt Fleet a f μ ∧ Q (fleetD f) μ
def P_Fleet_kinds (Fleet : Addr) : DP := fun ds μ Q => ∃ a f, ds = [.obj a] ∧ FleetAt Fleet a f μ ∧ Few f ∧ ∀ p, μ p = none → Q (.obj p) (put μ p (.lst ((f.2.map (·.1)).map .str)))
def P_Fleet__row (Fleet NoKind : Addr) : DPX := fun ds μ Q E => ∃ a f x, ds = [.obj a, x] ∧ FleetAt Fleet a f μ ∧ Few f ∧ Any μ x ∧ match kindIn f x with
  | some k => Q (kindD k) μ
  | none => E NoKind [] μ
def P_Fleet_turn (Fleet NoKind : Addr) : DPX := fun ds μ Q E => ∃ a f x, ds = [.obj a, x] ∧ FleetAt Fleet a f μ ∧ Few f ∧ Any μ x ∧ match kindIn f x with
  | some k => Q (.int k.2.1) μ
  | none => E NoKind [] μ
def P_Fleet_lamps (Fleet NoKind : Addr) : DPX := fun ds μ Q E => ∃ a f x, ds = [.obj a, x] ∧ FleetAt Fleet a f μ ∧ Few f ∧ Any μ x ∧ match kindIn f x with
  | some k => Q (.lst (k.2.2.map lampD)) μ
  | none => E NoKind [] μ
def P_column (Fleet NoKind BadPoint : Addr) : DPX := fun ds μ Q E => ∃ a f x y, ds = [.obj a, x, y] ∧ FleetAt Fleet a f μ ∧ Few f ∧ Any μ x ∧ Any μ y ∧ match kindIn f x with
  | some k => if isNumB y 31 = true then ∀ b, y = .int b → Q (.tup ((colOf k.2.2 b).map .str)) μ else E BadPoint [] μ
  | none => E NoKind [] μ
def P_seen (Fleet NoKind BadPoint : Addr) : DPX := fun ds μ Q E => ∃ a f x y z, ds = [.obj a, x, y, z] ∧ FleetAt Fleet a f μ ∧ Few f ∧ Any μ x ∧ Any μ y ∧ Any μ z ∧ match kindIn f x with
  | some k => if isNumB y 31 = true then (if isNumB z 31 = true then ∀ c s, y = .int c → z = .int s → Q (.tup ((colOf k.2.2 ((s - c) % 32)).map .str)) μ else E BadPoint [] μ) else E BadPoint [] μ
  | none => E NoKind [] μ
/-! the laws' own -/
/-- the classes' addresses, and the word of each -/
structure Er where
  BadText : Addr
  NoKind : Addr
  BadPoint : Addr
  BadSight : Addr
  Full : Addr
  BadMoment : Addr
  BadBoats : Addr
  BadMany : Addr
  NoFoe : Addr
def Er.row (c : Er) : List (Addr × Str) := [(c.BadText, "text"), (c.NoKind, "kind"), (c.BadPoint, "point"), (c.BadSight, "sight"), (c.Full, "full"), (c.BadMoment, "moment"), (c.BadBoats, "boats"), (c.BadMany, "many"), (c.NoFoe, "foe")]
/-- the words of what is raised -/
def rw20 : List Str := ["kind", "point"]
def P_lw (R : List Str) (BadText NoKind BadPoint BadSight Full BadMoment BadBoats BadMany NoFoe : Addr) : DP := fun ds μ Q => ∃ C fs wd, ds = [.exc C fs] ∧ (C, wd) ∈ Er.row ⟨BadText, NoKind, BadPoint, BadSight, Full, BadMoment, BadBoats, BadMany, NoFoe⟩ ∧ wd ∈ R ∧ Q (.str wd) μ
abbrev P__law_word (BadText NoKind BadPoint BadSight Full BadMoment BadBoats BadMany NoFoe : Addr) : DP := P_lw rw20 BadText NoKind BadPoint BadSight Full BadMoment BadBoats BadMany NoFoe
def ptsOf (a b : Int) : List Int := (List.range (((b - a) % 32).toNat + 1)).map fun i => (a + (i : Nat)) % 32
def P__law_points : DP := fun ds μ Q => ∃ a b : Int, ds = [.int a, .int b] ∧ (0 ≤ a ∧ a < 32) ∧ (0 ≤ b ∧ b < 32) ∧ Q (.lst ((ptsOf a b).map .int)) μ
def P__law_shown : DP := fun ds μ Q => ∃ cs ls b, ds = [.tup (ls.map lampD), .int b] ∧ (∀ l ∈ ls, GoodLamp cs l) ∧ ls.length ≤ 1000 ∧ (0 ≤ b ∧ b < 32) ∧ Q (.tup ((colOf ls b).map .str)) μ
structure FleetOk (f : Flt) : Prop where
  c0 : 1 ≤ f.1.length
  c6 : f.1.length ≤ 6
  cn : ∀ c ∈ f.1, IsName c
  k1 : 1 ≤ f.2.length
  k6 : f.2.length ≤ 6
  kd : (f.2.map (·.1)).Nodup
  kn : ∀ k ∈ f.2, IsName k.1
  kg : ∀ k ∈ f.2, GoodKind f.1 k
  kx : ∀ a ∈ f.2.map (·.1), ∀ b ∈ f.2.map (·.1), a ++ ("x" : Str) ≠ b
def P__law_kind_right (Fleet : Addr) : DP := fun ds μ Q => ∃ m dg rest n a f k, ds = [.obj m, .obj a, kindD k] ∧ MOk m dg rest n μ ∧ n < 2^28 ∧ FleetAt Fleet a f μ ∧ FleetOk f ∧ k ∈ f.2 ∧ (a ≠ m ∧ a ≠ dg) ∧ ∀ μ', MOk m dg rest (n + 2) μ' → Fr m dg μ μ' → Q (.bl true) μ'
def P__law_refused_right (T : List (Addr × Str)) (Fleet : Addr) : DP := fun ds μ Q => ∃ m dg rest n a f k, ds = [.obj m, .obj a, .str k] ∧ MOk m dg rest n μ ∧ n < 2^28 ∧ FleetAt Fleet a f μ ∧ FleetOk f ∧ k ∈ f.2.map (·.1) ∧ (a ≠ m ∧ a ≠ dg) ∧ TabsAre T μ ∧ ∀ μ', MOk m dg rest (n + 4) μ' → Fr m dg μ μ' → Q (.bl true) μ'
end DL
set_option Elab.async false
set_option linter.all false
set_option maxRecDepth 100000
set_option maxHeartbeats 4000001
namespace DL
open PySem L2

def c_ROW_WORDS : D := .tup [.str "colours", .str "kind", .str "lamp", .str "sight"]
def td_is_name  : DS :=
  (dSeq (dIfS (dOrT (dTest (dOp (dIn false) (dVar 0) (dC c_ROW_WORDS))) (dNotT (dTest (dChain (dCmp fun i j => decide (i ≤ j)) (dCmp fun i j => decide (i ≤ j)) (dC (.int 1)) (dCB dLen (dConsA (dVar 0) dNilA)) (dC (.int 6)))))) (dRet (dC (.bl false))) dNext)
    (dRet (dCB dAll (dConsA (dLc false (diStr (dVar 0)) (dgName 1) dYes (dOp (dIn false) (dVar 1) (dC (.str "abcdefghijklmnopqrstuvwxyz"))) [1]) dNilA))))
def td_number_of  : DS :=
  (dSeq (dFor (diRng1 (dConsA (dOp (dAdd false) (dVar 1) (dC (.int 1))) dNilA)) (dgName 2) (dIfS (dTest (dOp (dEqn false) (dVar 0) (dCB dStr (dConsA (dVar 2) dNilA)))) (dRet (dVar 2)) dNext))
    (dRet (dC .non)))
def td_colours_of  : DS :=
  (dSeq (dAsg (dSl false (dVar 0) (dPart (dC (.int 1))) dNoPart) (dgName 1))
    (dSeq (dIfS (dOrT (dNotT (dTest (dChain (dCmp fun i j => decide (i ≤ j)) (dCmp fun i j => decide (i ≤ j)) (dC (.int 1)) (dCB dLen (dConsA (dVar 1) dNilA)) (dC (.int 6))))) (dTest (dOp (dCmp fun i j => decide (i < j)) (dLenSet (dVar 1)) (dCB dLen (dConsA (dVar 1) dNilA))))) (dRet (dC .non)) dNext)
    (dSeq (dIfS (dNotT (dTru (dCB dAll (dConsA (dLc false (diSeq (dVar 1)) (dgName 2) dYes (dCall P_is_name (dConsA (dVar 2) dNilA)) [2]) dNilA)))) (dRet (dC .non)) dNext)
    (dRet (dCB dTupOf (dConsA (dVar 1) dNilA))))))
def td_kind_of  : DS :=
  (dSeq (dIfS (dOrT (dTest (dOp (dEqn true) (dCB dLen (dConsA (dVar 0) dNilA)) (dC (.int 3)))) (dNotT (dTru (dCall P_is_name (dConsA (dOp dIx (dVar 0) (dC (.int 1))) dNilA))))) (dRet (dC .non)) dNext)
    (dSeq (dAsg (dCall P_number_of (dConsA (dOp dIx (dVar 0) (dC (.int 2))) (dConsA (dC (.int 16)) dNilA))) (dgName 1))
    (dSeq (dIfS (dTest (dOp (dIsN false) (dVar 1) (dC .non))) (dRet (dC .non)) dNext)
    (dRet (dTup (dConsA (dOp dIx (dVar 0) (dC (.int 1))) (dConsA (dVar 1) dNilA)))))))
def td_lamp_of  : DS :=
  (dSeq (dIfS (dOrT (dTest (dOp (dEqn true) (dCB dLen (dConsA (dVar 0) dNilA)) (dC (.int 4)))) (dTest (dOp (dIn true) (dOp dIx (dVar 0) (dC (.int 1))) (dVar 1)))) (dRet (dC .non)) dNext)
    (dSeq (dAsg (dCall P_number_of (dConsA (dOp dIx (dVar 0) (dC (.int 2))) (dConsA (dC (.int 31)) dNilA))) (dgName 2))
    (dSeq (dAsg (dCall P_number_of (dConsA (dOp dIx (dVar 0) (dC (.int 3))) (dConsA (dC (.int 31)) dNilA))) (dgName 3))
    (dSeq (dIfS (dOrT (dTest (dOp (dIsN false) (dVar 2) (dC .non))) (dTest (dOp (dIsN false) (dVar 3) (dC .non)))) (dRet (dC .non)) dNext)
    (dRet (dTup (dConsA (dOp dIx (dVar 0) (dC (.int 1))) (dConsA (dVar 2) (dConsA (dVar 3) dNilA)))))))))
def td_sight_of  : DS :=
  (dSeq (dIfS (dNotT (dTest (dChain (dCmp fun i j => decide (i ≤ j)) (dCmp fun i j => decide (i ≤ j)) (dC (.int 3)) (dCB dLen (dConsA (dVar 0) dNilA)) (dOp (dAdd false) (dC (.int 3)) (dC (.int 6)))))) (dRet (dC .non)) dNext)
    (dSeq (dAsg (dCall P_number_of (dConsA (dOp dIx (dVar 0) (dC (.int 1))) (dConsA (dC (.int 99)) dNilA))) (dgName 2))
    (dSeq (dAsg (dCall P_number_of (dConsA (dOp dIx (dVar 0) (dC (.int 2))) (dConsA (dC (.int 31)) dNilA))) (dgName 3))
    (dSeq (dAsg (dCB dTupOf (dConsA (dSl false (dVar 0) (dPart (dC (.int 3))) dNoPart) dNilA)) (dgName 4))
    (dSeq (dIfS (dOrT (dTest (dOp (dIsN false) (dVar 2) (dC .non))) (dTest (dOp (dIsN false) (dVar 3) (dC .non)))) (dRet (dC .non)) dNext)
    (dSeq (dIfS (dNotT (dTru (dCB dAll (dConsA (dLc false (diSeq (dVar 4)) (dgName 5) dYes (dOp (dIn false) (dVar 5) (dVar 1)) [5]) dNilA)))) (dRet (dC .non)) dNext)
    (dRet (dTup (dConsA (dVar 2) (dConsA (dVar 3) (dConsA (dVar 4) dNilA)))))))))))
def td_words_of  : DS :=
  (dRet (dLc false (diSeq (dM1 (dSplit false) (dOp dIx (dM1 (dSplit false) (dVar 0) (dC (.str "#"))) (dC (.int 0))) (dC (.str " ")))) (dgName 1) (dTru (dVar 1)) (dVar 1) [1]))
def td_Draft___init__ (Draft : Addr) : DS :=
  (dSeq (dsFld Draft "_colours" (dVar 0) (dTup dNilA))
    (dSeq (dsFld Draft "_kinds" (dVar 0) (dLst true dNilA))
    (dsFld Draft "_sights" (dVar 0) (dLst true dNilA))))
def td_Draft_lacks (Draft : Addr) : DS :=
  (dRet (dOrV (dNotV (dFld Draft "_kinds" (dVar 0))) (dNotV (dOp dIx (dOp dIx (dFld Draft "_kinds" (dVar 0)) (dNeg (dC (.int 1)))) (dC (.int 2))))))
def td_Draft__may_begin_kind (Draft : Addr) : DS :=
  (dSeq (dIfS (dOrT (dNotT (dTru (dFld Draft "_colours" (dVar 0)))) (dTru (dFld Draft "_sights" (dVar 0)))) (dRet (dC (.bl false))) dNext)
    (dRet (dOrV (dNotV (dFld Draft "_kinds" (dVar 0))) (dAndV (dNotV (dMeth Draft "lacks" (P_Draft_lacks Draft) (dVar 0) dNilA)) (dOp (dCmp fun i j => decide (i < j)) (dCB dLen (dConsA (dFld Draft "_kinds" (dVar 0)) dNilA)) (dC (.int 6)))))))
def td_Draft__take_colours (Draft : Addr) : DS :=
  (dSeq (dAsg (dCall P_colours_of (dConsA (dVar 1) dNilA)) (dgName 2))
    (dSeq (dIfS (dOrT (dTru (dFld Draft "_colours" (dVar 0))) (dTest (dOp (dIsN false) (dVar 2) (dC .non)))) (dRet (dC (.bl false))) dNext)
    (dSeq (dsFld Draft "_colours" (dVar 0) (dVar 2))
    (dRet (dC (.bl true))))))
def td_Draft__take_kind (Draft : Addr) : DS :=
  (dSeq (dAsg (dCall P_kind_of (dConsA (dVar 1) dNilA)) (dgName 2))
    (dSeq (dIfS (dOrT (dTest (dOp (dIsN false) (dVar 2) (dC .non))) (dNotT (dTru (dMeth Draft "_may_begin_kind" (P_Draft__may_begin_kind Draft) (dVar 0) dNilA)))) (dRet (dC (.bl false))) dNext)
    (dSeq (dAsg (dVar 2) (dgTup [3, 4]))
    (dSeq (dIfS (dTest (dOp (dIn false) (dVar 3) (dLc false (diSeq (dFld Draft "_kinds" (dVar 0))) (dgName 5) dYes (dOp dIx (dVar 5) (dC (.int 0))) [5]))) (dRet (dC (.bl false))) dNext)
    (dSeq (dDrop (dBML dAppend (dFld Draft "_kinds" (dVar 0)) (dConsA (dTup (dConsA (dVar 3) (dConsA (dVar 4) (dConsA (dLst true dNilA) dNilA)))) dNilA)))
    (dRet (dC (.bl true))))))))
def td_Draft__take_lamp (Draft : Addr) : DS :=
  (dSeq (dAsg (dCall P_lamp_of (dConsA (dVar 1) (dConsA (dFld Draft "_colours" (dVar 0)) dNilA))) (dgName 2))
    (dSeq (dIfS (dOrT (dTest (dOp (dIsN false) (dVar 2) (dC .non))) (dOrT (dNotT (dTru (dFld Draft "_kinds" (dVar 0)))) (dTru (dFld Draft "_sights" (dVar 0))))) (dRet (dC (.bl false))) dNext)
    (dSeq (dAsg (dOp dIx (dOp dIx (dFld Draft "_kinds" (dVar 0)) (dNeg (dC (.int 1)))) (dC (.int 2))) (dgName 3))
    (dSeq (dIfS (dTest (dOp (dEqn false) (dCB dLen (dConsA (dVar 3) dNilA)) (dC (.int 6)))) (dRet (dC (.bl false))) dNext)
    (dSeq (dDrop (dBML dAppend (dVar 3) (dConsA (dVar 2) dNilA)))
    (dRet (dC (.bl true))))))))
def td_Draft__take_sight (Draft : Addr) : DS :=
  (dSeq (dAsg (dCall P_sight_of (dConsA (dVar 1) (dConsA (dFld Draft "_colours" (dVar 0)) dNilA))) (dgName 2))
    (dSeq (dIfS (dOrT (dTest (dOp (dIsN false) (dVar 2) (dC .non))) (dOrT (dTru (dMeth Draft "lacks" (P_Draft_lacks Draft) (dVar 0) dNilA)) (dTest (dOp (dEqn false) (dCB dLen (dConsA (dFld Draft "_sights" (dVar 0)) dNilA)) (dC (.int 60)))))) (dRet (dC (.bl false))) dNext)
    (dSeq (dDrop (dBML dAppend (dFld Draft "_sights" (dVar 0)) (dConsA (dVar 2) dNilA)))
    (dRet (dC (.bl true))))))
def td_Draft_take (Draft : Addr) : DS :=
  (dSeq (dAsg (dOp dIx (dVar 1) (dC (.int 0))) (dgName 2))
    (dSeq (dIfS (dTest (dOp (dEqn false) (dVar 2) (dC (.str "colours")))) (dRet (dMeth Draft "_take_colours" (P_Draft__take_colours Draft) (dVar 0) (dConsA (dVar 1) dNilA))) dNext)
    (dSeq (dIfS (dTest (dOp (dEqn false) (dVar 2) (dC (.str "kind")))) (dRet (dMeth Draft "_take_kind" (P_Draft__take_kind Draft) (dVar 0) (dConsA (dVar 1) dNilA))) dNext)
    (dSeq (dIfS (dTest (dOp (dEqn false) (dVar 2) (dC (.str "lamp")))) (dRet (dMeth Draft "_take_lamp" (P_Draft__take_lamp Draft) (dVar 0) (dConsA (dVar 1) dNilA))) dNext)
    (dRet (dAndV (dOp (dEqn false) (dVar 2) (dC (.str "sight"))) (dMeth Draft "_take_sight" (P_Draft__take_sight Draft) (dVar 0) (dConsA (dVar 1) dNilA))))))))
def td_Draft_told (Draft : Addr) : DS :=
  (dSeq (dAsg (dCB dTupOf (dConsA (dLc false (diSeq (dFld Draft "_kinds" (dVar 0))) (dgTup [2, 3, 4]) dYes (dTup (dConsA (dVar 2) (dConsA (dVar 3) (dConsA (dCB dTupOf (dConsA (dVar 4) dNilA)) dNilA)))) [2, 3, 4]) dNilA)) (dgName 1))
    (dRet (dTup (dConsA (dTup (dConsA (dFld Draft "_colours" (dVar 0)) (dConsA (dVar 1) dNilA))) (dConsA (dCB (dListOf false) (dConsA (dFld Draft "_sights" (dVar 0)) dNilA)) dNilA)))))
def td__law_mixed  : DS :=
  (dSeq (dAsg (dOp (dAdd false) (dOp (dAdd false) (dOp dMod (dOp (dMul false) (dOp (dMul false) (dVar 0) (dOp (dAdd false) (dC (.int 1)) (dOp (dMul false) (dC (.int 2)) (dVar 1)))) (dC (.int 48271))) (dC (.int 2147483647))) (dOp (dMul false) (dOp (dMul false) (dC (.int 7919)) (dVar 1)) (dVar 1))) (dOp (dMul false) (dC (.int 104729)) (dVar 1))) (dgName 2))
    (dRet (dOp dFDiv (dOp dMod (dOp (dMul false) (dVar 2) (dC (.int 69621))) (dC (.int 2147483629))) (dC (.int 7)))))
def td__law_folded  : DS :=
  (dSeq (dAsg (dLc true (diRng1 (dConsA (dC (.int 64)) dNilA)) (dgName 2) dYes (dOp (dAdd false) (dC (.int 17)) (dVar 2)) [2]) (dgName 1))
    (dSeq (dFor (diEnumS (dConsA (dVar 0) dNilA)) (dgTup [2, 3]) (dAsg (dOp dMod (dOp (dAdd false) (dOp (dMul false) (dOp dIx (dVar 1) (dOp dMod (dVar 2) (dC (.int 64)))) (dC (.int 48271))) (dVar 3)) (dC (.int 2147483647))) (dgSub (dVar 1) (dOp dMod (dVar 2) (dC (.int 64))))))
    (dSeq (dFor (diRng2 (dConsA (dC (.int 1)) (dConsA (dC (.int 64)) dNilA))) (dgName 2) (dAsg (dOp dMod (dOp (dAdd false) (dOp dIx (dVar 1) (dVar 2)) (dOp (dMul false) (dOp dIx (dVar 1) (dOp dSub (dVar 2) (dC (.int 1)))) (dC (.int 16807)))) (dC (.int 2147483647))) (dgSub (dVar 1) (dVar 2))))
    (dRet (dVar 1)))))
def td__law_draw  : DS :=
  (dSeq (dAsg (dDGet (dVar 0) (dC (.str "at"))) (dgName 2))
    (dSeq (dDPut (dVar 0) (dC (.str "at")) (dOp (dAdd false) (dVar 2) (dC (.int 1))))
    (dSeq (dIfS (dTest (dOp (dEqn true) (dDGet (dVar 0) (dC (.str "digits"))) (dLst false dNilA))) (dSeq (dAsg (dOp dMod (dVar 2) (dCB dLen (dConsA (dDGet (dVar 0) (dC (.str "digits"))) dNilA))) (dgName 3))
    (dSeq (dAsg (dOp dIx (dDGet (dVar 0) (dC (.str "digits"))) (dVar 3)) (dgName 4))
    (dSeq (dAsg (dOp dFDiv (dVar 4) (dVar 1)) (dgSub (dDGet (dVar 0) (dC (.str "digits"))) (dVar 3)))
    (dRet (dOp dMod (dVar 4) (dVar 1)))))) dNext)
    (dRet (dOp dMod (dCall P__law_mixed (dConsA (dCall P__law_mixed (dConsA (dOp (dAdd false) (dOp dIx (dDGet (dVar 0) (dC (.str "cells"))) (dOp dMod (dVar 2) (dC (.int 64)))) (dOp (dMul false) (dC (.int 31)) (dOp dFDiv (dVar 2) (dC (.int 64))))) (dConsA (dVar 2) dNilA))) (dConsA (dOp (dAdd false) (dVar 2) (dC (.int 7))) dNilA))) (dVar 1))))))
def td__law_names  : DS :=
  (dSeq (dAsg (dC (.str "abcdefghijklmnopqrstuvwxyz")) (dgName 2))
    (dSeq (dIfS (dTest (dOp (dEqn false) (dOp dMod (dVar 0) (dC (.int 4))) (dC (.int 3)))) (dRet (dLc false (diRng1 (dConsA (dVar 1) dNilA)) (dgName 3) dYes (dOp (dMul false) (dOp dIx (dVar 2) (dOp dMod (dOp dSub (dOp dFDiv (dVar 0) (dC (.int 4))) (dVar 3)) (dC (.int 26)))) (dOp (dAdd false) (dC (.int 1)) (dVar 3))) [3])) dNext)
    (dSeq (dAsg (dOp (dAdd false) (dC (.int 1)) (dOp dMod (dOp dFDiv (dVar 0) (dC (.int 3))) (dC (.int 6)))) (dgName 4))
    (dSeq (dAsg (dOp dIx (dLst false (dConsA (dOp dMod (dOp dFDiv (dVar 0) (dC (.int 18))) (dVar 4)) (dConsA (dC (.int 0)) (dConsA (dOp dSub (dVar 4) (dC (.int 1))) dNilA)))) (dOp dMod (dVar 0) (dC (.int 3)))) (dgName 5))
    (dSeq (dAsg (dLc false (diRng1 (dConsA (dC (.int 6)) dNilA)) (dgName 7) dYes (dOp dIx (dVar 2) (dOp dMod (dOp (dAdd false) (dOp dFDiv (dVar 0) (dC (.int 7))) (dOp (dMul false) (dC (.int 5)) (dVar 7))) (dC (.int 26)))) [7]) (dgName 6))
    (dSeq (dAsg (dLst true dNilA) (dgName 8))
    (dSeq (dFor (diRng1 (dConsA (dVar 1) dNilA)) (dgName 3) (dSeq (dAsg (dOp dIx (dVar 2) (dOp dMod (dOp (dAdd false) (dOp dFDiv (dVar 0) (dC (.int 11))) (dVar 3)) (dC (.int 26)))) (dgName 9))
    (dDrop (dBML dAppend (dVar 8) (dConsA (dM1 dJoin (dC (.str "")) (dOp (dAdd false) (dOp (dAdd false) (dSl false (dVar 6) dNoPart (dPart (dVar 5))) (dLst false (dConsA (dVar 9) dNilA))) (dSl false (dVar 6) (dPart (dOp (dAdd false) (dVar 5) (dC (.int 1)))) (dPart (dVar 4))))) dNilA)))))
    (dSeq (dAsg (dLst false (dConsA (dC (.str "colours")) (dConsA (dC (.str "kind")) (dConsA (dC (.str "lamp")) (dConsA (dC (.str "sight")) dNilA))))) (dgName 10))
    (dSeq (dIfS (dTest (dOp (dEqn true) (dLc false (diSeq (dVar 8)) (dgName 11) (dTest (dOp (dIn false) (dVar 11) (dVar 10))) (dVar 11) [11]) (dLst false dNilA))) (dRet (dLc false (diRng1 (dConsA (dVar 1) dNilA)) (dgName 3) dYes (dOp (dAdd false) (dC (.str "f")) (dOp dIx (dVar 2) (dVar 3))) [3])) dNext)
    (dRet (dVar 8)))))))))))
def td__law_lamp  : DS :=
  (dSeq (dAsg (dCall P__law_draw (dConsA (dVar 0) (dConsA (dC (.int 32)) dNilA))) (dgName 2))
    (dSeq (dAsg (dOp dIx (dLst false (dConsA (dC (.int 0)) (dConsA (dC (.int 3)) (dConsA (dC (.int 9)) (dConsA (dC (.int 11)) (dConsA (dC (.int 19)) (dConsA (dC (.int 31)) (dConsA (dCall P__law_draw (dConsA (dVar 0) (dConsA (dC (.int 32)) dNilA))) dNilA)))))))) (dCall P__law_draw (dConsA (dVar 0) (dConsA (dC (.int 7)) dNilA)))) (dgName 3))
    (dRet (dTup (dConsA (dOp dIx (dVar 1) (dCall P__law_draw (dConsA (dVar 0) (dConsA (dCB dLen (dConsA (dVar 1) dNilA)) dNilA)))) (dConsA (dVar 2) (dConsA (dOp dMod (dOp (dAdd false) (dVar 2) (dVar 3)) (dC (.int 32))) dNilA)))))))
def td__law_lamps  : DS :=
  (dSeq (dIfS (dOrT (dTest (dOp (dEqn false) (dVar 2) (dLst false dNilA))) (dTest (dOp (dCmp fun i j => decide (i < j)) (dCall P__law_draw (dConsA (dVar 0) (dConsA (dC (.int 5)) dNilA))) (dC (.int 2))))) (dRet (dCB dTupOf (dConsA (dLc false (diRng1 (dConsA (dOp (dAdd false) (dC (.int 1)) (dCall P__law_draw (dConsA (dVar 0) (dConsA (dC (.int 4)) dNilA)))) dNilA)) (dgName 3) dYes (dCall P__law_lamp (dConsA (dVar 0) (dConsA (dVar 1) dNilA))) [3]) dNilA))) dNext)
    (dSeq (dAsg (dCB (dListOf true) (dConsA (dOp dIx (dOp dIx (dVar 2) (dCall P__law_draw (dConsA (dVar 0) (dConsA (dCB dLen (dConsA (dVar 2) dNilA)) dNilA)))) (dC (.int 2))) dNilA)) (dgName 4))
    (dSeq (dAsg (dCall P__law_draw (dConsA (dVar 0) (dConsA (dCB dLen (dConsA (dVar 4) dNilA)) dNilA))) (dgName 5))
    (dSeq (dAsg (dCall P__law_draw (dConsA (dVar 0) (dConsA (dC (.int 4)) dNilA))) (dgName 6))
    (dSeq (dIfS (dAndT (dTest (dOp (dEqn false) (dVar 6) (dC (.int 0)))) (dTest (dOp (dCmp fun i j => decide (i < j)) (dCB dLen (dConsA (dVar 4) dNilA)) (dC (.int 6))))) (dDrop (dBML dInsert (dVar 4) (dConsA (dVar 5) (dConsA (dCall P__law_lamp (dConsA (dVar 0) (dConsA (dVar 1) dNilA))) dNilA)))) (dIfS (dAndT (dTest (dOp (dEqn false) (dVar 6) (dC (.int 1)))) (dTest (dOp (dCmp fun i j => decide (j < i)) (dCB dLen (dConsA (dVar 4) dNilA)) (dC (.int 1))))) (dDrop (dBML dPopAt (dVar 4) (dConsA (dVar 5) dNilA))) (dIfS (dTest (dOp (dEqn false) (dVar 6) (dC (.int 2)))) (dSeq (dAsg (dOp dIx (dVar 4) (dVar 5)) (dgTup [7, 8, 9]))
    (dAsg (dTup (dConsA (dVar 7) (dConsA (dVar 8) (dConsA (dOp dMod (dOp (dAdd false) (dOp (dAdd false) (dVar 9) (dC (.int 1))) (dCall P__law_draw (dConsA (dVar 0) (dConsA (dC (.int 3)) dNilA)))) (dC (.int 32))) dNilA)))) (dgSub (dVar 4) (dVar 5)))) (dAsg (dCall P__law_lamp (dConsA (dVar 0) (dConsA (dVar 1) dNilA))) (dgSub (dVar 4) (dVar 5))))))
    (dRet (dCB dTupOf (dConsA (dVar 4) dNilA))))))))
def td__law_fleet  : DS :=
  (dSeq (dAsg (dCB dInt (dConsA (dOp (dEqn false) (dCall P__law_draw (dConsA (dVar 0) (dConsA (dC (.int 8)) dNilA))) (dC (.int 0))) dNilA)) (dgName 1))
    (dSeq (dAsg (dCB dTupOf (dConsA (dSl false (dDGet (dVar 0) (dC (.str "colours"))) dNoPart (dPart (dOp (dAdd false) (dC (.int 1)) (dCall P__law_draw (dConsA (dVar 0) (dConsA (dOp dIx (dLst false (dConsA (dC (.int 4)) (dConsA (dC (.int 6)) dNilA))) (dVar 1)) dNilA)))))) dNilA)) (dgName 2))
    (dSeq (dAsg (dLst true dNilA) (dgName 3))
    (dSeq (dFor (diSeq (dSl false (dDGet (dVar 0) (dC (.str "kinds"))) dNoPart (dPart (dOp (dAdd false) (dC (.int 1)) (dCall P__law_draw (dConsA (dVar 0) (dConsA (dOp dIx (dLst false (dConsA (dC (.int 4)) (dConsA (dC (.int 6)) dNilA))) (dVar 1)) dNilA))))))) (dgName 4) (dSeq (dAsg (dOp dIx (dLst false (dConsA (dC (.int 0)) (dConsA (dC (.int 1)) (dConsA (dC (.int 2)) (dConsA (dC (.int 4)) (dConsA (dC (.int 16)) (dConsA (dCall P__law_draw (dConsA (dVar 0) (dConsA (dC (.int 17)) dNilA))) dNilA))))))) (dCall P__law_draw (dConsA (dVar 0) (dConsA (dC (.int 6)) dNilA)))) (dgName 5))
    (dDrop (dBML dAppend (dVar 3) (dConsA (dTup (dConsA (dVar 4) (dConsA (dVar 5) (dConsA (dCall P__law_lamps (dConsA (dVar 0) (dConsA (dVar 2) (dConsA (dVar 3) dNilA)))) dNilA)))) dNilA)))))
    (dRet (dTup (dConsA (dVar 2) (dConsA (dCB dTupOf (dConsA (dVar 3) dNilA)) dNilA))))))))
def td__law_column  : DS :=
  (dSeq (dAsg (dOp dMod (dOp dSub (dVar 2) (dOp dIx (dVar 1) (dC (.int 1)))) (dC (.int 32))) (dgName 3))
    (dSeq (dAsg (dLst true dNilA) (dgName 4))
    (dSeq (dFor (diSeq (dOp dIx (dVar 0) (dC (.int 1)))) (dgTup [5, 6, 7]) (dFor (diSeq (dVar 7)) (dgTup [8, 9, 10]) (dIfS (dAndT (dTest (dOp (dEqn false) (dVar 5) (dOp dIx (dVar 1) (dC (.int 0))))) (dTest (dOp (dCmp fun i j => decide (i ≤ j)) (dOp dMod (dOp dSub (dVar 3) (dVar 9)) (dC (.int 32))) (dOp dMod (dOp dSub (dVar 10) (dVar 9)) (dC (.int 32)))))) (dDrop (dBML dAppend (dVar 4) (dConsA (dVar 8) dNilA))) dNext)))
    (dRet (dCB dTupOf (dConsA (dVar 4) dNilA))))))
def td__law_sights_1  : DS :=
  (dDrop (dBML dInsert (dVar 8) (dConsA (dCall P__law_draw (dConsA (dVar 0) (dConsA (dOp (dAdd false) (dCB dLen (dConsA (dVar 8) dNilA)) (dC (.int 1))) dNilA))) (dConsA (dTup (dConsA (dVar 7) (dConsA (dVar 11) (dConsA (dVar 12) dNilA)))) dNilA))))
def td__law_sights_2  : DS :=
  (dSeq (dIfS (dTest (dOp (dEqn false) (dCall P__law_draw (dConsA (dVar 0) (dConsA (dC (.int 24)) dNilA))) (dC (.int 0)))) (dSeq (dAsg (dCall P__law_draw (dConsA (dVar 0) (dConsA (dC (.int 7)) dNilA))) (dgName 14))
    (dAsg (dCB dTupOf (dConsA (dLc false (diRng1 (dConsA (dVar 14) dNilA)) (dgName 15) dYes (dOp dIx (dOp dIx (dVar 1) (dC (.int 0))) (dCall P__law_draw (dConsA (dVar 0) (dConsA (dCB dLen (dConsA (dOp dIx (dVar 1) (dC (.int 0))) dNilA)) dNilA)))) [15]) dNilA)) (dgName 12))) dNext)
    (td__law_sights_1 ))
def td__law_sights  : DS :=
  (dSeq (dAsg (dOp dIx (dOp dIx (dVar 1) (dC (.int 1))) (dCall P__law_draw (dConsA (dVar 0) (dConsA (dCB dLen (dConsA (dOp dIx (dVar 1) (dC (.int 1))) dNilA)) dNilA)))) (dgTup [3, 4, 5]))
    (dSeq (dAsg (dCall P__law_draw (dConsA (dVar 0) (dConsA (dC (.int 32)) dNilA))) (dgName 6))
    (dSeq (dAsg (dC (.int 0)) (dgName 7))
    (dSeq (dAsg (dLst true dNilA) (dgName 8))
    (dSeq (dFor (diRng1 (dConsA (dCall P__law_draw (dConsA (dVar 0) (dConsA (dOp (dAdd false) (dVar 2) (dC (.int 1))) dNilA))) dNilA)) (dgName 9) (dSeq (dFor (diRng1 (dConsA (dOp dIx (dLst false (dConsA (dC (.int 0)) (dConsA (dC (.int 0)) (dConsA (dC (.int 1)) (dConsA (dC (.int 1)) (dConsA (dC (.int 2)) (dConsA (dC (.int 5)) dNilA))))))) (dCall P__law_draw (dConsA (dVar 0) (dConsA (dC (.int 6)) dNilA)))) dNilA)) (dgName 10) (dIfS (dTest (dOp (dCmp fun i j => decide (i < j)) (dVar 7) (dC (.int 99)))) (dSeq (dAsg (dOp (dAdd false) (dVar 7) (dC (.int 1))) (dgName 7))
    (dAsg (dOp dMod (dOp dSub (dOp (dAdd false) (dVar 6) (dCall P__law_draw (dConsA (dVar 0) (dConsA (dOp (dAdd false) (dOp (dMul false) (dC (.int 2)) (dVar 4)) (dC (.int 1))) dNilA)))) (dVar 4)) (dC (.int 32))) (dgName 6))) dNext))
    (dSeq (dAsg (dCall P__law_draw (dConsA (dVar 0) (dConsA (dC (.int 32)) dNilA))) (dgName 11))
    (dSeq (dAsg (dCall P__law_column (dConsA (dVar 1) (dConsA (dTup (dConsA (dVar 3) (dConsA (dVar 6) dNilA))) (dConsA (dVar 11) dNilA)))) (dgName 12))
    (dSeq (dIfS (dAndT (dTest (dOp (dEqn true) (dVar 12) (dTup dNilA))) (dTest (dOp (dEqn false) (dCall P__law_draw (dConsA (dVar 0) (dConsA (dC (.int 4)) dNilA))) (dC (.int 0))))) (dSeq (dAsg (dCall P__law_draw (dConsA (dVar 0) (dConsA (dCB dLen (dConsA (dVar 12) dNilA)) dNilA))) (dgName 13))
    (dAsg (dOp (dAdd false) (dSl false (dVar 12) dNoPart (dPart (dVar 13))) (dSl false (dVar 12) (dPart (dOp (dAdd false) (dVar 13) (dC (.int 1)))) dNoPart)) (dgName 12))) dNext)
    (td__law_sights_2 ))))))
    (dRet (dVar 8)))))))
def td__law_begun_1  : DS :=
  (dSeq (dDPut (dVar 1) (dC (.str "colours")) (dCall P__law_names (dConsA (dOp dIx (dVar 2) (dC (.int 0))) (dConsA (dC (.int 6)) dNilA))))
    (dSeq (dDPut (dVar 1) (dC (.str "kinds")) (dCall P__law_names (dConsA (dOp dIx (dVar 2) (dC (.int 1))) (dConsA (dC (.int 6)) dNilA))))
    (dRet (dVar 1))))
def td__law_begun_2  : DS :=
  (dSeq (dAsg (dLc false (diRng1 (dConsA (dC (.int 2)) dNilA)) (dgName 3) dYes (dCall P__law_draw (dConsA (dVar 1) (dConsA (dOp dPow (dC (.int 10)) (dC (.int 6))) dNilA))) [3]) (dgName 2))
    (dSeq (dIfS (dTest (dOp (dEqn false) (dCall P__law_draw (dConsA (dVar 1) (dConsA (dC (.int 4)) dNilA))) (dC (.int 0)))) (dAsg (dOp (dMul false) (dSl false (dVar 2) dNoPart (dPart (dC (.int 1)))) (dC (.int 2))) (dgName 2)) dNext)
    (td__law_begun_1 )))
def td__law_begun  : DS :=
  (dSeq (dAsg (dDisp (((dC (.str "cells")), (dCall P__law_folded (dConsA (dVar 0) dNilA))) :: (((dC (.str "digits")), (dLst true dNilA)) :: (((dC (.str "at")), (dC (.int 0))) :: [])))) (dgName 1))
    (dSeq (dIfS (dAndT (dTest (dOp (dEqn true) (dVar 0) (dLst false dNilA))) (dTest (dOp (dEqn false) (dOp dMod (dOp dIx (dVar 0) (dC (.int 0))) (dC (.int 2))) (dC (.int 1))))) (dDPut (dVar 1) (dC (.str "digits")) (dOp (dAdd true) (dLst false (dConsA (dOp dFDiv (dOp dIx (dVar 0) (dC (.int 0))) (dC (.int 2))) dNilA)) (dSl false (dVar 0) (dPart (dC (.int 1))) dNoPart))) dNext)
    (td__law_begun_2 )))
def td__law_row  : DS :=
  (dRet (dM1 dJoin (dC (.str " ")) (dLc false (diSeq (dVar 0)) (dgName 1) dYes (dCB dStr (dConsA (dVar 1) dNilA)) [1])))
def td__law_sight_row  : DS :=
  (dRet (dCall P__law_row (dConsA (dOp (dAdd false) (dOp (dAdd false) (dTup (dConsA (dC (.str "sight")) dNilA)) (dSl false (dVar 0) dNoPart (dPart (dC (.int 2))))) (dOp dIx (dVar 0) (dC (.int 2)))) dNilA)))
def td__law_lines  : DS :=
  (dSeq (dAsg (dLst true (dConsA (dCall P__law_row (dConsA (dOp (dAdd false) (dTup (dConsA (dC (.str "colours")) dNilA)) (dOp dIx (dVar 0) (dC (.int 0)))) dNilA)) dNilA)) (dgName 2))
    (dSeq (dFor (diSeq (dOp dIx (dVar 0) (dC (.int 1)))) (dgTup [3, 4, 5]) (dSeq (dDrop (dBML dAppend (dVar 2) (dConsA (dCall P__law_row (dConsA (dLst false (dConsA (dC (.str "kind")) (dConsA (dVar 3) (dConsA (dVar 4) dNilA)))) dNilA)) dNilA)))
    (dAsg (dOp (dAdd true) (dVar 2) (dLc false (diSeq (dVar 5)) (dgName 6) dYes (dCall P__law_row (dConsA (dOp (dAdd false) (dTup (dConsA (dC (.str "lamp")) dNilA)) (dVar 6)) dNilA)) [6])) (dgName 2))))
    (dRet (dOp (dAdd false) (dVar 2) (dLc false (diSeq (dVar 1)) (dgName 7) dYes (dCall P__law_sight_row (dConsA (dVar 7) dNilA)) [7])))))
def td__law_odd_first  : DS :=
  (dSeq (dAsg (dLst false (dConsA (dC (.str "colours")) (dConsA (dC (.str "colours a a")) (dConsA (dC (.str "colours A")) (dConsA (dC (.str "colours abcdefg")) (dConsA (dC (.str "colours kind")) (dConsA (dC (.str "colours a b c d e f g")) dNilA))))))) (dgName 1))
    (dSeq (dAsg (dOp (dAdd false) (dVar 1) (dLst false (dConsA (dC (.str "colours a1")) (dConsA (dC (.str "kind a 1")) (dConsA (dC (.str "lamp a 1 1")) (dConsA (dC (.str "sight 1 1")) (dConsA (dC (.str "Colours a")) (dConsA (dC (.str "colours a, b")) (dConsA (dC (.str "colour a")) dNilA))))))))) (dgName 1))
    (dSeq (dAsg (dOp (dAdd false) (dVar 1) (dLst false (dConsA (dC (.str "colours a 1")) (dConsA (dC (.str "colours sight")) (dConsA (dC (.str "colours a lamp")) (dConsA (dC (.str "colours\ta")) (dConsA (dC (.str "colours a b a")) (dConsA (dC (.str "colours colours")) dNilA)))))))) (dgName 1))
    (dRet (dOp dIx (dVar 1) (dCall P__law_draw (dConsA (dVar 0) (dConsA (dC (.int 19)) dNilA))))))))
def td__law_odd_kind  : DS :=
  (dSeq (dAsg (dLst false (dConsA (dC (.str "kind")) (dConsA (dC (.str "kind zzq")) (dConsA (dC (.str "kind zzq 17")) (dConsA (dC (.str "kind zzq -1")) (dConsA (dC (.str "kind zzq 01")) (dConsA (dC (.str "kind zzq 1 1")) (dConsA (dC (.str "kind zzq x")) (dConsA (dC (.str "kind 1 1")) dNilA))))))))) (dgName 2))
    (dSeq (dAsg (dOp (dAdd false) (dVar 2) (dLst false (dConsA (dC (.str "kind zzqzzqz 1")) (dConsA (dC (.str "kind Zq 1")) (dConsA (dC (.str "kind lamp 1")) (dConsA (dOp (dAdd false) (dOp (dAdd false) (dC (.str "kind ")) (dVar 1)) (dC (.str " 1"))) (dConsA (dC (.str "colours a")) (dConsA (dC (.str "kinds zzq 1")) dNilA)))))))) (dgName 2))
    (dRet (dOp dIx (dOp (dAdd false) (dVar 2) (dLst false (dConsA (dC (.str "kind zzq 1.0")) (dConsA (dC (.str "kind sight 2")) (dConsA (dC (.str "kind zzq 1_0")) (dConsA (dC (.str "kind zzq 100")) dNilA)))))) (dCall P__law_draw (dConsA (dVar 0) (dConsA (dC (.int 18)) dNilA)))))))
def td__law_odd_lamp  : DS :=
  (dSeq (dAsg (dLst false (dConsA (dC (.str "lamp")) (dConsA (dOp (dAdd false) (dC (.str "lamp ")) (dVar 1)) (dConsA (dOp (dAdd false) (dOp (dAdd false) (dC (.str "lamp ")) (dVar 1)) (dC (.str " 1"))) (dConsA (dOp (dAdd false) (dOp (dAdd false) (dC (.str "lamp ")) (dVar 1)) (dC (.str " 32 1"))) (dConsA (dOp (dAdd false) (dOp (dAdd false) (dC (.str "lamp ")) (dVar 1)) (dC (.str " 1 32"))) dNilA)))))) (dgName 2))
    (dSeq (dAsg (dOp (dAdd false) (dVar 2) (dLst false (dConsA (dOp (dAdd false) (dOp (dAdd false) (dC (.str "lamp ")) (dVar 1)) (dC (.str " -1 1"))) (dConsA (dOp (dAdd false) (dOp (dAdd false) (dC (.str "lamp ")) (dVar 1)) (dC (.str " 01 1"))) (dConsA (dC (.str "lamp zzq 1 2")) dNilA))))) (dgName 2))
    (dSeq (dAsg (dOp (dAdd false) (dVar 2) (dLst false (dConsA (dOp (dAdd false) (dOp (dAdd false) (dC (.str "lamp ")) (dVar 1)) (dC (.str " x 2"))) (dConsA (dOp (dAdd false) (dC (.str "lamp 1 2 ")) (dVar 1)) (dConsA (dC (.str "lamp 1 2")) (dConsA (dOp (dAdd false) (dOp (dAdd false) (dC (.str "lamps ")) (dVar 1)) (dC (.str " 1 2"))) dNilA)))))) (dgName 2))
    (dSeq (dAsg (dOp (dAdd false) (dVar 2) (dLst false (dConsA (dC (.str "colours a")) (dConsA (dOp (dAdd false) (dOp (dAdd false) (dC (.str "lamp ")) (dVar 1)) (dC (.str " 1 2 3"))) (dConsA (dOp (dAdd false) (dOp (dAdd false) (dC (.str "lamp ")) (dVar 1)) (dC (.str " 1 02"))) dNilA))))) (dgName 2))
    (dSeq (dAsg (dOp (dAdd false) (dVar 2) (dLst false (dConsA (dOp (dAdd false) (dOp (dAdd false) (dC (.str "lamp ")) (dM0 dUpper (dVar 1))) (dC (.str "Q 1 2"))) (dConsA (dOp (dAdd false) (dOp (dAdd false) (dC (.str "Lamp ")) (dVar 1)) (dC (.str " 1 2"))) dNilA)))) (dgName 2))
    (dRet (dOp dIx (dVar 2) (dCall P__law_draw (dConsA (dVar 0) (dConsA (dC (.int 17)) dNilA))))))))))
def td__law_odd_sight  : DS :=
  (dSeq (dAsg (dLst false (dConsA (dC (.str "sight")) (dConsA (dC (.str "sight 1")) (dConsA (dC (.str "sight 100 1")) (dConsA (dC (.str "sight 1 32")) (dConsA (dC (.str "sight -1 1")) (dConsA (dC (.str "sight 01 1")) (dConsA (dC (.str "sight 1 01")) (dConsA (dC (.str "sight 1 x")) dNilA))))))))) (dgName 2))
    (dSeq (dAsg (dOp (dAdd false) (dVar 2) (dLst false (dConsA (dC (.str "sight 1 1 zzq")) (dConsA (dOp (dAdd false) (dOp (dAdd false) (dC (.str "sight 1 1 ")) (dVar 1)) (dC (.str " zzq"))) (dConsA (dOp (dAdd false) (dC (.str "sight 1 1")) (dOp (dMul false) (dOp (dAdd false) (dC (.str " ")) (dVar 1)) (dC (.int 7)))) (dConsA (dC (.str "Sight 1 1")) dNilA)))))) (dgName 2))
    (dSeq (dAsg (dOp (dAdd false) (dVar 2) (dLst false (dConsA (dOp (dAdd false) (dOp (dAdd false) (dC (.str "sight ")) (dVar 1)) (dC (.str " 1 1"))) (dConsA (dC (.str "sights 1 1")) (dConsA (dOp (dAdd false) (dC (.str "1 1 ")) (dVar 1)) (dConsA (dC (.str "sight 1 1\t")) (dConsA (dC (.str "# \t")) (dConsA (dC (.str "colours a")) dNilA)))))))) (dgName 2))
    (dSeq (dAsg (dOp (dAdd false) (dVar 2) (dLst false (dConsA (dC (.str "kind zzqzzq 1")) (dConsA (dOp (dAdd false) (dOp (dAdd false) (dC (.str "lamp ")) (dVar 1)) (dC (.str " 1 2"))) (dConsA (dOp (dAdd false) (dOp (dAdd false) (dC (.str "sight 1 1 ")) (dVar 1)) (dC (.str ","))) (dConsA (dC (.str "sight 1, 1")) (dConsA (dC (.str "look 1")) dNilA))))))) (dgName 2))
    (dRet (dOp dIx (dOp (dAdd false) (dVar 2) (dLst false (dConsA (dC (.str "sight 1 1 1")) (dConsA (dC (.str "sight 1.0 1")) (dConsA (dC (.str "sight 1 1 dark1")) dNilA))))) (dCall P__law_draw (dConsA (dVar 0) (dConsA (dC (.int 26)) dNilA)))))))))
def td__law_many_1  : DS :=
  (dRet (dTup (dConsA (dOp (dAdd false) (dSl false (dVar 2) dNoPart (dPart (dVar 3))) (dOp (dMul false) (dLst false (dConsA (dC (.str "sight 99 31")) dNilA)) (dC (.int 61)))) (dConsA (dOp (dAdd false) (dVar 3) (dC (.int 61))) dNilA))))
def td__law_many_2  : DS :=
  (dSeq (dIfS (dTest (dOp (dEqn false) (dVar 6) (dC (.int 2)))) (dRet (dTup (dConsA (dOp (dAdd false) (dSl false (dVar 2) dNoPart (dPart (dC (.int 2)))) (dOp (dMul false) (dLst false (dConsA (dOp (dAdd false) (dOp (dAdd false) (dC (.str "lamp ")) (dVar 4)) (dC (.str " 1 2"))) dNilA)) (dC (.int 7)))) (dConsA (dC (.int 9)) dNilA)))) dNext)
    (td__law_many_1 ))
def td__law_many_3  : DS :=
  (dSeq (dIfS (dTest (dOp (dEqn false) (dVar 6) (dC (.int 1)))) (dSeq (dAsg (dSl false (dVar 2) dNoPart (dPart (dC (.int 1)))) (dgName 7))
    (dSeq (dFor (diSeq (dVar 5)) (dgName 8) (dAsg (dOp (dAdd false) (dVar 7) (dLst false (dConsA (dOp (dAdd false) (dOp (dAdd false) (dC (.str "kind ")) (dVar 8)) (dC (.str " 1"))) (dConsA (dOp (dAdd false) (dOp (dAdd false) (dC (.str "lamp ")) (dVar 4)) (dC (.str " 1 2"))) dNilA)))) (dgName 7)))
    (dRet (dTup (dConsA (dVar 7) (dConsA (dC (.int 14)) dNilA)))))) dNext)
    (td__law_many_2 ))
def td__law_many  : DS :=
  (dSeq (dAsg (dOp dIx (dOp dIx (dVar 1) (dC (.int 0))) (dC (.int 0))) (dgName 4))
    (dSeq (dAsg (dLst false (dConsA (dC (.str "zzqqa")) (dConsA (dC (.str "zzqqb")) (dConsA (dC (.str "zzqqc")) (dConsA (dC (.str "zzqqd")) (dConsA (dC (.str "zzqqe")) (dConsA (dC (.str "zzqqf")) (dConsA (dC (.str "zzqqg")) dNilA)))))))) (dgName 5))
    (dSeq (dAsg (dCall P__law_draw (dConsA (dVar 0) (dConsA (dC (.int 4)) dNilA))) (dgName 6))
    (dSeq (dIfS (dTest (dOp (dEqn false) (dVar 6) (dC (.int 0)))) (dRet (dTup (dConsA (dOp (dAdd false) (dLst false (dConsA (dOp (dAdd false) (dC (.str "colours ")) (dM1 dJoin (dC (.str " ")) (dVar 5))) dNilA)) (dSl false (dVar 2) (dPart (dC (.int 1))) dNoPart)) (dConsA (dC (.int 1)) dNilA)))) dNext)
    (td__law_many_3 )))))
def td__law_spoilt_1  : DS :=
  (dSeq (dAsg (dOp dIx (dLst false (dConsA (dSl false (dVar 2) dNoPart (dPart (dC (.int 1)))) (dConsA (dSl false (dVar 2) dNoPart (dPart (dC (.int 2)))) (dConsA (dLst false dNilA) dNilA)))) (dCall P__law_draw (dConsA (dVar 0) (dConsA (dC (.int 3)) dNilA)))) (dgName 12))
    (dRet (dTup (dConsA (dOp (dAdd false) (dVar 12) (dOp (dMul false) (dLst false (dConsA (dOp dIx (dLst false (dConsA (dC (.str "")) (dConsA (dC (.str "# so")) (dConsA (dC (.str "  ")) dNilA)))) (dCall P__law_draw (dConsA (dVar 0) (dConsA (dC (.int 3)) dNilA)))) dNilA)) (dOp (dMul false) (dCall P__law_draw (dConsA (dVar 0) (dConsA (dC (.int 3)) dNilA))) (dCB dInt (dConsA (dOp (dEqn true) (dVar 12) (dLst false dNilA)) dNilA))))) (dConsA (dC (.int 0)) dNilA)))))
def td__law_spoilt_2  : DS :=
  (dSeq (dIfS (dTest (dOp (dEqn false) (dVar 3) (dC (.int 8)))) (dSeq (dAsg (dLst false (dConsA (dTup (dConsA (dSl false (dVar 2) (dPart (dC (.int 1))) dNoPart) (dConsA (dC (.int 1)) dNilA))) (dConsA (dTup (dConsA (dOp (dAdd false) (dSl false (dVar 2) dNoPart (dPart (dC (.int 1)))) (dSl false (dVar 2) (dPart (dC (.int 2))) dNoPart)) (dConsA (dC (.int 2)) dNilA))) (dConsA (dTup (dConsA (dOp (dAdd false) (dSl false (dVar 2) dNoPart (dPart (dC (.int 2)))) (dLst false (dConsA (dC (.str "kind zzqzzq 1")) dNilA))) (dConsA (dC (.int 3)) dNilA))) dNilA)))) (dgName 11))
    (dSeq (dAsg (dOp (dAdd false) (dVar 11) (dLst false (dConsA (dTup (dConsA (dOp (dAdd false) (dSl false (dVar 2) dNoPart (dPart (dC (.int 2)))) (dLst false (dConsA (dC (.str "sight 1 1")) dNilA))) (dConsA (dC (.int 3)) dNilA))) (dConsA (dTup (dConsA (dOp (dAdd false) (dSl false (dVar 2) dNoPart (dPart (dC (.int 1)))) (dLst false (dConsA (dC (.str "sight 1 1")) dNilA))) (dConsA (dC (.int 2)) dNilA))) dNilA)))) (dgName 11))
    (dRet (dOp dIx (dVar 11) (dCall P__law_draw (dConsA (dVar 0) (dConsA (dC (.int 5)) dNilA))))))) dNext)
    (td__law_spoilt_1 ))
def td__law_spoilt_3  : DS :=
  (dSeq (dIfS (dTest (dOp (dCmp fun i j => decide (i < j)) (dVar 3) (dC (.int 8)))) (dRet (dCall P__law_many (dConsA (dVar 0) (dConsA (dVar 1) (dConsA (dVar 2) (dConsA (dVar 5) dNilA)))))) dNext)
    (td__law_spoilt_2 ))
def td__law_spoilt_4  : DS :=
  (dSeq (dIfS (dTest (dOp (dCmp fun i j => decide (i < j)) (dVar 3) (dC (.int 7)))) (dSeq (dAsg (dOp (dAdd false) (dVar 5) (dCall P__law_draw (dConsA (dVar 0) (dConsA (dOp dSub (dOp (dAdd false) (dCB dLen (dConsA (dVar 2) dNilA)) (dC (.int 1))) (dVar 5)) dNilA)))) (dgName 9))
    (dSeq (dAsg (dCall P__law_odd_sight (dConsA (dVar 0) (dConsA (dVar 4) dNilA))) (dgName 10))
    (dIfS (dOrT (dTest (dOp (dIn true) (dSl false (dVar 10) dNoPart (dPart (dC (.int 4)))) (dTup (dConsA (dC (.str "kind")) (dConsA (dC (.str "lamp")) dNilA))))) (dTest (dOp (dCmp fun i j => decide (j < i)) (dVar 9) (dVar 5)))) (dRet (dTup (dConsA (dOp (dAdd false) (dOp (dAdd false) (dSl false (dVar 2) dNoPart (dPart (dVar 9))) (dLst false (dConsA (dVar 10) dNilA))) (dSl false (dVar 2) (dPart (dVar 9)) dNoPart)) (dConsA (dOp (dAdd false) (dVar 9) (dC (.int 1))) dNilA)))) dNext))) dNext)
    (td__law_spoilt_3 ))
def td__law_spoilt_5  : DS :=
  (dSeq (dIfS (dTest (dOp (dEqn false) (dVar 3) (dC (.int 2)))) (dSeq (dAsg (dOp (dAdd false) (dC (.int 2)) (dCall P__law_draw (dConsA (dVar 0) (dConsA (dOp dSub (dVar 5) (dC (.int 1))) dNilA)))) (dgName 9))
    (dRet (dTup (dConsA (dOp (dAdd false) (dOp (dAdd false) (dSl false (dVar 2) dNoPart (dPart (dVar 9))) (dLst false (dConsA (dCall P__law_odd_lamp (dConsA (dVar 0) (dConsA (dVar 4) dNilA))) dNilA))) (dSl false (dVar 2) (dPart (dVar 9)) dNoPart)) (dConsA (dOp (dAdd false) (dVar 9) (dC (.int 1))) dNilA))))) dNext)
    (td__law_spoilt_4 ))
def td__law_spoilt_6  : DS :=
  (dSeq (dIfS (dTest (dOp (dEqn false) (dVar 3) (dC (.int 1)))) (dSeq (dAsg (dOp dIx (dLst false (dConsA (dC (.int 3)) (dConsA (dVar 5) dNilA))) (dCall P__law_draw (dConsA (dVar 0) (dConsA (dC (.int 2)) dNilA)))) (dgName 9))
    (dRet (dTup (dConsA (dOp (dAdd false) (dOp (dAdd false) (dSl false (dVar 2) dNoPart (dPart (dVar 9))) (dLst false (dConsA (dCall P__law_odd_kind (dConsA (dVar 0) (dConsA (dOp dIx (dOp dIx (dOp dIx (dVar 1) (dC (.int 1))) (dC (.int 0))) (dC (.int 0))) dNilA))) dNilA))) (dSl false (dVar 2) (dPart (dVar 9)) dNoPart)) (dConsA (dOp (dAdd false) (dVar 9) (dC (.int 1))) dNilA))))) dNext)
    (td__law_spoilt_5 ))
def td__law_spoilt  : DS :=
  (dSeq (dAsg (dCall P__law_draw (dConsA (dVar 0) (dConsA (dC (.int 10)) dNilA))) (dgName 3))
    (dSeq (dAsg (dOp dIx (dOp dIx (dVar 1) (dC (.int 0))) (dC (.int 0))) (dgName 4))
    (dSeq (dAsg (dOp (dAdd false) (dC (.int 1)) (dCB dSum (dConsA (dLc false (diSeq (dOp dIx (dVar 1) (dC (.int 1)))) (dgTup [6, 7, 8]) dYes (dOp (dAdd false) (dC (.int 1)) (dCB dLen (dConsA (dVar 8) dNilA))) [6, 7, 8]) dNilA))) (dgName 5))
    (dSeq (dIfS (dTest (dOp (dEqn false) (dVar 3) (dC (.int 0)))) (dRet (dTup (dConsA (dOp (dAdd false) (dLst false (dConsA (dCall P__law_odd_first (dConsA (dVar 0) dNilA)) dNilA)) (dSl false (dVar 2) (dPart (dC (.int 1))) dNoPart)) (dConsA (dC (.int 1)) dNilA)))) dNext)
    (td__law_spoilt_6 )))))
def td__law_spread_1  : DS :=
  (dSeq (dDrop (dBML dAppend (dVar 4) (dConsA (dVar 7) dNilA)))
    (dIfS (dTest (dOp (dEqn false) (dOp (dAdd false) (dVar 6) (dC (.int 1))) (dVar 2))) (dAsg (dCB dLen (dConsA (dVar 4) dNilA)) (dgName 5)) dNext))
def td__law_spread_2  : DS :=
  (dSeq (dAsg (dCall P__law_draw (dConsA (dVar 0) (dConsA (dC (.int 3)) dNilA))) (dgName 3))
    (dSeq (dAsg (dLst true dNilA) (dgName 4))
    (dSeq (dAsg (dC (.int 0)) (dgName 5))
    (dSeq (dFor (diEnum (dConsA (dVar 1) dNilA)) (dgTup [6, 7]) (dSeq (dIfS (dAndT (dTest (dOp (dCmp fun i j => decide (j < i)) (dVar 3) (dC (.int 0)))) (dTest (dOp (dEqn false) (dCall P__law_draw (dConsA (dVar 0) (dConsA (dC (.int 3)) dNilA))) (dC (.int 0))))) (dAsg (dOp (dAdd true) (dVar 4) (dOp (dMul false) (dLst false (dConsA (dOp dIx (dLst false (dConsA (dC (.str "")) (dConsA (dC (.str "# so ~")) (dConsA (dC (.str "   ")) (dConsA (dC (.str " # kind")) dNilA))))) (dCall P__law_draw (dConsA (dVar 0) (dConsA (dC (.int 4)) dNilA)))) dNilA)) (dOp (dAdd false) (dC (.int 1)) (dCall P__law_draw (dConsA (dVar 0) (dConsA (dC (.int 2)) dNilA)))))) (dgName 4)) dNext)
    (td__law_spread_1 )))
    (dRet (dTup (dConsA (dVar 4) (dConsA (dVar 5) dNilA))))))))
def td__law_spread  : DS :=
  (dSeq (dIfS (dTest (dOp (dEqn false) (dVar 2) (dC (.int 0)))) (dRet (dTup (dConsA (dVar 1) (dConsA (dOp (dAdd false) (dCB dMax2 (dConsA (dC (.int 1)) (dConsA (dCB dLen (dConsA (dVar 1) dNilA)) dNilA))) (dC (.int 1))) dNilA)))) dNext)
    (td__law_spread_2 ))
def td_law (isa : Value → Value → Option Bool)  : DS :=
  (dSeq (dAsg (dCall P__law_begun (dConsA (dVar 0) dNilA)) (dgName 1))
    (dSeq (dAsg (dCall P__law_fleet (dConsA (dVar 1) dNilA)) (dgName 2))
    (dSeq (dAsg (dCall P__law_lines (dConsA (dVar 2) (dConsA (dCall P__law_sights (dConsA (dVar 1) (dConsA (dVar 2) (dConsA (dC (.int 14)) dNilA)))) dNilA))) (dgName 3))
    (dSeq (dIfS (dTest (dOp (dEqn false) (dCall P__law_draw (dConsA (dVar 1) (dConsA (dC (.int 10)) dNilA))) (dC (.int 0)))) (dSeq (dAsg (dCall P__law_spread (dConsA (dVar 1) (dConsA (dVar 3) (dConsA (dC (.int 1)) dNilA)))) (dgTup [4, 5]))
    (dRet (dAndV (dOp (dIsN false) (dCall P__law_refused (dConsA (dM1 dJoin (dC (.str "\n")) (dVar 4)) dNilA)) (dC .non)) (dOp (dIsN false) (dCall P__law_refused (dConsA (dOp (dAdd false) (dM1 dJoin (dC (.str "\n")) (dVar 3)) (dC (.str "\n"))) dNilA)) (dC .non))))) dNext)
    (dSeq (dFor (diRng1 (dConsA (dC (.int 3)) dNilA)) (dgName 6) (dSeq (dAsg (dCall P__law_spoilt (dConsA (dVar 1) (dConsA (dVar 2) (dConsA (dVar 3) dNilA)))) (dgTup [4, 5]))
    (dSeq (dIfS (dAndT (dTest (dOp (dCmp fun i j => decide (j < i)) (dVar 5) (dC (.int 0)))) (dTest (dOp (dEqn false) (dCall P__law_draw (dConsA (dVar 1) (dConsA (dC (.int 2)) dNilA))) (dC (.int 1))))) (dAsg (dOp (dAdd false) (dVar 4) (dOp dIx (dLst false (dConsA (dLst false (dConsA (dC (.str "no line")) (dConsA (dC (.str "?")) dNilA))) (dConsA (dLst false (dConsA (dC (.str "colours # \t")) (dConsA (dC (.str "5")) dNilA))) dNilA))) (dCall P__law_draw (dConsA (dVar 1) (dConsA (dC (.int 2)) dNilA))))) (dgName 4)) dNext)
    (dSeq (dAsg (dCall P__law_spread (dConsA (dVar 1) (dConsA (dVar 4) (dConsA (dVar 5) dNilA)))) (dgTup [4, 5]))
    (dFor (diRng1 (dConsA (dC (.int 2)) dNilA)) (dgName 7) (dSeq (dAsg (dCall P__law_refused (dConsA (dM1 dJoin (dC (.str "\n")) (dVar 4)) dNilA)) (dgName 8))
    (dIfS (dOrT (dTest (dOp (dEqn true) (dVar 8) (dLst false (dConsA (dVar 5) dNilA)))) (dTru (dCB (dIsi isa) (dConsA (dOp dIx (dVar 8) (dC (.int 0))) (dConsA (dC (.ty "bool")) dNilA))))) (dRet (dC (.bl false))) dNext)))))))
    (dRet (dOp (dEqn false) (dCall P__law_refused (dConsA (dOp dIx (dLst false (dConsA (dC .non) (dConsA (dC (.int 5)) (dConsA (dLst false (dConsA (dC (.str "colours a")) dNilA)) (dConsA (dC (.bl true)) (dConsA (dTup (dConsA (dC (.str "colours a")) dNilA)) (dConsA dDNew dNilA))))))) (dCall P__law_draw (dConsA (dVar 1) (dConsA (dC (.int 6)) dNilA)))) dNilA)) (dLst false (dConsA (dC (.int 0)) dNilA)))))))))

abbrev N_is_name : List Str := ["word", "sign"]
abbrev N_number_of : List Str := ["word", "most", "number"]
abbrev N_colours_of : List Str := ["words", "names", "name"]
abbrev N_kind_of : List Str := ["words", "turn"]
abbrev N_lamp_of : List Str := ["words", "colours", "first", "last"]
abbrev N_sight_of : List Str := ["words", "colours", "moment", "side", "column", "colour"]
abbrev N_words_of : List Str := ["line", "word"]
abbrev N_Draft___init__ : List Str := ["self"]
abbrev N_Draft_lacks : List Str := ["self"]
abbrev N_Draft__may_begin_kind : List Str := ["self"]
abbrev N_Draft__take_colours : List Str := ["self", "words", "colours"]
abbrev N_Draft__take_kind : List Str := ["self", "words", "row", "kind", "turn", "other"]
abbrev N_Draft__take_lamp : List Str := ["self", "words", "lamp", "lamps"]
abbrev N_Draft__take_sight : List Str := ["self", "words", "sight"]
abbrev N_Draft_take : List Str := ["self", "words", "word"]
abbrev N_Draft_told : List Str := ["self", "kinds", "kind", "turn", "lamps"]
abbrev N__law_mixed : List Str := ["_law_cell", "_law_k", "_law_number"]
abbrev N__law_folded : List Str := ["_law_script", "_law_found", "_law_k", "_law_cell"]
abbrev N__law_draw : List Str := ["_law_m", "_law_many_here", "_law_k", "_law_at", "_law_cell"]
abbrev N__law_names : List Str := ["_law_cell", "_law_many_here", "_law_letters", "_law_k", "_law_size", "_law_at", "_law_row_here", "_law_j", "_law_found", "_law_sign", "_law_bars", "_law_name"]
abbrev N__law_lamp : List Str := ["_law_m", "_law_colours", "_law_first", "_law_wide"]
abbrev N__law_lamps : List Str := ["_law_m", "_law_colours", "_law_rows", "_law_k", "_law_lamps_here", "_law_at", "_law_way", "_law_colour", "_law_first", "_law_last"]
abbrev N__law_fleet : List Str := ["_law_m", "_law_great", "_law_colours", "_law_rows", "_law_name", "_law_turn"]
abbrev N__law_column : List Str := ["_law_fleet_here", "_law_boat", "_law_side", "_law_bearing", "_law_found", "_law_kind", "_law_turn", "_law_lamps_here", "_law_colour", "_law_first", "_law_last"]
abbrev N__law_sights : List Str := ["_law_m", "_law_fleet_here", "_law_most", "_law_kind", "_law_turn", "_law_lamps_here", "_law_course", "_law_moment", "_law_found", "_law_k", "_law_step", "_law_side", "_law_some", "_law_at", "_law_many_here", "_law_j"]
abbrev N__law_begun : List Str := ["_law_script", "_law_m", "_law_seeds", "_law_k"]
abbrev N__law_row : List Str := ["_law_words", "_law_word"]
abbrev N__law_sight_row : List Str := ["_law_sight"]
abbrev N__law_lines : List Str := ["_law_fleet_here", "_law_sights_here", "_law_lines_here", "_law_kind", "_law_turn", "_law_lamps_here", "_law_lamp_here", "_law_sight"]
abbrev N__law_odd_first : List Str := ["_law_m", "_law_some"]
abbrev N__law_odd_kind : List Str := ["_law_m", "_law_kind", "_law_some"]
abbrev N__law_odd_lamp : List Str := ["_law_m", "_law_colour", "_law_some"]
abbrev N__law_odd_sight : List Str := ["_law_m", "_law_colour", "_law_some"]
abbrev N__law_many : List Str := ["_law_m", "_law_fleet_here", "_law_good", "_law_heads", "_law_colour", "_law_some", "_law_way", "_law_lines_here", "_law_name"]
abbrev N__law_spoilt : List Str := ["_law_m", "_law_fleet_here", "_law_good", "_law_way", "_law_colour", "_law_heads", "_law_kind", "_law_turn", "_law_lamps_here", "_law_at", "_law_line", "_law_some", "_law_few"]
abbrev N__law_spread : List Str := ["_law_m", "_law_lines_here", "_law_due", "_law_way", "_law_found", "_law_place", "_law_k", "_law_line"]
abbrev N_law : List Str := ["_law_script", "_law_m", "_law_fleet_here", "_law_good", "_law_lines_here", "_law_due", "_law_turn", "_law_again", "_law_found"]
end DL
set_option Elab.async false
set_option linter.all false
set_option maxRecDepth 100000
set_option maxHeartbeats 4000001
namespace DL
open PySem L2
local macro_rules | `(tactic| walk_at "dd") => `(tactic| simp only [dSeq, dAsg, dgName, dgTup, dgSub, dOp, dVar, dC, dAdd, dSub, dMul, dMod, dFDiv, dPow, dCmp, dNeg, dEqn, dIsN, dIx, dTup, dLst, dConsA, dNilA, dCB, dCall, dRet, dRetN, dDrop, dIfS, dNext, dBreak, dCont, dTest, dTru, dAndT, dOrT, dNotT, dAndV, dOrV, dNotV, dIf, dChain, dDGet, dDPut, dM1, dM0, dJoin, dSplit, dUpper, dBML, dAppend, dInsert, dPopAt, dLen, dInt, dStr, dTupOf, dListOf, dMax2, dSum, dAll, dSl, dPart, dNoPart, newLst, keyD,
  startD, setAll, wipeD, List.map_cons, List.map_nil, List.length_cons, List.length_nil, List.replicate, List.cons_append, List.nil_append, List.getElem?_cons_zero, List.getElem?_cons_succ, List.set_cons_zero, List.set_cons_succ, Nat.reduceAdd, Nat.reduceSub, Bool.false_eq_true, if_true, if_false, ite_true, ite_false, reduceIte])
local macro_rules | `(tactic| walk_at "cm") => `(tactic| first | exact .inl ⟨by omega, by omega⟩ | exact .inr ⟨by omega, by omega⟩ | exact ⟨by omega, by omega⟩ | omega | decide)
theorem rd__law_mixed : ∀ ds μ Q, P__law_mixed ds μ Q → td__law_mixed { nx := fun _ μ' => GhQ Q .non μ', rt := GhQ Q } (startD N__law_mixed ds) μ := by
  rintro ds μ Q ⟨c, k, rfl, h1, h2, h3, h4, h⟩
  unfold td__law_mixed N__law_mixed
  walk_at "dd"
  refine ⟨by walk_at "cm", by walk_at "cm", by walk_at "cm", by walk_at "cm", by walk_at "cm", by walk_at "cm", by walk_at "cm", by walk_at "cm", by walk_at "cm", by walk_at "cm", GhQ.self (h _ ?_ ?_)⟩
  · generalize (c * (1 + 2 * k) * 48271 % 2147483647 + 7919 * k * k + 104729 * k) * 69621 = z
    omega
  · generalize (c * (1 + 2 * k) * 48271 % 2147483647 + 7919 * k * k + 104729 * k) * 69621 = z
    omega
/-! lists of numbers are data -/
theorem pdL_ints : ∀ ns : List Int, pdL (ns.map D.int) = some (ns.map PyData.int)
  | [] => by simp [pdL]
  | n :: ns => by rw [List.map_cons, pdL, pdL_ints ns, pd] <;> rfl
theorem lay_ints : ∀ ns : List Int, PyData.canLayAll0 (ns.map PyData.int) = true
  | [] => by simp [PyData.canLayAll0]
  | n :: ns => by rw [List.map_cons, PyData.canLayAll0, lay_ints ns, PyData.canLay0] <;> rfl
theorem dep_ints : ∀ ns : List Int, PyData.depthAll (ns.map PyData.int) = 0
  | [] => by simp [PyData.depthAll]
  | n :: ns => by rw [List.map_cons, PyData.depthAll, dep_ints ns, PyData.depth] <;> rfl
theorem shaped_ints (ns : List Int) : SeqAt.shaped (.list (ns.map PyData.int)) = true := by
  unfold SeqAt.shaped
  rw [PyData.canLay0, lay_ints, PyData.depth, dep_ints] <;> rfl
theorem shaped_nil : SeqAt.shaped (.list []) = true := shaped_ints []
theorem eqv_nil : ∀ xs : List PyData, PyData.eqv (.list xs) (.list []) = xs.isEmpty
  | [] => by simp [PyData.eqv, PyData.eqvAll]
  | x :: xs => by simp [PyData.eqv, PyData.eqvAll]
theorem atI_some {α : Type} {xs : List α} {i : Int} {x : α} (h0 : 0 ≤ i) (h : xs[i.toNat]? = some x) : atI xs i = some x := by
  have hl : i.toNat < xs.length := (List.getElem?_eq_some_iff.mp h).1
  unfold atI ixN
  rw [if_pos h0, if_pos (by omega)]
  exact h
theorem atI_ex {α : Type} {xs : List α} {i : Int} (h0 : 0 ≤ i) (h : i < xs.length) : ∃ x, atI xs i = some x ∧ x ∈ xs ∧ xs[i.toNat]? = some x := by
  have hl : i.toNat < xs.length := by omega
  exact ⟨xs[i.toNat], atI_some h0 (by simp [hl]), List.getElem_mem _, by simp [hl]⟩
theorem ixN_some {n : Nat} {i : Int} (h0 : 0 ≤ i) (h : i < n) : ixN n i = some i.toNat := by
  unfold ixN
  rw [if_pos h0, if_pos h]
theorem kc1 : decide ((Sum.inr ("cells" : Str) : Key) = (Sum.inr ("cells" : Str) : Key)) = true := by decide +kernel
theorem kc2 : decide ((Sum.inr ("cells" : Str) : Key) = (Sum.inr ("digits" : Str) : Key)) = false := by decide +kernel
theorem kc3 : decide ((Sum.inr ("digits" : Str) : Key) = (Sum.inr ("digits" : Str) : Key)) = true := by decide +kernel
theorem kc4 : decide ((Sum.inr ("cells" : Str) : Key) = (Sum.inr ("at" : Str) : Key)) = false := by decide +kernel
theorem kc5 : decide ((Sum.inr ("digits" : Str) : Key) = (Sum.inr ("at" : Str) : Key)) = false := by decide +kernel
theorem kc6 : decide ((Sum.inr ("at" : Str) : Key) = (Sum.inr ("at" : Str) : Key)) = true := by decide +kernel
theorem getK_cells {c : List Int} {dg : Addr} {t : Int} {r : List (Key × D)} : getK (tabD c dg t r) (.inr "cells") = some (.lst (c.map .int)) := by
  unfold getK tabD; simp only [List.find?_cons, decide_true, Option.map_some]
theorem getK_digits {c : List Int} {dg : Addr} {t : Int} {r : List (Key × D)} : getK (tabD c dg t r) (.inr "digits") = some (.obj dg) := by
  unfold getK tabD; simp only [List.find?_cons, kc2, decide_true, Option.map_some]
theorem getK_at {c : List Int} {dg : Addr} {t : Int} {r : List (Key × D)} : getK (tabD c dg t r) (.inr "at") = some (.int t) := by
  unfold getK tabD; simp only [List.find?_cons, kc4, kc5, decide_true, Option.map_some]
theorem putKD_at {c : List Int} {dg : Addr} {t u : Int} {r : List (Key × D)} (h : ∀ kv ∈ r, kv.1 ≠ (Sum.inr ("at" : Str) : Key)) : putKD (tabD c dg t r) (.inr "at") (.int u) = tabD c dg u r := by
  have n1 : ¬ (Sum.inr ("cells" : Str) : Key) = (Sum.inr ("at" : Str) : Key) := of_decide_eq_false kc4
  have n2 : ¬ (Sum.inr ("digits" : Str) : Key) = (Sum.inr ("at" : Str) : Key) := of_decide_eq_false kc5
  have e : r.map (fun kv => if kv.1 = (Sum.inr ("at" : Str) : Key) then (kv.1, D.int u) else kv) = r := by
    have : ∀ kv ∈ r, (fun kv : Key × D => if kv.1 = (Sum.inr ("at" : Str) : Key) then (kv.1, D.int u) else kv) kv = kv := fun kv hk => if_neg (h kv hk)
    rw [List.map_congr_left this, List.map_id']
  have a : ((tabD c dg t r).any fun kv => decide (kv.1 = (Sum.inr ("at" : Str) : Key))) = true := by
    unfold tabD; simp only [List.any_cons, kc4, kc5, decide_true, Bool.false_or, Bool.true_or]
  unfold putKD
  rw [if_pos a]
  unfold tabD
  rw [List.map_cons, List.map_cons, List.map_cons, e, if_neg n1, if_neg n2, if_pos rfl]
theorem tab_len {c : List Int} {dg : Addr} {t : Int} {r : List (Key × D)} (h : r.length ≤ 100) : (tabD c dg t r).length < sizeLine := by
  have : sizeLine = 16777216 := rfl
  unfold tabD; simp only [List.length_cons]; omega
theorem rd__law_draw : ∀ ds μ Q, P__law_draw ds μ Q → td__law_draw { nx := fun _ μ' => GhQ Q .non μ', rt := GhQ Q } (startD N__law_draw ds) μ := by
  rintro ds μ Q ⟨m, dg, rest, n, j, rfl, M, hn, hj0, hj, h⟩
  obtain ⟨hne, ⟨hf, hno⟩, cells, digits, at_, h1, h2, h3, h4, h5, h6, h7⟩ := id M
  unfold td__law_draw N__law_draw
  walk_at "dd"
  refine ⟨_, _, _, h1, rfl, getK_at, ?_⟩
  refine ⟨_, _, h1, rfl, tab_len hf, ?_⟩
  rw [putKD_at hno]
  generalize hμ : put μ m (.dK (tabD cells dg (at_ + 1) rest)) = ν
  have e1 : ν m = some (.dK (tabD cells dg (at_ + 1) rest)) := by rw [← hμ]; exact put_same
  have e2 : ν dg = some (.lst (digits.map .int)) := by rw [← hμ, put_ne (Ne.symm hne)]; exact h2
  have M' : MOk m dg rest (n + 1) ν := ⟨hne, ⟨hf, hno⟩, cells, digits, at_ + 1, e1, e2, h3, h4, by omega, by omega, h7⟩
  have F' : Fr m dg μ ν := fun a x1 x2 => by rw [← hμ, put_ne x1]
  refine ⟨_, _, _, e1, rfl, getK_digits, by show 0 ≤ sizeLine; exact Nat.zero_le _, ?_⟩
  refine ⟨.list (digits.map .int), .list [], ?_, ?_, shaped_ints _, shaped_nil, ?_⟩
  · show pdM ν (.obj dg) = _
    unfold pdM; simp only [e2, pdL_ints, Option.map_some]
  · simp [pdM, pd, pdL]
  rw [eqv_nil]
  cases hd : digits with
  | nil =>
    have hb : (digits.map PyData.int).isEmpty = true := by rw [hd]; rfl
    simp only [hb, Bool.not_true, Bool.false_eq_true, if_false]
    refine ⟨_, _, _, e1, rfl, getK_cells, by decide, ?_⟩
    obtain ⟨x, hx, hx2⟩ : ∃ x, cells[(at_ % 64).toNat]? = some x ∧ x ∈ cells := by
      have : (at_ % 64).toNat < cells.length := by omega
      exact ⟨cells[(at_ % 64).toNat], by simp [this], List.getElem_mem _⟩
    obtain ⟨x0, x1⟩ := h4 x hx2
    refine ⟨_, .int x, rfl, atI_some (by omega) (by rw [List.getElem?_map, hx]; rfl), by walk_at "cm", by walk_at "cm", ?_⟩
    refine ⟨_, _, rfl, by omega, by omega, by omega, by omega, fun r r0 r1 => ?_⟩
    refine ⟨_, _, rfl, by omega, by omega, by omega, by omega, fun r' r0' r1' => ⟨hj0, ?_⟩⟩
    exact GhQ.self (h _ _ (Int.emod_nonneg _ (by omega)) (Int.emod_lt_of_pos _ hj0) M' F')
  | cons d0 dr =>
    have hlen : 0 < digits.length := by rw [hd]; simp
    have hb : (digits.map PyData.int).isEmpty = false := by rw [hd]; rfl
    simp only [hb, Bool.not_false, if_true]
    refine ⟨_, _, _, e1, rfl, getK_digits, ⟨digits.map .int, e2, ?_⟩⟩
    rw [List.length_map]
    have hl0 : (0 : Int) < digits.length := by omega
    refine ⟨hl0, ?_⟩
    have b0 := Int.emod_nonneg at_ (show (digits.length : Int) ≠ 0 by omega)
    have b1 := Int.emod_lt_of_pos at_ hl0
    generalize hk : at_ % (digits.length : Int) = k at b0 b1 ⊢
    obtain ⟨x, hx⟩ : ∃ x, digits[k.toNat]? = some x := by
      have : k.toNat < digits.length := by omega
      exact ⟨digits[k.toNat], by simp [this]⟩
    refine ⟨_, _, _, e1, rfl, getK_digits, ⟨digits.map .int, .int x, e2, atI_some b0 (by rw [List.getElem?_map, hx]; rfl), ?_⟩⟩
    refine ⟨⟨hj0, by omega⟩, _, _, _, e1, rfl, getK_digits, ⟨_, _, e2, ixN_some b0 (by rw [List.length_map]; exact b1), ?_⟩⟩
    refine ⟨hj0, GhQ.self (h _ _ (Int.emod_nonneg _ (by omega)) (Int.emod_lt_of_pos _ hj0) ?_ ?_)⟩
    · have : (digits.map D.int).set k.toNat (.int (x / j)) = (digits.set k.toNat (x / j)).map .int := by rw [List.map_set]
      rw [this]
      exact ⟨hne, ⟨hf, hno⟩, cells, digits.set k.toNat (x / j), at_ + 1, by rw [put_ne hne]; exact e1, put_same, h3, h4, by omega, by omega, by rw [List.length_set]; exact h7⟩
    · intro a x1 x2
      rw [put_ne x2]; exact F' a x1 x2
end DL
set_option Elab.async false
set_option linter.all false
set_option maxRecDepth 100000
set_option maxHeartbeats 4000001
namespace DL
open PySem L2
local macro_rules | `(tactic| walk_at "dd") => `(tactic| try simp only [dSeq, dAsg, dgName, dgTup, dgSub, dOp, dVar, dC, dAdd, dSub, dMul, dMod, dFDiv, dPow, dCmp, dNeg, dEqn, dIsN, dIx, dTup, dLst, dConsA, dNilA, dCB, dCall, dRet, dRetN, dDrop, dIfS, dNext, dBreak, dCont, dTest, dTru, dAndT, dOrT, dNotT, dAndV, dOrV, dNotV, dIf, dChain, dDGet, dDPut, dM1, dM0, dJoin, dSplit, dUpper, dBML, dAppend, dInsert, dPopAt, dLen, dInt, dStr, dTupOf, dListOf, dMax2, dSum, dAll, dSl, dPart, dNoPart, newLst, keyD, dFor, dLc, diSeq, diRng1, diRng2, diEnum, diEnumS, diStr,
  startD, setAll, wipeD, List.map_cons, List.map_nil, List.length_cons, List.length_nil, List.replicate, List.cons_append, List.nil_append, List.getElem?_cons_zero, List.getElem?_cons_succ, List.set_cons_zero, List.set_cons_succ, Nat.reduceAdd, Nat.reduceSub, Bool.false_eq_true, if_true, if_false, ite_true, ite_false, reduceIte])
local macro_rules | `(tactic| walk_at "cm") => `(tactic| first | exact .inl ⟨by omega, by omega⟩ | exact .inr ⟨by omega, by omega⟩ | exact ⟨by omega, by omega⟩ | omega | decide)
/-- a list of numbers of this length, each below 2 ^ 31 *)
-/
def Cells (c : List Int) : Prop := c.length = 64 ∧ ∀ x ∈ c, 0 ≤ x ∧ x < 2147483647
theorem Cells.set {c : List Int} (h : Cells c) (i : Nat) {x : Int} (h0 : 0 ≤ x) (h1 : x < 2147483647) : Cells (c.set i x) := by
  refine ⟨by rw [List.length_set]; exact h.1, fun y hy => ?_⟩
  rcases List.mem_or_eq_of_mem_set hy with hy | rfl
  · exact h.2 y hy
  · exact ⟨h0, h1⟩
theorem Cells.at {c : List Int} (h : Cells c) {i : Int} (h0 : 0 ≤ i) (h1 : i < 64) : ∃ x, atI (c.map D.int) i = some (.int x) ∧ 0 ≤ x ∧ x < 2147483647 := by
  have hl : i.toNat < c.length := by rw [h.1]; omega
  obtain ⟨a, b⟩ := h.2 c[i.toNat] (List.getElem_mem _)
  exact ⟨c[i.toNat], atI_some h0 (by simp [hl]), a, b⟩
theorem rd__law_folded : ∀ ds μ Q, P__law_folded ds μ Q → td__law_folded { nx := fun _ μ' => GhQ Q .non μ', rt := GhQ Q } (startD N__law_folded ds) μ := by
  rintro ds μ Q ⟨ns, rfl, hl, h⟩
  unfold td__law_folded N__law_folded
  walk_at "dd"
  refine ⟨by decide, LcB.pure (fun d => match d with | .int i => .int (17 + i) | d => d) trivial (by rw [rngD_len]; decide) (fun j d Qd hd q => ?_) ?_⟩
  · obtain ⟨hj, rfl⟩ := rngD_get hd
    walk_at "dd"
    exact q
  intro p hp
  have e0 : (rngD 0 (64 : Int).toNat).map (fun d => match d with | .int i => D.int (17 + i) | d => d) = ((List.range 64).map fun i => (17 + (0 + (i : Nat)) : Int)).map D.int := by
    unfold rngD; rw [List.map_map, List.map_map]; rfl
  rw [e0]
  have c0 : Cells ((List.range 64).map fun i => (17 + (0 + (i : Nat)) : Int)) := by
    refine ⟨by simp, fun x hx => ?_⟩
    obtain ⟨i, hi, rfl⟩ := List.mem_map.mp hx
    rw [List.mem_range] at hi
    omega
  walk_at "dd"
  -- the script's cells go in
  let I : DSl → Mu → Prop := fun ds ν => ∃ (c : List Int) (x3 x2 : Option D), Cells c ∧ ds = [some (.scr (ns.map .int)), some (.obj p), x2, x3] ∧ ν = put μ p (.lst (c.map .int))
  refine ⟨fun _ => I, ⟨_, _, _, c0, rfl, rfl⟩, fun _ _ _ _ _ => trivial, fun j d ds ν hd hI => ?_, fun ds ν hI => ?_⟩
  · obtain ⟨c, x3, x2, hc, rfl, rfl⟩ := hI
    obtain ⟨y, hy, rfl⟩ := enumD_get hd
    obtain ⟨z, hz, rfl⟩ := map_get hy
    walk_at "dd"
    refine ⟨trivial, by decide, ?_⟩
    obtain ⟨x, hx, x0, x1⟩ := hc.at (i := (0 + (j : Int)) % 64) (by omega) (by omega)
    refine ⟨_, _, put_same, hx, by walk_at "cm", by decide, by decide, ?_⟩
    refine ⟨_, _, put_same, ixN_some (by omega) (by rw [List.length_map, hc.1]; omega), ?_⟩
    refine ⟨c.set ((0 + (j : Int)) % 64).toNat ((x * 48271 + z) % 2147483647), _, _, hc.set _ (by omega) (by omega), rfl, ?_⟩
    rw [put_put, ← List.map_set]
  · obtain ⟨c, x3, x2, hc, rfl, rfl⟩ := hI
    walk_at "dd"
    refine ⟨by decide, fun _ => I, ⟨c, _, _, hc, rfl, rfl⟩, fun _ _ _ _ _ => trivial, fun j d ds ν hd hI => ?_, fun ds ν hI => ?_⟩
    · obtain ⟨c, x3, x2, hc, rfl, rfl⟩ := hI
      obtain ⟨hj, rfl⟩ := rngD_get hd
      walk_at "dd"
      have hj' : (1 : Int) + j < 64 := by omega
      obtain ⟨x, hx, x0, x1⟩ := hc.at (i := 1 + (j : Int)) (by omega) hj'
      obtain ⟨y, hy, y0, y1⟩ := hc.at (i := 1 + (j : Int) - 1) (by omega) (by omega)
      refine ⟨_, _, put_same, hx, _, _, put_same, hy, by walk_at "cm", by decide, ?_⟩
      refine ⟨_, _, put_same, ixN_some (by omega) (by rw [List.length_map, hc.1]; omega), ?_⟩
      refine ⟨c.set (1 + (j : Int)).toNat ((x + y * 16807) % 2147483647), _, _, hc.set _ (by omega) (by omega), rfl, ?_⟩
      rw [put_put, ← List.map_set]
    · obtain ⟨c, x3, x2, hc, rfl, rfl⟩ := hI
      walk_at "dd"
      exact GhQ.fix (SubM.new hp) put_same hp (h c hc.1 hc.2)
end DL
set_option Elab.async false
set_option linter.all false
set_option maxRecDepth 100000
set_option maxHeartbeats 4000001
namespace DL
open PySem L2 TL
local macro_rules | `(tactic| walk_at "dd") => `(tactic| try simp only [dSeq, dAsg, dgName, dgTup, dgSub, dOp, dVar, dC, dAdd, dSub, dMul, dMod, dFDiv, dPow, dCmp, dNeg, dEqn, dIsN, dIx, dTup, dLst, dConsA, dNilA, dCB, dCall, dRet, dRetN, dDrop, dIfS, dNext, dBreak, dCont, dTest, dTru, dAndT, dOrT, dNotT, dAndV, dOrV, dNotV, dIf, dChain, dDGet, dDPut, dM1, dM0, dJoin, dSplit, dUpper, dBML, dAppend, dInsert, dPopAt, dLen, dInt, dStr, dTupOf, dListOf, dMax2, dSum, dAll, dSl, dPart, dNoPart, newLst, keyD, dFor, dLc, diSeq, diRng1, diRng2, diEnum, diEnumS, diStr,
  startD, setAll, wipeD, List.map_cons, List.map_nil, List.length_cons, List.length_nil, List.replicate, List.cons_append, List.nil_append, List.getElem?_cons_zero, List.getElem?_cons_succ, List.set_cons_zero, List.set_cons_succ, Nat.reduceAdd, Nat.reduceSub, Bool.false_eq_true, if_true, if_false, ite_true, ite_false, reduceIte])
local macro_rules | `(tactic| walk_at "cm") => `(tactic| first | exact .inl ⟨by omega, by omega⟩ | exact .inr ⟨by omega, by omega⟩ | exact ⟨by omega, by omega⟩ | omega | decide)
/-! ### letters -/
def abc : Str := "abcdefghijklmnopqrstuvwxyz"
theorem abc_list : abc.cps.toList = (List.range 26).map (97 + ·) := by decide +kernel
theorem abc_len : abc.length = 26 := by decide +kernel
theorem abc_at {i : Int} (h0 : 0 ≤ i) (h1 : i < 26) : atI abc.cps.toList i = some (97 + i.toNat) := by
  refine atI_some h0 ?_
  rw [abc_list, List.getElem?_map, List.getElem?_range (by omega)]
  rfl
def sg (c : Nat) : Str := ⟨#[c]⟩
theorem tl_repS (x : Str) (n : Int) : tl (repS x n) = (List.replicate n.toNat (tl x)).flatten := rfl
theorem rep_one (c : Nat) : ∀ n : Nat, (List.replicate n [c]).flatten = List.replicate n c
  | 0 => rfl
  | n + 1 => by rw [List.replicate_succ, List.flatten_cons, rep_one c n, List.replicate_succ]; rfl
theorem rep_not_bar {s : Str} {n c : Nat} (h : tl s = List.replicate n c) : s ∉ bars := by
  intro hb
  have aux : ∀ (a b : Nat) (r : List Nat), tl s = a :: b :: r → a ≠ b → False := fun a b r e hne => by
    rw [h] at e
    cases n with
    | zero => cases e
    | succ n =>
      cases n with
      | zero => cases e
      | succ n =>
        rw [List.replicate_succ, List.replicate_succ] at e
        injection e with e1 e2
        injection e2 with e3 e4
        exact hne (e1.symm.trans e3)
  unfold bars at hb
  rcases List.mem_cons.mp hb with rfl | hb
  · exact aux 99 111 _ (show tl (Str.ofString "colours") = 99 :: 111 :: [108, 111, 117, 114, 115] by decide +kernel) (by decide)
  rcases List.mem_cons.mp hb with rfl | hb
  · exact aux 107 105 _ (show tl (Str.ofString "kind") = 107 :: 105 :: [110, 100] by decide +kernel) (by decide)
  rcases List.mem_cons.mp hb with rfl | hb
  · exact aux 108 97 _ (show tl (Str.ofString "lamp") = 108 :: 97 :: [109, 112] by decide +kernel) (by decide)
  rcases List.mem_cons.mp hb with rfl | hb
  · exact aux 115 105 _ (show tl (Str.ofString "sight") = 115 :: 105 :: [103, 104, 116] by decide +kernel) (by decide)
  · cases hb
theorem nodup_len {ns : List Str} (h : (ns.map fun s => s.length).Nodup) : ns.Nodup := List.Pairwise.of_map (fun s : Str => s.length) (fun a b hne e => hne (by rw [e])) h
def nm1 (c : Int) (k : Nat) : Str := repS (sg (97 + ((c / 4 - (k : Int)) % 26).toNat)) (1 + (k : Int))
theorem tl_nm1 (c : Int) (k : Nat) : tl (nm1 c k) = List.replicate (k + 1) (97 + ((c / 4 - (k : Int)) % 26).toNat) := by
  unfold nm1
  rw [tl_repS]
  have e : (1 + (k : Int)).toNat = k + 1 := by omega
  rw [e]
  exact rep_one _ _
theorem zzq_tl : tl (Str.ofString "zzq") = [122, 122, 113] := by decide +kernel
theorem x_tl : tl ("x" : Str) = [120] := by decide +kernel
theorem nox_len {ns : List Str} {n : Nat} (h : ∀ s ∈ ns, (tl s).length = n) : ∀ a ∈ ns, ∀ b ∈ ns, a ++ ("x" : Str) ≠ b := fun a ha b hb e => by
  have e' := congrArg (fun s => (tl s).length) e
  simp only [tl_append, x_tl, List.length_append, List.length_cons, List.length_nil] at e'
  rw [h a ha, h b hb] at e'
  omega
theorem good1 (c : Int) : GoodNames ((List.range 6).map (nm1 c)) := by
  refine ⟨by simp, nodup_len ?_, fun s hs => ?_, fun hz => ?_, fun a ha b hb e => ?_⟩
  · have e : ((List.range 6).map (nm1 c)).map (fun s : Str => s.length) = (List.range 6).map (· + 1) := by
      rw [List.map_map]
      refine List.map_congr_left fun k _ => ?_
      show (nm1 c k).length = k + 1
      rw [len_tl, tl_nm1, List.length_replicate]
    rw [e]
    decide
  · obtain ⟨k, hk, rfl⟩ := List.mem_map.mp hs
    rw [List.mem_range] at hk
    refine ⟨by rw [len_tl, tl_nm1, List.length_replicate]; omega, by rw [len_tl, tl_nm1, List.length_replicate]; omega, fun x hx => ?_, rep_not_bar (tl_nm1 c k)⟩
    have hx' : x ∈ tl (nm1 c k) := hx
    rw [tl_nm1] at hx'
    have := List.eq_of_mem_replicate hx'
    omega
  · obtain ⟨k, _, e⟩ := List.mem_map.mp hz
    have e' := congrArg tl e
    rw [tl_nm1, zzq_tl] at e'
    have a1 := List.eq_of_mem_replicate (show 122 ∈ List.replicate (k + 1) (97 + ((c / 4 - (k : Int)) % 26).toNat) by rw [e']; simp)
    have a2 := List.eq_of_mem_replicate (show 113 ∈ List.replicate (k + 1) (97 + ((c / 4 - (k : Int)) % 26).toNat) by rw [e']; simp)
    omega
  · obtain ⟨i, hi, rfl⟩ := List.mem_map.mp ha
    obtain ⟨j, hj, rfl⟩ := List.mem_map.mp hb
    rw [List.mem_range] at hi hj
    have e' := congrArg tl e
    rw [tl_append, tl_nm1, tl_nm1, x_tl] at e'
    have e1 := congrArg List.length e'
    simp only [List.length_append, List.length_replicate, List.length_cons, List.length_nil] at e1
    rw [List.replicate_succ, List.replicate_succ, List.cons_append] at e'
    injection e' with e2 _
    omega
/-! a row of letters, one of them another one -/
def rowc (c : Int) : List Nat := (List.range 6).map fun (j : Nat) => 97 + ((c / 7 + 5 * ((j : Nat) : Int)) % 26).toNat
def nm2 (c : Int) (at_ size k : Nat) : Str := ⟨((rowc c).take at_ ++ [97 + ((c / 11 + (k : Int)) % 26).toNat] ++ ((rowc c).drop (at_ + 1)).take (size - (at_ + 1))).toArray⟩
theorem rowc_len (c : Int) : (rowc c).length = 6 := by unfold rowc; simp
theorem rowc_mem {c : Int} {x : Nat} (h : x ∈ rowc c) : 97 ≤ x ∧ x ≤ 122 := by
  unfold rowc at h
  obtain ⟨j, _, rfl⟩ := List.mem_map.mp h
  omega
theorem tl_nm2 (c : Int) (at_ size k : Nat) : tl (nm2 c at_ size k) = (rowc c).take at_ ++ [97 + ((c / 11 + (k : Int)) % 26).toNat] ++ ((rowc c).drop (at_ + 1)).take (size - (at_ + 1)) := rfl
theorem nm2_len {c : Int} {at_ size k : Nat} (h1 : at_ < size) (h2 : size ≤ 6) : (nm2 c at_ size k).length = size := by
  rw [len_tl, tl_nm2]
  simp only [List.length_append, List.length_take, List.length_drop, rowc_len, List.length_cons, List.length_nil]
  omega
theorem nm2_inj {c : Int} {at_ size j k : Nat} (h1 : at_ < size) (h2 : size ≤ 6) (hj : j < 6) (hk : k < 6) (e : nm2 c at_ size j = nm2 c at_ size k) : j = k := by
  have e' := congrArg tl e
  rw [tl_nm2, tl_nm2, List.append_assoc, List.append_assoc] at e'
  have e2 := List.append_cancel_left e'
  rw [List.cons_append, List.cons_append] at e2
  injection e2 with e3 _
  omega
theorem nm2_zzq {c : Int} {at_ size : Nat} (h1 : at_ < size) (h2 : size ≤ 6) (hz : Str.ofString "zzq" ∈ (List.range 6).map (nm2 c at_ size)) : False := by
  obtain ⟨k, _, e⟩ := List.mem_map.mp hz
  have l3 : size = 3 := by
    have := congrArg (fun s : Str => s.length) e
    replace this : (nm2 c at_ size k).length = (Str.ofString "zzq").length := this
    rw [nm2_len h1 h2] at this
    have z : (Str.ofString "zzq").length = 3 := by decide +kernel
    exact this.trans z
  subst l3
  have e' := congrArg tl e
  rw [tl_nm2, zzq_tl] at e'
  have er : rowc c = [97 + ((c / 7 + 5 * ((0 : Nat) : Int)) % 26).toNat, 97 + ((c / 7 + 5 * ((1 : Nat) : Int)) % 26).toNat, 97 + ((c / 7 + 5 * ((2 : Nat) : Int)) % 26).toNat, 97 + ((c / 7 + 5 * ((3 : Nat) : Int)) % 26).toNat, 97 + ((c / 7 + 5 * ((4 : Nat) : Int)) % 26).toNat, 97 + ((c / 7 + 5 * ((5 : Nat) : Int)) % 26).toNat] := rfl
  rw [er] at e'
  have : at_ = 0 ∨ at_ = 1 ∨ at_ = 2 := by omega
  rcases this with rfl | rfl | rfl
  · simp only [List.take, List.drop, List.nil_append, List.cons_append, Nat.reduceAdd, Nat.reduceSub, List.cons.injEq, and_true] at e'
    omega
  · simp only [List.take, List.drop, List.nil_append, List.cons_append, Nat.reduceAdd, Nat.reduceSub, List.cons.injEq, and_true] at e'
    omega
  · simp only [List.take, List.drop, List.nil_append, List.cons_append, Nat.reduceAdd, Nat.reduceSub, List.cons.injEq, and_true] at e'
    omega
theorem good2 {c : Int} {at_ size : Nat} (h1 : at_ < size) (h2 : size ≤ 6) (hb : ∀ k, k < 6 → nm2 c at_ size k ∉ bars) : GoodNames ((List.range 6).map (nm2 c at_ size)) := by
  refine ⟨by simp, ?_, fun s hs => ?_, fun hz => nm2_zzq h1 h2 hz, nox_len (n := size) fun s hs => by
    obtain ⟨k, _, rfl⟩ := List.mem_map.mp hs
    rw [← len_tl]; exact nm2_len h1 h2⟩
  · refine List.Pairwise.map _ (R := fun a b => a ≠ b ∧ a < 6 ∧ b < 6) (fun a b hab e => hab.1 (nm2_inj h1 h2 hab.2.1 hab.2.2 e)) ?_
    decide
  · obtain ⟨k, hk, rfl⟩ := List.mem_map.mp hs
    rw [List.mem_range] at hk
    refine ⟨by rw [nm2_len h1 h2]; omega, by rw [nm2_len h1 h2]; exact h2, fun x hx => ?_, hb k hk⟩
    have hx' : x ∈ tl (nm2 c at_ size k) := hx
    rw [tl_nm2] at hx'
    rcases List.mem_append.mp hx' with hx' | hx'
    · rcases List.mem_append.mp hx' with hx' | hx'
      · exact rowc_mem (List.mem_of_mem_take hx')
      · rw [List.mem_singleton] at hx'
        omega
    · exact rowc_mem (List.mem_of_mem_drop (List.mem_of_mem_take hx'))
def nm3 (k : Nat) : Str := ("f" : Str) ++ sg (97 + k)
theorem tl_nm3 (k : Nat) : tl (nm3 k) = [102, 97 + k] := by
  unfold nm3
  rw [tl_append]
  have : tl ("f" : Str) = [102] := by decide +kernel
  rw [this]
  rfl
theorem good3 : GoodNames ((List.range 6).map nm3) := by
  refine ⟨by simp, ?_, fun s hs => ?_, fun hz => by
    obtain ⟨k, _, e⟩ := List.mem_map.mp hz
    have e' := congrArg tl e
    rw [tl_nm3, zzq_tl] at e'
    simp at e', nox_len (n := 2) fun s hs => by
    obtain ⟨k, _, rfl⟩ := List.mem_map.mp hs
    rw [tl_nm3]; rfl⟩
  · refine List.Pairwise.map _ (R := fun a b => a ≠ b ∧ a < 6 ∧ b < 6) (fun a b hab e => hab.1 ?_) (by decide)
    have e' := congrArg tl e
    rw [tl_nm3, tl_nm3] at e'
    injection e' with _ e2
    injection e2 with e3 _
    omega
  · obtain ⟨k, hk, rfl⟩ := List.mem_map.mp hs
    rw [List.mem_range] at hk
    refine ⟨by rw [len_tl, tl_nm3]; exact Nat.le_add_left 1 1, by rw [len_tl, tl_nm3]; exact Nat.le_add_left 2 4, fun x hx => ?_, fun hb => ?_⟩
    · have hx' : x ∈ tl (nm3 k) := hx
      rw [tl_nm3] at hx'
      rcases List.mem_cons.mp hx' with rfl | hx'
      · omega
      · rw [List.mem_singleton] at hx'; omega
    · have : (nm3 k).length = 2 := by rw [len_tl, tl_nm3]; rfl
      unfold bars at hb
      rcases List.mem_cons.mp hb with e | hb
      · rw [e] at this; exact absurd this (by decide +kernel)
      rcases List.mem_cons.mp hb with e | hb
      · rw [e] at this; exact absurd this (by decide +kernel)
      rcases List.mem_cons.mp hb with e | hb
      · rw [e] at this; exact absurd this (by decide +kernel)
      rcases List.mem_cons.mp hb with e | hb
      · rw [e] at this; exact absurd this (by decide +kernel)
      · cases hb
/-! joining signs -/
theorem joinL_nil : ∀ ps : List (List Nat), joinL [] ps = ps.flatten
  | [] => rfl
  | [p] => by simp [joinL]
  | p :: q :: r => by show p ++ ([] ++ joinL [] (q :: r)) = _; rw [joinL_nil (q :: r)]; simp
theorem sg_flat : ∀ xs : List Nat, ((xs.map sg).map tl).flatten = xs
  | [] => rfl
  | x :: xs => by rw [List.map_cons, List.map_cons, List.flatten_cons, sg_flat xs]; rfl
theorem join_sg (xs : List Nat) : Txt.join "" (xs.map sg) = ⟨xs.toArray⟩ := by
  refine ext_tl ?_
  rw [join_eq, tl_join]
  have : tl ("" : Str) = [] := by decide +kernel
  rw [this, joinL_nil, sg_flat]
theorem sIx_of {n d : Nat} {i : Int} (h0 : 0 ≤ i) (h1 : i ≤ n) : HT.sIx n d (some i) = i.toNat := by
  obtain ⟨k, rfl⟩ := Int.eq_ofNat_of_zero_le h0
  show HT.sIx n d (some (k : Int)) = _
  rw [HT.sIx_nat]; omega
/-! texts as plain data -/
theorem strOk_of {s : Str} (h : Asc s) : PyData.strOk s = true := by
  unfold PyData.strOk
  rw [← Array.all_toList, List.all_eq_true]
  intro c hc
  exact decide_eq_true (h c hc)
theorem pdL_strs : ∀ ns : List Str, pdL (ns.map D.str) = some (ns.map PyData.str)
  | [] => by simp [pdL]
  | n :: ns => by rw [List.map_cons, pdL, pdL_strs ns, pd] <;> rfl
theorem lay_strs : ∀ ns : List Str, (∀ s ∈ ns, Asc s) → PyData.canLayAll0 (ns.map PyData.str) = true
  | [], _ => by simp [PyData.canLayAll0]
  | n :: ns, h => by
    rw [List.map_cons, PyData.canLayAll0, lay_strs ns fun s hs => h s (List.mem_cons_of_mem _ hs), PyData.canLay0, strOk_of (h n List.mem_cons_self)] <;> rfl
theorem dep_strs : ∀ ns : List Str, PyData.depthAll (ns.map PyData.str) = 0
  | [] => by simp [PyData.depthAll]
  | n :: ns => by rw [List.map_cons, PyData.depthAll, dep_strs ns, PyData.depth] <;> rfl
theorem shaped_strs {ns : List Str} (h : ∀ s ∈ ns, Asc s) : SeqAt.shaped (.list (ns.map PyData.str)) = true := by
  unfold SeqAt.shaped
  rw [PyData.canLay0, lay_strs ns h, PyData.depth, dep_strs] <;> rfl
theorem inV_strs (s : Str) : ∀ ns : List Str, inV (.str s) (ns.map V.str) = decide (s ∈ ns)
  | [] => by simp [inV]
  | n :: ns => by
    have h := inV_strs s ns
    unfold inV at h ⊢
    rw [List.map_cons, List.any_cons, h]
    show ((n == s) || decide (s ∈ ns)) = decide (s ∈ n :: ns)
    by_cases e : n = s
    · subst e; simp
    · have e2 : ¬ s = n := fun z => e z.symm
      simp [e, e2]
theorem inD_strs (s : Str) (ns : List Str) : inD (.str s) (ns.map D.str) = decide (s ∈ ns) := by
  unfold inD
  have : (ns.map D.str).map vOf = ns.map V.str := by rw [List.map_map]; rfl
  rw [this]
  exact inV_strs s ns
theorem flat_strs (ns : List Str) : (ns.map D.str).all flatD = true := by
  rw [List.all_eq_true]
  intro x hx
  obtain ⟨s, _, rfl⟩ := List.mem_map.mp hx
  rfl
end DL
set_option Elab.async false
set_option linter.all false
set_option maxRecDepth 100000
set_option maxHeartbeats 4000001
namespace DL
open PySem L2 TL
local macro_rules | `(tactic| walk_at "dd") => `(tactic| try simp only [dSeq, dAsg, dgName, dgTup, dgSub, dOp, dVar, dC, dAdd, dSub, dMul, dMod, dFDiv, dPow, dCmp, dNeg, dEqn, dIsN, dIx, dTup, dLst, dConsA, dNilA, dCB, dCall, dRet, dRetN, dDrop, dIfS, dNext, dBreak, dCont, dTest, dTru, dAndT, dOrT, dNotT, dAndV, dOrV, dNotV, dIf, dChain, dDGet, dDPut, dM1, dM0, dJoin, dSplit, dUpper, dBML, dAppend, dInsert, dPopAt, dLen, dInt, dStr, dTupOf, dListOf, dMax2, dSum, dAll, dSl, dPart, dNoPart, newLst, keyD, dFor, dLc, diSeq, diRng1, diRng2, diEnum, diEnumS, diStr,
  startD, setAll, wipeD, List.map_cons, List.map_nil, List.length_cons, List.length_nil, List.replicate, List.cons_append, List.nil_append, List.getElem?_cons_zero, List.getElem?_cons_succ, List.set_cons_zero, List.set_cons_succ, Nat.reduceAdd, Nat.reduceSub, Bool.false_eq_true, if_true, if_false, ite_true, ite_false, reduceIte])
local macro_rules | `(tactic| walk_at "cm") => `(tactic| first | exact .inl ⟨by omega, by omega⟩ | exact .inr ⟨by omega, by omega⟩ | exact ⟨by omega, by omega⟩ | omega | decide)
theorem pdM_strs {μ : Mu} (ns : List Str) : pdM μ (.lst (ns.map .str)) = some (.list (ns.map .str)) := by
  show pd (.lst (ns.map .str)) = _
  rw [pd, pdL_strs] <;> rfl
theorem pdM_nil {μ : Mu} : pdM μ (.lst []) = some (.list []) := by simp [pdM, pd, pdL]
theorem f_len : (Str.ofString "f").length = 1 := by decide +kernel
theorem emp_strs (ns : List Str) : (ns.map PyData.str).isEmpty = ns.isEmpty := by cases ns <;> rfl
theorem IsName.asc {s : Str} (h : IsName s) : Asc s := fun c hc => by have := h.2.2.1 c hc; omega
theorem row_app {c : Int} {at_ size : Nat} (h : size ≤ 6) (h1 : at_ < size) : cutD ((rowc c).map fun x => D.str (sg x)) none (some (at_ : Int)) ++ [D.str (sg x)] ++ cutD ((rowc c).map fun x => D.str (sg x)) (some ((at_ : Int) + 1)) (some (size : Int)) =
    (((rowc c).take at_ ++ [x] ++ ((rowc c).drop (at_ + 1)).take (size - (at_ + 1))).map sg).map D.str := by
  have hl : ((rowc c).map fun x => D.str (sg x)).length = 6 := by rw [List.length_map, rowc_len]
  have e1 : cutD ((rowc c).map fun x => D.str (sg x)) none (some (at_ : Int)) = (((rowc c).take at_).map sg).map D.str := by
    unfold cutD
    rw [hl, HT.sIx_nat, HT.sIx_none, List.drop_zero, Nat.sub_zero, Nat.min_eq_left (by omega), List.map_map, ← List.map_take]
    rfl
  have e2 : cutD ((rowc c).map fun x => D.str (sg x)) (some ((at_ : Int) + 1)) (some (size : Int)) = ((((rowc c).drop (at_ + 1)).take (size - (at_ + 1))).map sg).map D.str := by
    unfold cutD
    have : ((at_ : Int) + 1) = ((at_ + 1 : Nat) : Int) := by omega
    rw [hl, this, HT.sIx_nat, HT.sIx_nat, Nat.min_eq_left (by omega), Nat.min_eq_left (by omega), List.map_map, ← List.map_drop, ← List.map_take]
    rfl
  rw [e1, e2]
  simp
theorem rd__law_names : ∀ ds μ Q, P__law_names ds μ Q → td__law_names { nx := fun _ μ' => GhQ Q .non μ', rt := GhQ Q } (startD N__law_names ds) μ := by
  rintro ds μ Q ⟨c, rfl, hc, h⟩
  unfold td__law_names N__law_names
  walk_at "dd"
  rw [show (Str.ofString "abcdefghijklmnopqrstuvwxyz") = abc from rfl]
  refine ⟨by decide, ?_⟩
  by_cases h3 : c % 4 = 3
  · rw [if_pos (decide_eq_true h3)]
    refine ⟨by decide, LcB.pure (fun d => match d with | .int i => .str (nm1 c i.toNat) | d => d) trivial (by rw [rngD_len]; decide) (fun j d Qd hd q => ?_) ?_⟩
    · obtain ⟨hj, rfl⟩ := rngD_get hd
      walk_at "dd"
      refine ⟨by walk_at "cm", by decide, by rw [abc_len]; decide, _, abc_at (by omega) (by omega), by omega, by omega, Nat.lt_of_lt_of_le Nat.one_lt_two (by decide), ?_⟩
      have e : (0 + (j : Int)).toNat = j := by omega
      simp only [e] at q
      have e2 : (0 + (j : Int)) = (j : Int) := by omega
      rw [e2]
      exact q
    · have e : (rngD 0 (6 : Int).toNat).map (fun d => match d with | .int i => D.str (nm1 c i.toNat) | d => d) = ((List.range 6).map (nm1 c)).map .str := by
        unfold rngD; rw [List.map_map, List.map_map]
        refine List.map_congr_left fun j _ => ?_
        show D.str (nm1 c (0 + (j : Int)).toNat) = D.str (nm1 c j)
        have e : (0 + (j : Int)).toNat = j := by omega
        rw [e]
      rw [e]
      exact GhQ.self (h _ (good1 c))
  rw [if_neg (by rw [decide_eq_false h3]; exact Bool.false_ne_true)]
  walk_at "dd"
  obtain ⟨size, hs, hs1, hs2⟩ : ∃ size : Nat, 1 + c / 3 % 6 = (size : Int) ∧ 1 ≤ size ∧ size ≤ 6 := ⟨(1 + c / 3 % 6).toNat, by omega, by omega, by omega⟩
  refine ⟨by walk_at "cm", by decide, ?_⟩
  rw [hs]
  refine ⟨by walk_at "cm", by omega, by decide, by decide, ?_⟩
  have b0 := Int.emod_nonneg (c / 18) (show (size : Int) ≠ 0 by omega)
  have b1 := Int.emod_lt_of_pos (c / 18) (show (0 : Int) < size by omega)
  obtain ⟨at_, hat, hlt⟩ : ∃ at_ : Nat, atI [D.int (c / 18 % size), D.int 0, D.int (size - 1)] (c % 3) = some (.int (at_ : Int)) ∧ at_ < size := by
    have : c % 3 = 0 ∨ c % 3 = 1 ∨ c % 3 = 2 := by omega
    rcases this with e | e | e
    · exact ⟨(c / 18 % size).toNat, by rw [e]; exact atI_some (by decide) (by rw [Int.toNat_of_nonneg b0] <;> rfl), by omega⟩
    · exact ⟨0, by rw [e]; exact atI_some (by decide) rfl, by omega⟩
    · exact ⟨size - 1, by rw [e]; exact atI_some (by decide) (by show some (D.int ((size : Int) - 1)) = _; rw [Int.ofNat_sub hs1] <;> rfl), by omega⟩
  refine ⟨_, _, rfl, hat, by decide, LcB.pure (fun d => match d with | .int i => .str (sg (97 + ((c / 7 + 5 * i) % 26).toNat)) | d => d) trivial (by rw [rngD_len]; decide) (fun j d Qd hd q => ?_) ?_⟩
  · obtain ⟨hj, rfl⟩ := rngD_get hd
    walk_at "dd"
    exact ⟨by walk_at "cm", by walk_at "cm", by decide, by rw [abc_len]; decide, _, abc_at (by omega) (by omega), q⟩
  have er : (rngD 0 (6 : Int).toNat).map (fun d => match d with | .int i => D.str (sg (97 + ((c / 7 + 5 * i) % 26).toNat)) | d => d) = (rowc c).map fun x => D.str (sg x) := by
    unfold rngD rowc; rw [List.map_map, List.map_map]
    refine List.map_congr_left fun j _ => ?_
    show D.str (sg (97 + ((c / 7 + 5 * (0 + (j : Int))) % 26).toNat)) = D.str (sg (97 + ((c / 7 + 5 * (j : Int)) % 26).toNat))
    rw [Int.zero_add]
  rw [er]
  walk_at "dd"
  refine ⟨Nat.zero_le _, fun p hp => ⟨by decide, ?_⟩⟩
  let I : Nat → DSl → Mu → Prop := fun k ds ν => ∃ (x3 x9 x10 x11 : Option D), ds = [some (.int c), some (.int 6), some (.str abc), x3, some (.int size), some (.int at_), some (.lst ((rowc c).map fun x => D.str (sg x))), none, some (.obj p), x9, none, none] ∧ ν = put μ p (.lst (((List.range k).map (nm2 c at_ size)).map .str))
  refine ⟨I, ⟨_, _, none, none, rfl, rfl⟩, fun _ _ _ _ _ => trivial, fun j d ds ν hd hI => ?_, fun ds ν hI => ?_⟩
  · obtain ⟨x3, x9, x10, x11, rfl, rfl⟩ := hI
    obtain ⟨hj, rfl⟩ := rngD_get hd
    walk_at "dd"
    refine ⟨by walk_at "cm", by decide, by rw [abc_len]; decide, _, abc_at (by omega) (by omega), ?_⟩
    walk_at "dd"
    refine ⟨⟨_, put_same⟩, ⟨_, rfl⟩, _, rfl, Nat.le_add_left 1 16777215, _, _, rfl, rfl, ?_, _, rfl, _, _, rfl, rfl, ?_, ?_⟩
    · refine smallE ?_
      unfold cutD; simp only [List.length_take, List.length_drop, List.length_map, rowc_len, List.length_cons, List.length_nil]; omega
    · refine smallE ?_
      unfold cutD; simp only [List.length_append, List.length_take, List.length_drop, List.length_map, rowc_len, List.length_cons, List.length_nil]; omega
    rw [show (⟨#[97 + ((c / 11 + (0 + (j : Int))) % 26).toNat]⟩ : Str) = sg (97 + ((c / 11 + (j : Int)) % 26).toNat) by rw [Int.zero_add]; rfl, row_app hs2 hlt]
    refine ⟨_, rfl, ?_, ?_⟩
    · have : ∀ l : List Nat, ((l.map sg).map (·.length)).sum = l.length := by
        intro l
        induction l with
        | nil => rfl
        | cons a l ih => rw [List.map_cons, List.map_cons, List.sum_cons, ih, List.length_cons]; show 1 + _ = _; omega
      rw [this]
      have e0 : (Str.ofString "").length = 0 := by decide +kernel
      rw [e0]
      simp only [List.length_append, List.length_take, List.length_drop, rowc_len, List.length_cons, List.length_nil]
      omega
    · rw [join_sg]
      refine ⟨_, put_same, small (by rw [List.length_map, List.length_map, List.length_range]; omega), _, _, none, none, rfl, ?_⟩
      rw [put_put, List.range_succ, List.map_append, List.map_append]
      rfl
  · obtain ⟨x3, x9, x10, x11, rfl, rfl⟩ := hI
    rw [rngD_len]
    walk_at "dd"
    have hn : (6 : Int).toNat = 6 := rfl
    rw [hn]
    generalize hfound : (List.range 6).map (nm2 c at_ size) = found
    refine ⟨Nat.le_add_left 4 16777212, _, put_same, ?_⟩
    refine LcB.filt (fun d => inD d (bars.map .str)) id put_same (by rw [List.length_map, ← hfound, List.length_map, List.length_range]; decide) (fun j d Qd hd q => ?_) (fun j d Qd hd hp q => ?_) ?_
    · obtain ⟨s, hs, rfl⟩ := map_get hd
      walk_at "dd"
      exact ⟨_, rfl, rfl, flat_strs bars, q⟩
    · obtain ⟨s, hs, rfl⟩ := map_get hd
      walk_at "dd"
      exact q
    have ef : ((found.map D.str).filter fun d => inD d (bars.map .str)).map id = (found.filter fun s => decide (s ∈ bars)).map D.str := by
      rw [List.map_id, List.filter_map]
      congr 1
      refine List.filter_congr fun s _ => ?_
      exact inD_strs s bars
    rw [ef]
    have hasc : ∀ s ∈ found, Asc s := by
      intro s hs x hx
      rw [← hfound] at hs
      obtain ⟨k, hk, rfl⟩ := List.mem_map.mp hs
      have hx' : x ∈ tl (nm2 c at_ size k) := hx
      rw [tl_nm2] at hx'
      rcases List.mem_append.mp hx' with hx' | hx'
      · rcases List.mem_append.mp hx' with hx' | hx'
        · have := rowc_mem (List.mem_of_mem_take hx'); omega
        · rw [List.mem_singleton] at hx'; omega
      · have := rowc_mem (List.mem_of_mem_drop (List.mem_of_mem_take hx')); omega
    refine ⟨Nat.zero_le _, _, _, pdM_strs _, pdM_nil, shaped_strs (fun s hs => hasc s (List.mem_filter.mp hs).1), shaped_nil, ?_⟩
    rw [eqv_nil, emp_strs]
    cases hempty : (found.filter fun s => decide (s ∈ bars)).isEmpty with
    | false =>
      simp only [Bool.not_false, if_true]
      refine ⟨by decide, LcB.pure (fun d => match d with | .int i => .str (nm3 i.toNat) | d => d) trivial (by rw [rngD_len]; decide) (fun j d Qd hd q => ?_) ?_⟩
      · obtain ⟨hj, rfl⟩ := rngD_get hd
        walk_at "dd"
        refine ⟨by rw [abc_len]; decide, _, abc_at (by omega) (by omega), by rw [f_len]; exact smallE (show 1 + 1 ≤ 1000000 by decide), ?_⟩
        exact q
      · have e : (rngD 0 6).map (fun d => match d with | .int i => D.str (nm3 i.toNat) | d => d) = ((List.range 6).map nm3).map .str := by
          unfold rngD; rw [List.map_map, List.map_map]
          refine List.map_congr_left fun j _ => ?_
          show D.str (nm3 (0 + (j : Int)).toNat) = D.str (nm3 j)
          have e : (0 + (j : Int)).toNat = j := by omega
          rw [e]
        rw [e]
        exact GhQ.sub (SubM.new hp) (h _ good3)
    | true =>
      simp only [Bool.not_true, Bool.false_eq_true, if_false]
      refine GhQ.fix (SubM.new hp) put_same hp (h found ?_)
      rw [← hfound]
      refine good2 hlt hs2 fun k hk hb => ?_
      have hm : nm2 c at_ size k ∈ found.filter fun s => decide (s ∈ bars) := List.mem_filter.mpr ⟨by rw [← hfound]; exact List.mem_map.mpr ⟨k, List.mem_range.mpr hk, rfl⟩, decide_eq_true hb⟩
      rw [List.isEmpty_iff.mp hempty] at hm
      cases hm
end DL
set_option Elab.async false
set_option linter.all false
set_option maxRecDepth 100000
set_option maxHeartbeats 4000001
namespace DL
open PySem L2 TL
local macro_rules | `(tactic| walk_at "dd") => `(tactic| try simp only [dSeq, dAsg, dgName, dgTup, dgSub, dOp, dVar, dC, dAdd, dSub, dMul, dMod, dFDiv, dPow, dCmp, dNeg, dEqn, dIsN, dIx, dTup, dLst, dConsA, dNilA, dCB, dCall, dRet, dRetN, dDrop, dIfS, dNext, dBreak, dCont, dTest, dTru, dAndT, dOrT, dNotT, dAndV, dOrV, dNotV, dIf, dChain, dDGet, dDPut, dM1, dM0, dJoin, dSplit, dUpper, dBML, dAppend, dInsert, dPopAt, dLen, dInt, dStr, dTupOf, dListOf, dMax2, dSum, dAll, dSl, dPart, dNoPart, newLst, keyD, dFor, dLc, diSeq, diRng1, diRng2, diEnum, diEnumS, diStr,
  startD, setAll, wipeD, List.map_cons, List.map_nil, List.length_cons, List.length_nil, List.replicate, List.cons_append, List.nil_append, List.getElem?_cons_zero, List.getElem?_cons_succ, List.set_cons_zero, List.set_cons_succ, Nat.reduceAdd, Nat.reduceSub, Bool.false_eq_true, if_true, if_false, ite_true, ite_false, reduceIte])
local macro_rules | `(tactic| walk_at "cm") => `(tactic| first | exact .inl ⟨by omega, by omega⟩ | exact .inr ⟨by omega, by omega⟩ | exact ⟨by omega, by omega⟩ | omega | decide)
theorem at7 {a b c d e f g : Int} {i : Int} (h0 : 0 ≤ i) (h1 : i < 7) : ∃ w, atI [D.int a, D.int b, D.int c, D.int d, D.int e, D.int f, D.int g] i = some (.int w) := by
  have : i = 0 ∨ i = 1 ∨ i = 2 ∨ i = 3 ∨ i = 4 ∨ i = 5 ∨ i = 6 := by omega
  rcases this with rfl | rfl | rfl | rfl | rfl | rfl | rfl <;> exact ⟨_, rfl⟩
theorem rd__law_lamp : ∀ ds μ Q, P__law_lamp ds μ Q → td__law_lamp { nx := fun _ μ' => GhQ Q .non μ', rt := GhQ Q } (startD N__law_lamp ds) μ := by
  rintro ds μ Q ⟨m, dg, rest, n, cs, rfl, M, hn, h1, h6, h⟩
  unfold td__law_lamp N__law_lamp
  walk_at "dd"
  refine ⟨m, dg, rest, n, 32, rfl, M, by omega, by decide, by decide, fun r1 μ1 a1 b1 M1 F1 => ?_⟩
  walk_at "dd"
  refine ⟨m, dg, rest, n + 1, 32, rfl, M1, by omega, by decide, by decide, fun r2 μ2 a2 b2 M2 F2 => ⟨by decide, ?_⟩⟩
  walk_at "dd"
  refine ⟨m, dg, rest, n + 2, 7, rfl, M2, by omega, by decide, by decide, fun r3 μ3 a3 b3 M3 F3 => ?_⟩
  obtain ⟨w, hw⟩ := at7 (a := 0) (b := 3) (c := 9) (d := 11) (e := 19) (f := 31) (g := r2) a3 b3
  refine ⟨_, _, rfl, hw, cs.map .str, rfl, ?_⟩
  rw [List.length_map]
  refine ⟨m, dg, rest, n + 3, _, rfl, M3, by omega, by omega, by omega, fun r4 μ4 a4 b4 M4 F4 => ?_⟩
  obtain ⟨x, hx, hx2, hx3⟩ := atI_ex (xs := cs) a4 b4
  refine ⟨_, .str x, rfl, atI_some a4 (by rw [List.getElem?_map, hx3]; rfl), by decide, by show 3 ≤ sizeLine; decide, ?_⟩
  exact GhQ.self (h (x, r1, (r1 + w) % 32) μ4 ⟨hx2, a1, b1, Int.emod_nonneg _ (by decide), Int.emod_lt_of_pos _ (by decide)⟩ M4 (F1.trans (F2.trans (F3.trans F4))))
/-! fleets as plain data -/
def lampP (l : Lamp) : PyData := .tuple [.str l.1, .int l.2.1, .int l.2.2]
def kindP (k : Kind) : PyData := .tuple [.str k.1, .int k.2.1, .tuple (k.2.2.map lampP)]
theorem pd_lamp (l : Lamp) : pd (lampD l) = some (lampP l) := by simp [lampD, lampP, pd, pdL]
theorem pdL_lamps : ∀ ls : List Lamp, pdL (ls.map lampD) = some (ls.map lampP)
  | [] => by simp [pdL]
  | l :: ls => by rw [List.map_cons, pdL, pdL_lamps ls, pd_lamp] <;> rfl
theorem pd_kind (k : Kind) : pd (kindD k) = some (kindP k) := by
  unfold kindD kindP
  simp only [pd, pdL, pdL_lamps, Option.map_some]
theorem pdL_kinds : ∀ ls : List Kind, pdL (ls.map kindD) = some (ls.map kindP)
  | [] => by simp [pdL]
  | l :: ls => by rw [List.map_cons, pdL, pdL_kinds ls, pd_kind] <;> rfl
theorem dep_lamps : ∀ ls : List Lamp, PyData.depthAll (ls.map lampP) ≤ 1
  | [] => by simp [PyData.depthAll]
  | l :: ls => by
    have := dep_lamps ls
    rw [List.map_cons, PyData.depthAll]
    have e : PyData.depth (lampP l) = 1 := by simp [lampP, PyData.depth, PyData.depthAll]
    omega
theorem dep_kinds : ∀ ls : List Kind, PyData.depthAll (ls.map kindP) ≤ 3
  | [] => by simp [PyData.depthAll]
  | l :: ls => by
    have := dep_kinds ls
    have h2 := dep_lamps l.2.2
    rw [List.map_cons, PyData.depthAll]
    have e : PyData.depth (kindP l) = max 0 (max 0 (max (PyData.depthAll (l.2.2.map lampP) + 1) 0)) + 1 := by simp [kindP, PyData.depth, PyData.depthAll]
    omega
theorem lay_lamps : ∀ ls : List Lamp, (∀ l ∈ ls, Asc l.1) → PyData.canLayAll0 (ls.map lampP) = true
  | [], _ => by simp [PyData.canLayAll0]
  | l :: ls, h => by
    rw [List.map_cons, PyData.canLayAll0, lay_lamps ls fun s hs => h s (List.mem_cons_of_mem _ hs)]
    simp [lampP, PyData.canLay0, PyData.canLayAll0, strOk_of (h l List.mem_cons_self)]
theorem lay_kinds : ∀ ls : List Kind, (∀ k ∈ ls, AscKind k) → PyData.canLayAll0 (ls.map kindP) = true
  | [], _ => by simp [PyData.canLayAll0]
  | l :: ls, h => by
    obtain ⟨h1, h2⟩ := h l List.mem_cons_self
    rw [List.map_cons, PyData.canLayAll0, lay_kinds ls fun s hs => h s (List.mem_cons_of_mem _ hs)]
    simp [kindP, PyData.canLay0, PyData.canLayAll0, strOk_of h1, lay_lamps _ h2]
theorem shaped_kinds {ls : List Kind} (h : ∀ k ∈ ls, AscKind k) : SeqAt.shaped (.list (ls.map kindP)) = true := by
  unfold SeqAt.shaped
  rw [PyData.canLay0, lay_kinds ls h, PyData.depth]
  have := dep_kinds ls
  simp only [Bool.true_and, decide_eq_true_eq]
  omega
end DL
set_option Elab.async false
set_option linter.all false
set_option maxRecDepth 100000
set_option maxHeartbeats 4000001
namespace DL
open PySem L2 TL
local macro_rules | `(tactic| walk_at "dd") => `(tactic| try simp only [dSeq, dAsg, dgName, dgTup, dgSub, dOp, dVar, dC, dAdd, dSub, dMul, dMod, dFDiv, dPow, dCmp, dNeg, dEqn, dIsN, dIx, dTup, dLst, dConsA, dNilA, dCB, dCall, dRet, dRetN, dDrop, dIfS, dNext, dBreak, dCont, dTest, dTru, dAndT, dOrT, dNotT, dAndV, dOrV, dNotV, dIf, dChain, dDGet, dDPut, dM1, dM0, dJoin, dSplit, dUpper, dBML, dAppend, dInsert, dPopAt, dLen, dInt, dStr, dTupOf, dListOf, dMax2, dSum, dAll, dSl, dPart, dNoPart, newLst, keyD, dFor, dLc, diSeq, diRng1, diRng2, diEnum, diEnumS, diStr,
  startD, setAll, wipeD, List.map_cons, List.map_nil, List.length_cons, List.length_nil, List.replicate, List.cons_append, List.nil_append, List.getElem?_cons_zero, List.getElem?_cons_succ, List.set_cons_zero, List.set_cons_succ, Nat.reduceAdd, Nat.reduceSub, Bool.false_eq_true, if_true, if_false, ite_true, ite_false, reduceIte])
local macro_rules | `(tactic| walk_at "cm") => `(tactic| first | exact .inl ⟨by omega, by omega⟩ | exact .inr ⟨by omega, by omega⟩ | exact ⟨by omega, by omega⟩ | omega | decide)
theorem map_erase {α β : Type} (f : α → β) : ∀ (xs : List α) (i : Nat), (xs.map f).eraseIdx i = (xs.eraseIdx i).map f
  | [], _ => by simp [List.eraseIdx]
  | x :: xs, 0 => rfl
  | x :: xs, i + 1 => by
    show f x :: (xs.map f).eraseIdx i = f x :: (xs.eraseIdx i).map f
    rw [map_erase f xs i]
theorem lamps_new {m dg : Addr} {rest : List (Key × D)} {n : Nat} {μ : Mu} {cs : List Str} {ds : DSl} {E : DEnds} (e0 : ds[0]? = some (some (.obj m))) (e1 : ds[1]? = some (some (.tup (cs.map .str)))) (e3 : wipeD ds [3] = ds) (l3 : 3 < ds.length)
    (M : MOk m dg rest n μ) (hn : n < 2^28 + 5) (c1 : 1 ≤ cs.length) (c6 : cs.length ≤ 6) (h : ∀ ls μ', GoodLamps cs ls → MOk m dg rest (n + 20) μ' → Fr m dg μ μ' → E.rt (.tup (ls.map lampD)) μ') :
    (dRet (dCB dTupOf (dConsA (dLc false (diRng1 (dConsA (dOp (dAdd false) (dC (.int 1)) (dCall P__law_draw (dConsA (dVar 0) (dConsA (dC (.int 4)) dNilA)))) dNilA)) (dgName 3) dYes (dCall P__law_lamp (dConsA (dVar 0) (dConsA (dVar 1) dNilA))) [3]) dNilA))) E ds μ := by
  simp only [dRet, dCB, dConsA, dLc, diRng1, dOp, dC, dCall, dVar, dNilA, e0]
  refine ⟨m, dg, rest, n, 4, rfl, M, by omega, by decide, by decide, fun r μ1 a1 b1 M1 F1 => ?_⟩
  show (_ ∧ _) ∧ _
  refine ⟨⟨by omega, by omega⟩, LcB.inv (fun j acc ν => ∃ ls : List Lamp, acc = ls.map lampD ∧ ls.length = j ∧ (∀ l ∈ ls, GoodLamp cs l) ∧ MOk m dg rest (n + 1 + 4 * j) ν ∧ Fr m dg μ ν) ⟨[], rfl, rfl, (fun _ h => nomatch h), M1, F1⟩ (fun _ _ _ _ _ => trivial) (by rw [rngD_len]; omega) (fun j acc ν ⟨ls, e, l, _⟩ => by rw [e, List.length_map, l]; exact Nat.le_refl _) (fun j d acc ν hd hI => ?_) (fun acc ν hI => ?_)⟩
  · obtain ⟨ls, rfl, hl, hg, M2, F2⟩ := hI
    obtain ⟨hj, rfl⟩ := rngD_get hd
    rw [e3]
    have g0 : (ds.set 3 (some (D.int (0 + (j : Int)))))[0]? = some (some (.obj m)) := by rw [List.getElem?_set_ne (by decide)]; exact e0
    have g1 : (ds.set 3 (some (D.int (0 + (j : Int)))))[1]? = some (some (.tup (cs.map .str))) := by rw [List.getElem?_set_ne (by decide)]; exact e1
    simp only [dCall, dConsA, dVar, dNilA, g0, g1]
    refine ⟨m, dg, rest, n + 1 + 4 * j, cs, rfl, M2, by omega, c1, c6, fun l ν' gl M3 F3 => ⟨ls ++ [l], by rw [List.map_append]; rfl, by rw [List.length_append, hl]; rfl, fun x hx => ?_, M3.mono (by omega), F2.trans F3⟩⟩
    rcases List.mem_append.mp hx with hx | hx
    · exact hg x hx
    · rw [List.mem_singleton] at hx; rw [hx]; exact gl
  · obtain ⟨ls, rfl, hl, hg, M2, F2⟩ := hI
    rw [rngD_len] at hl M2
    show ∃ xs, _ ∧ _
    exact ⟨_, rfl, h ls ν ⟨by omega, by omega, hg⟩ (M2.mono (by omega)) F2⟩
theorem rd__law_lamps : ∀ ds μ Q, P__law_lamps ds μ Q → td__law_lamps { nx := fun _ μ' => GhQ Q .non μ', rt := GhQ Q } (startD N__law_lamps ds) μ := by
  rintro ds μ Q ⟨m, dg, p, rest, n, cs, rows, rfl, M, hn, c1, c6, hp, pm, pd', hr6, hg, hasc, h⟩
  have fin : ∀ ls μ', GoodLamps cs ls → MOk m dg rest (n + 30) μ' → Fr m dg μ μ' → GhQ Q (.tup (ls.map lampD)) μ' := fun ls μ' a b c => GhQ.self (h ls μ' a b c)
  unfold td__law_lamps N__law_lamps
  walk_at "dd"
  have e1 : pdM μ (.obj p) = some (.list (rows.map kindP)) := by unfold pdM; simp only [hp, pdL_kinds, Option.map_some]
  refine ⟨Nat.zero_le _, _, _, e1, pdM_nil, shaped_kinds hasc, shaped_nil, ?_⟩
  rw [eqv_nil]
  cases hrows : rows with
  | nil =>
    exact lamps_new (ds := [some (.obj m), some (.tup (cs.map .str)), some (.obj p), none, none, none, none, none, none, none]) (E := { nx := fun _ μ' => GhQ Q .non μ', rt := GhQ Q }) rfl rfl rfl (show 3 < 10 by decide) M (by omega) c1 c6 fun ls μ' a b c => fin ls μ' a (b.mono (by omega)) c
  | cons k0 kr =>
    have hb : (rows.map kindP).isEmpty = false := by rw [hrows]; rfl
    rw [← hrows]
    simp only [hb, Bool.false_eq_true, if_false]
    refine ⟨m, dg, rest, n, 5, rfl, M, by omega, by decide, by decide, fun r μ1 a1 b1 M1 F1 => ?_⟩
    by_cases h2 : r < 2
    · simp only [decide_eq_true h2]
      exact lamps_new (ds := [some (.obj m), some (.tup (cs.map .str)), some (.obj p), none, none, none, none, none, none, none]) (E := { nx := fun _ μ' => GhQ Q .non μ', rt := GhQ Q }) rfl rfl rfl (show 3 < 10 by decide) M1 (by omega) c1 c6 fun ls μ' a b c => fin ls μ' a (b.mono (by omega)) (F1.trans c)
    · simp only [decide_eq_false h2, Bool.false_eq_true, if_false]
      have hp1 : μ1 p = some (.lst (rows.map kindD)) := (F1 p pm pd').trans hp
      refine ⟨_, hp1, ?_⟩
      rw [List.length_map]
      have hrl : 0 < rows.length := by rw [hrows]; simp
      refine ⟨m, dg, rest, n + 1, _, rfl, M1, by omega, by omega, by omega, fun r2 μ2 a2 b2 M2 F2 => ?_⟩
      have hp2 : μ2 p = some (.lst (rows.map kindD)) := (F2 p pm pd').trans hp1
      obtain ⟨k, hk, hk2, hk3⟩ := atI_ex (xs := rows) a2 b2
      refine ⟨_, kindD k, hp2, atI_some a2 (by rw [List.getElem?_map, hk3]; rfl), _, _, rfl, rfl, _, rfl, fun q hq => ?_⟩
      have ⟨gk0, gk1, gl1, gl6, gl⟩ := hg k hk2
      have qm := M2.neM hq
      have qd := M2.neD hq
      walk_at "dd"
      have M2' := M2.putO (o := .lst (k.2.2.map lampD)) qm qd
      refine ⟨_, put_same, ?_⟩
      rw [List.length_map]
      refine ⟨m, dg, rest, n + 2, _, rfl, M2', by omega, by omega, by omega, fun at_ μ3 a3 b3 M3 F3 => ?_⟩
      walk_at "dd"
      refine ⟨m, dg, rest, n + 3, 4, rfl, M3, by omega, by decide, by decide, fun way μ4 a4 b4 M4 F4 => ?_⟩
      walk_at "dd"
      have hq4 : μ4 q = some (.lst (k.2.2.map lampD)) := (F4 q qm qd).trans ((F3 q qm qd).trans put_same)
      have F04 : ∀ a, a ≠ m → a ≠ dg → a ≠ q → μ4 a = μ a := fun a x1 x2 x3 => (F4 a x1 x2).trans ((F3 a x1 x2).trans ((put_ne x3).trans ((F2 a x1 x2).trans (F1 a x1 x2))))
      have hμq : μ q = none := by rw [← F1 q qm qd, ← F2 q qm qd]; exact hq
      -- the end: the list at q as it is then
      have done : ∀ (ls : List Lamp) (ν : Mu) (k' : Nat), GoodLamps cs ls → MOk m dg rest k' ν → k' ≤ n + 30 → ν q = some (.lst (ls.map lampD)) → (∀ a, a ≠ m → a ≠ dg → a ≠ q → ν a = μ a) →
          ∃ xs, SeqD ν (.obj q) xs ∧ GhQ Q (.tup xs) ν := fun ls ν k' g Mν hk' e f => by
        refine ⟨_, e, ?_⟩
        refine GhQ.sub (μ' := del ν q) (fun a o z => ?_) (h ls _ g ?_ ?_)
        · unfold del at z
          by_cases y : a = q
          · rw [if_pos y] at z; cases z
          · rw [if_neg y] at z; exact z
        · obtain ⟨x1, x2, x3, x4, x5, x6, x7, x8⟩ := Mν.mono hk'
          exact ⟨x1, x2, x3, x4, x5, by unfold del; rw [if_neg (Ne.symm qm)]; exact x6, by unfold del; rw [if_neg (Ne.symm qd)]; exact x7, x8⟩
        · intro a y1 y2
          unfold del
          by_cases y : a = q
          · rw [if_pos y, y, hμq]
          · rw [if_neg y]; exact f a y1 y2 y
      have hz : (k.2.2.map lampD).length < sizeLine := small (by rw [List.length_map]; omega)
      have rep : P__law_lamp [.obj m, .tup (cs.map .str)] μ4 (fun x μ1 => ∃ xs j, μ1 q = some (.lst xs) ∧ ixN xs.length at_ = some j ∧ ∃ ys, SeqD (put μ1 q (.lst (xs.set j x))) (.obj q) ys ∧ GhQ Q (.tup ys) (put μ1 q (.lst (xs.set j x)))) := by
        refine ⟨m, dg, rest, n + 4, cs, rfl, M4, by omega, c1, c6, fun l ν gll Mν Fν => ?_⟩
        have e : ν q = some (.lst (k.2.2.map lampD)) := (Fν q qm qd).trans hq4
        refine ⟨_, _, e, ixN_some a3 (by rw [List.length_map]; exact b3), ?_⟩
        rw [← List.map_set]
        refine done _ _ (n + 8) ⟨by rw [List.length_set]; exact gl1, by rw [List.length_set]; exact gl6, fun x hx => ?_⟩ (Mν.putO qm qd) (by omega) put_same fun a y1 y2 y3 => (put_ne y3).trans ((Fν a y1 y2).trans (F04 a y1 y2 y3))
        rcases List.mem_or_eq_of_mem_set hx with hx | rfl
        · exact gl x hx
        · exact gll
      obtain rfl | rfl | rfl | rfl : way = 0 ∨ way = 1 ∨ way = 2 ∨ way = 3 := by omega
      · refine iteT ⟨_, hq4, ?_⟩
        by_cases hL : (((k.2.2.map lampD).length : Nat) : Int) < 6
        · rw [if_pos (decide_eq_true hL)]
          refine ⟨⟨_, hq4⟩, m, dg, rest, n + 4, cs, rfl, M4, by omega, c1, c6, fun l ν gll Mν Fν => ?_⟩
          have e : ν q = some (.lst (k.2.2.map lampD)) := (Fν q qm qd).trans hq4
          refine ⟨_, e, hz, a3, by omega, ?_⟩
          have e2 : (k.2.2.map lampD).take at_.toNat ++ [lampD l] ++ (k.2.2.map lampD).drop at_.toNat = (k.2.2.take at_.toNat ++ [l] ++ k.2.2.drop at_.toNat).map lampD := by simp
          rw [e2]
          rw [List.length_map] at hL
          refine done _ _ (n + 8) ⟨?_, ?_, fun x hx => ?_⟩ (Mν.putO qm qd) (by omega) put_same fun a y1 y2 y3 => (put_ne y3).trans ((Fν a y1 y2).trans (F04 a y1 y2 y3))
          · simp only [List.length_append, List.length_take, List.length_drop, List.length_cons, List.length_nil]; omega
          · simp only [List.length_append, List.length_take, List.length_drop, List.length_cons, List.length_nil]; omega
          · rcases List.mem_append.mp hx with hx | hx
            · rcases List.mem_append.mp hx with hx | hx
              · exact gl x (List.mem_of_mem_take hx)
              · rw [List.mem_singleton] at hx; rw [hx]; exact gll
            · exact gl x (List.mem_of_mem_drop hx)
        · rw [if_neg (by rw [decide_eq_false hL]; exact Bool.false_ne_true)]
          exact iteF (iteF rep)
      · refine iteF (iteT ⟨_, hq4, ?_⟩)
        by_cases hL : (1 : Int) < (((k.2.2.map lampD).length : Nat) : Int)
        · rw [if_pos (decide_eq_true hL)]
          have hlt : at_.toNat < k.2.2.length := by omega
          refine ⟨⟨_, hq4⟩, _, lampD k.2.2[at_.toNat], hq4, a3, by omega, by simp [hlt], ?_⟩
          have e2 : (k.2.2.map lampD).eraseIdx at_.toNat = (k.2.2.eraseIdx at_.toNat).map lampD := map_erase _ _ _
          rw [e2]
          rw [List.length_map] at hL
          have el : (k.2.2.eraseIdx at_.toNat).length = k.2.2.length - 1 := by rw [List.length_eraseIdx, if_pos hlt]
          exact done _ _ (n + 4) ⟨by rw [el]; omega, by rw [el]; omega, fun x hx => gl x (List.mem_of_mem_eraseIdx hx)⟩ (M4.putO qm qd) (by omega) put_same fun a y1 y2 y3 => (put_ne y3).trans (F04 a y1 y2 y3)
        · rw [if_neg (by rw [decide_eq_false hL]; exact Bool.false_ne_true)]
          exact iteF rep
      · refine iteF (iteF (iteT ?_))
        obtain ⟨l, hl, hl2, hl3⟩ := atI_ex (xs := k.2.2) a3 b3
        refine ⟨_, lampD l, hq4, atI_some a3 (by rw [List.getElem?_map, hl3]; rfl), rfl, ?_⟩
        refine ⟨m, dg, rest, n + 4, 3, rfl, M4, by omega, by decide, by decide, fun r5 ν a5 b5 Mν Fν => ?_⟩
        have e : ν q = some (.lst (k.2.2.map lampD)) := (Fν q qm qd).trans hq4
        refine ⟨by decide, by show 3 ≤ sizeLine; decide, _, _, e, ixN_some a3 (by rw [List.length_map]; exact b3), ?_⟩
        have e3 : (k.2.2.map lampD).set at_.toNat (.tup [.str l.1, .int l.2.1, .int ((l.2.2 + 1 + r5) % 32)]) = (k.2.2.set at_.toNat (l.1, l.2.1, (l.2.2 + 1 + r5) % 32)).map lampD := by rw [List.map_set]; rfl
        rw [e3]
        refine done _ _ (n + 8) ⟨by rw [List.length_set]; exact gl1, by rw [List.length_set]; exact gl6, fun x hx => ?_⟩ ((Mν.mono (by omega)).putO qm qd) (by omega) put_same fun a y1 y2 y3 => (put_ne y3).trans ((Fν a y1 y2).trans (F04 a y1 y2 y3))
        have gl0 := gl l hl2
        rcases List.mem_or_eq_of_mem_set hx with hx | rfl
        · exact gl x hx
        · exact ⟨gl0.1, gl0.2.1, gl0.2.2.1, Int.emod_nonneg _ (by decide), Int.emod_lt_of_pos _ (by decide)⟩
      · exact iteF (iteF (iteF rep))
end DL
set_option Elab.async false
set_option linter.all false
set_option maxRecDepth 100000
set_option maxHeartbeats 4000001
namespace DL
open PySem L2 TL
local macro_rules | `(tactic| walk_at "dd") => `(tactic| try simp only [dSeq, dAsg, dgName, dgTup, dgSub, dOp, dVar, dC, dAdd, dSub, dMul, dMod, dFDiv, dPow, dCmp, dNeg, dEqn, dIsN, dIx, dTup, dLst, dConsA, dNilA, dCB, dCall, dRet, dRetN, dDrop, dIfS, dNext, dBreak, dCont, dTest, dTru, dAndT, dOrT, dNotT, dAndV, dOrV, dNotV, dIf, dChain, dDGet, dDPut, dM1, dM0, dJoin, dSplit, dUpper, dBML, dAppend, dInsert, dPopAt, dLen, dInt, dStr, dTupOf, dListOf, dMax2, dSum, dAll, dSl, dPart, dNoPart, newLst, keyD, dFor, dLc, diSeq, diRng1, diRng2, diEnum, diEnumS, diStr,
  startD, setAll, wipeD, List.map_cons, List.map_nil, List.length_cons, List.length_nil, List.replicate, List.cons_append, List.nil_append, List.getElem?_cons_zero, List.getElem?_cons_succ, List.set_cons_zero, List.set_cons_succ, Nat.reduceAdd, Nat.reduceSub, Bool.false_eq_true, if_true, if_false, ite_true, ite_false, reduceIte])
local macro_rules | `(tactic| walk_at "cm") => `(tactic| first | exact .inl ⟨by omega, by omega⟩ | exact .inr ⟨by omega, by omega⟩ | exact ⟨by omega, by omega⟩ | omega | decide)
theorem kd1 : decide ((Sum.inr ("cells" : Str) : Key) = (Sum.inr ("colours" : Str) : Key)) = false := by decide +kernel
theorem kd2 : decide ((Sum.inr ("digits" : Str) : Key) = (Sum.inr ("colours" : Str) : Key)) = false := by decide +kernel
theorem kd3 : decide ((Sum.inr ("at" : Str) : Key) = (Sum.inr ("colours" : Str) : Key)) = false := by decide +kernel
theorem kd4 : decide ((Sum.inr ("cells" : Str) : Key) = (Sum.inr ("kinds" : Str) : Key)) = false := by decide +kernel
theorem kd5 : decide ((Sum.inr ("digits" : Str) : Key) = (Sum.inr ("kinds" : Str) : Key)) = false := by decide +kernel
theorem kd6 : decide ((Sum.inr ("at" : Str) : Key) = (Sum.inr ("kinds" : Str) : Key)) = false := by decide +kernel
theorem kd7 : decide ((Sum.inr ("colours" : Str) : Key) = (Sum.inr ("kinds" : Str) : Key)) = false := by decide +kernel
theorem getK_colours {c : List Int} {dg : Addr} {t : Int} {cs ks : List Str} : getK (tabD c dg t (restD cs ks)) (.inr "colours") = some (.lst (cs.map .str)) := by
  unfold getK tabD restD; simp only [List.find?_cons, kd1, kd2, kd3, decide_true, Option.map_some]
theorem getK_kinds {c : List Int} {dg : Addr} {t : Int} {cs ks : List Str} : getK (tabD c dg t (restD cs ks)) (.inr "kinds") = some (.lst (ks.map .str)) := by
  unfold getK tabD restD; simp only [List.find?_cons, kd4, kd5, kd6, kd7, decide_true, Option.map_some]
theorem MOk.colours {m dg : Addr} {cs ks : List Str} {n : Nat} {μ : Mu} (M : MOk m dg (restD cs ks) n μ) : ∃ kvs, μ m = some (.dK kvs) ∧ getK kvs (.inr "colours") = some (.lst (cs.map .str)) := by
  obtain ⟨_, _, c, d, t, h1, _⟩ := M
  exact ⟨_, h1, getK_colours⟩
theorem MOk.kinds {m dg : Addr} {cs ks : List Str} {n : Nat} {μ : Mu} (M : MOk m dg (restD cs ks) n μ) : ∃ kvs, μ m = some (.dK kvs) ∧ getK kvs (.inr "kinds") = some (.lst (ks.map .str)) := by
  obtain ⟨_, _, c, d, t, h1, _⟩ := M
  exact ⟨_, h1, getK_kinds⟩
theorem cut_take (xs : List Str) {i : Int} (h0 : 0 ≤ i) (h1 : i ≤ xs.length) : cutD (xs.map .str) none (some i) = (xs.take i.toNat).map .str := by
  unfold cutD
  have h2 : i ≤ ((xs.map D.str).length : Nat) := by rw [List.length_map]; exact h1
  rw [sIx_of h0 h2, HT.sIx_none, List.drop_zero, Nat.sub_zero, List.map_take]
theorem at6 {f : Int} (hf0 : 0 ≤ f) (hf : f < 17) {i : Int} (h0 : 0 ≤ i) (h1 : i < 6) : ∃ w, atI [D.int 0, D.int 1, D.int 2, D.int 4, D.int 16, D.int f] i = some (.int w) ∧ 0 ≤ w ∧ w ≤ 16 := by
  have : i = 0 ∨ i = 1 ∨ i = 2 ∨ i = 3 ∨ i = 4 ∨ i = 5 := by omega
  rcases this with rfl | rfl | rfl | rfl | rfl | rfl
  · exact ⟨0, rfl, by decide, by decide⟩
  · exact ⟨1, rfl, by decide, by decide⟩
  · exact ⟨2, rfl, by decide, by decide⟩
  · exact ⟨4, rfl, by decide, by decide⟩
  · exact ⟨16, rfl, by decide, by decide⟩
  · exact ⟨f, rfl, hf0, by omega⟩
theorem at2 {g : Int} (h : g = 0 ∨ g = 1) : ∃ w, atI [D.int 4, D.int 6] g = some (.int w) ∧ 0 < w ∧ w ≤ 6 := by
  rcases h with rfl | rfl
  · exact ⟨4, rfl, by decide, by decide⟩
  · exact ⟨6, rfl, by decide, by decide⟩
theorem rd__law_fleet : ∀ ds μ Q, P__law_fleet ds μ Q → td__law_fleet { nx := fun _ μ' => GhQ Q .non μ', rt := GhQ Q } (startD N__law_fleet ds) μ := by
  rintro ds μ Q ⟨m, dg, cs, ks, n, rfl, M, hn, hc6, hk6, ac, ak, h⟩
  unfold td__law_fleet N__law_fleet
  walk_at "dd"
  refine ⟨m, dg, _, n, 8, rfl, M, by omega, by decide, by decide, fun r1 μ1 a1 b1 M1 F1 => ?_⟩
  obtain ⟨g, hg, hg2⟩ : ∃ g : Int, (if decide (r1 = 0) = true then (1 : Int) else 0) = g ∧ (g = 0 ∨ g = 1) := ⟨_, rfl, by by_cases e : r1 = 0 <;> simp [e]⟩
  walk_at "dd"
  rw [hg]
  obtain ⟨kv1, e1, e2⟩ := M1.colours
  refine ⟨kv1, _, _, e1, rfl, e2, by decide, ?_⟩
  obtain ⟨w, hw, w0, w6⟩ := at2 hg2
  refine ⟨_, _, rfl, hw, m, dg, _, n + 1, w, rfl, M1, by omega, w0, by omega, fun r2 μ2 a2 b2 M2 F2 => ⟨_, rfl, ?_⟩⟩
  rw [cut_take cs (by omega) (by omega)]
  refine ⟨_, rfl, Nat.zero_le _, fun p hp => ?_⟩
  have pm := M2.neM hp
  have pd' := M2.neD hp
  have M2' := M2.putO (o := .lst []) pm pd'
  generalize hcs' : cs.take (1 + r2).toNat = cs'
  have lc : cs'.length = (1 + r2).toNat := by rw [← hcs', List.length_take]; omega
  have cc : cs' = cs.take cs'.length := by rw [lc]; exact hcs'.symm
  have ac' : ∀ s ∈ cs', Asc s := fun s hs => ac s (List.mem_of_mem_take (by rw [cc] at hs; exact hs))
  walk_at "dd"
  obtain ⟨kv2, e3, e4⟩ := M2'.kinds
  refine ⟨kv2, _, _, e3, rfl, e4, by decide, _, _, rfl, hw, m, dg, _, n + 2, w, rfl, M2', by omega, w0, by omega, fun r3 μ3 a3 b3 M3 F3 => ⟨_, rfl, ?_⟩⟩
  rw [cut_take ks (by omega) (by omega)]
  refine ⟨_, rfl, ?_⟩
  generalize hks' : ks.take (1 + r3).toNat = ks'
  have lk : ks'.length = (1 + r3).toNat := by rw [← hks', List.length_take]; omega
  have ck : ks' = ks.take ks'.length := by rw [lk]; exact hks'.symm
  have hμp : μ p = none := by rw [← F1 p pm pd', ← F2 p pm pd']; exact hp
  have F03 : ∀ a, a ≠ m → a ≠ dg → a ≠ p → μ3 a = μ a := fun a x1 x2 x3 => (F3 a x1 x2).trans ((put_ne x3).trans ((F2 a x1 x2).trans (F1 a x1 x2)))
  let I : Nat → DSl → Mu → Prop := fun j ds ν => ∃ (rows : List Kind) (x4 x5 : Option D), ds = [some (.obj m), some (.int g), some (.tup (cs'.map .str)), some (.obj p), x4, x5] ∧ rows.length = j ∧ rows.map (·.1) = ks'.take j ∧ (∀ k ∈ rows, GoodKind cs' k) ∧ (∀ k ∈ rows, AscKind k) ∧
    MOk m dg (restD cs ks) (n + 4 + 40 * j) ν ∧ ν p = some (.lst (rows.map kindD)) ∧ ∀ a, a ≠ m → a ≠ dg → a ≠ p → ν a = μ a
  refine ⟨I, ⟨[], _, _, rfl, rfl, rfl, (fun _ h => nomatch h), (fun _ h => nomatch h), M3.mono (by omega), (F3 p pm pd').trans put_same, F03⟩, fun _ _ _ _ _ => trivial, fun j d ds ν hd hI => ?_, fun ds ν hI => ?_⟩
  · obtain ⟨rows, x4, x5, rfl, hl, hn', hgood, hasc, Mν, eν, Fν⟩ := hI
    obtain ⟨name, hname, rfl⟩ := map_get hd
    have hj : j < ks'.length := (List.getElem?_eq_some_iff.mp hname).1
    walk_at "dd"
    refine ⟨m, dg, _, _, 17, rfl, Mν, by omega, by decide, by decide, fun r4 μ4 a4 b4 M4 F4 => ⟨by decide, ?_⟩⟩
    walk_at "dd"
    refine ⟨m, dg, _, _, 6, rfl, M4, by omega, by decide, by decide, fun r5 μ5 a5 b5 M5 F5 => ?_⟩
    obtain ⟨t, ht, t0, t16⟩ := at6 a4 b4 a5 b5
    refine ⟨_, _, rfl, ht, ?_⟩
    walk_at "dd"
    have e5 : μ5 p = some (.lst (rows.map kindD)) := (F5 p pm pd').trans ((F4 p pm pd').trans eν)
    refine ⟨⟨_, e5⟩, m, dg, p, _, _, cs', rows, rfl, M5, by omega, by omega, by omega, e5, pm, pd', by omega, hgood, hasc, fun ls μ6 gls M6 F6 => ⟨by show 3 ≤ sizeLine; decide, ?_⟩⟩
    refine ⟨_, (F6 p pm pd').trans e5, small (by rw [List.length_map]; omega), rows ++ [(name, t, ls)], _, _, rfl, by rw [List.length_append, hl]; rfl, ?_, fun k hk => ?_, fun k hk => ?_, (M6.putO pm pd').mono (by omega), ?_, fun a x1 x2 x3 => ?_⟩
    · rw [List.map_append, hn', List.take_add_one, hname]; rfl
    · rcases List.mem_append.mp hk with hk | hk
      · exact hgood k hk
      · rw [List.mem_singleton] at hk; rw [hk]; exact ⟨t0, t16, gls⟩
    · rcases List.mem_append.mp hk with hk | hk
      · exact hasc k hk
      · rw [List.mem_singleton] at hk; rw [hk]
        exact ⟨ak name (List.mem_of_mem_take (by rw [← ck]; exact List.mem_of_getElem? hname)), fun l hl => ac' l.1 (gls.2.2 l hl).1⟩
    · rw [put_same, List.map_append]; rfl
    · rw [put_ne x3]; exact (F6 a x1 x2).trans ((F5 a x1 x2).trans ((F4 a x1 x2).trans (Fν a x1 x2 x3)))
  · obtain ⟨rows, x4, x5, rfl, hl, hn', hgood, hasc, Mν, eν, Fν⟩ := hI
    rw [List.length_map] at hl hn' Mν
    walk_at "dd"
    refine ⟨_, eν, by show 2 ≤ sizeLine; decide, ?_⟩
    refine GhQ.sub (μ' := del ν p) (fun a o z => ?_) (h (cs', rows) _ ⟨by show 1 ≤ cs'.length; omega, by show cs'.length ≤ 6; omega, cc, by show 1 ≤ rows.length; omega, by show rows.length ≤ 6; omega, ?_, hgood⟩ ?_ fun a y1 y2 => ?_)
    · unfold del at z
      by_cases y : a = p
      · rw [if_pos y] at z; cases z
      · rw [if_neg y] at z; exact z
    · show rows.map (·.1) = ks.take rows.length
      rw [hn', hl, List.take_length, ← ck]
    · obtain ⟨x1, x2, x3, x4, x5, x6, x7, x8⟩ := Mν.mono (show n + 4 + 40 * ks'.length ≤ n + 300 by omega)
      exact ⟨x1, x2, x3, x4, x5, by unfold del; rw [if_neg (Ne.symm pm)]; exact x6, by unfold del; rw [if_neg (Ne.symm pd')]; exact x7, x8⟩
    · unfold del
      by_cases y : a = p
      · rw [if_pos y, y, hμp]
      · rw [if_neg y]; exact Fν a y1 y2 y
end DL
set_option Elab.async false
set_option linter.all false
set_option maxRecDepth 100000
set_option maxHeartbeats 4000001
namespace DL
open PySem L2 TL
local macro_rules | `(tactic| walk_at "dd") => `(tactic| try simp only [dSeq, dAsg, dgName, dgTup, dgSub, dOp, dVar, dC, dAdd, dSub, dMul, dMod, dFDiv, dPow, dCmp, dNeg, dEqn, dIsN, dIx, dTup, dLst, dConsA, dNilA, dCB, dCall, dRet, dRetN, dDrop, dIfS, dNext, dBreak, dCont, dTest, dTru, dAndT, dOrT, dNotT, dAndV, dOrV, dNotV, dIf, dChain, dDGet, dDPut, dM1, dM0, dJoin, dSplit, dUpper, dBML, dAppend, dInsert, dPopAt, dLen, dInt, dStr, dTupOf, dListOf, dMax2, dSum, dAll, dSl, dPart, dNoPart, newLst, keyD, dFor, dLc, diSeq, diRng1, diRng2, diEnum, diEnumS, diStr,
  startD, setAll, wipeD, List.map_cons, List.map_nil, List.length_cons, List.length_nil, List.replicate, List.cons_append, List.nil_append, List.getElem?_cons_zero, List.getElem?_cons_succ, List.set_cons_zero, List.set_cons_succ, Nat.reduceAdd, Nat.reduceSub, Bool.false_eq_true, if_true, if_false, ite_true, ite_false, reduceIte])
local macro_rules | `(tactic| walk_at "cm") => `(tactic| first | exact .inl ⟨by omega, by omega⟩ | exact .inr ⟨by omega, by omega⟩ | exact ⟨by omega, by omega⟩ | omega | decide)
theorem sub_del {ν : Mu} {p : Addr} : SubM (del ν p) ν := fun a o z => by
  unfold del at z
  by_cases y : a = p
  · rw [if_pos y] at z; cases z
  · rw [if_neg y] at z; exact z
theorem del_self {ν : Mu} {p : Addr} : del ν p p = none := by unfold del; rw [if_pos rfl]
theorem del_ne {ν : Mu} {p a : Addr} (h : a ≠ p) : del ν p a = ν a := by unfold del; rw [if_neg h]
theorem MOk.delO {m dg p : Addr} {rest : List (Key × D)} {n : Nat} {μ : Mu} (h : MOk m dg rest n μ) (e1 : p ≠ m) (e2 : p ≠ dg) : MOk m dg rest n (del μ p) := by
  obtain ⟨a, f, c, d, t, h1, h2, h3⟩ := h
  exact ⟨a, f, c, d, t, by rw [del_ne (Ne.symm e1)]; exact h1, by rw [del_ne (Ne.symm e2)]; exact h2, h3⟩
theorem del_fr {m dg p : Addr} {μ ν : Mu} (h0 : μ p = none) (h : ∀ a, a ≠ m → a ≠ dg → a ≠ p → ν a = μ a) : Fr m dg μ (del ν p) := fun a y1 y2 => by
  by_cases y : a = p
  · rw [y, del_self, h0]
  · rw [del_ne y]; exact h a y1 y2 y
theorem seq_fleet (f : Flt) {μ : Mu} : SeqD μ (fleetD f) [.tup (f.1.map .str), .tup (f.2.map kindD)] := rfl
/-! one boat's column -/
theorem colOf_snoc (ls : List Lamp) (l : Lamp) (b : Int) : colOf (ls ++ [l]) b = colOf ls b ++ (if shows b l = true then [l.1] else []) := by
  unfold colOf
  rw [List.filter_append, List.map_append]
  congr 1
  by_cases h : shows b l = true
  · rw [if_pos h, List.filter_cons_of_pos h]; rfl
  · rw [if_neg h, List.filter_cons_of_neg h]; rfl
theorem colOf_len (ls : List Lamp) (b : Int) : (colOf ls b).length ≤ ls.length := by
  unfold colOf; rw [List.length_map]; exact List.length_filter_le _ _
def colUpTo (rows : List Kind) (k : Str) (b : Int) : List Str := (rows.map fun x => if x.1 = k then colOf x.2.2 b else []).flatten
theorem colUpTo_snoc (rows : List Kind) (x : Kind) (k : Str) (b : Int) : colUpTo (rows ++ [x]) k b = colUpTo rows k b ++ (if x.1 = k then colOf x.2.2 b else []) := by
  unfold colUpTo; rw [List.map_append, List.flatten_append]; simp
theorem colUpTo_len {rows : List Kind} {k : Str} {b : Int} (h : ∀ x ∈ rows, x.2.2.length ≤ 6) : (colUpTo rows k b).length ≤ 6 * rows.length := by
  unfold colUpTo
  induction rows with
  | nil => simp
  | cons x rows ih =>
    have h1 := ih fun y hy => h y (List.mem_cons_of_mem _ hy)
    have h2 := h x List.mem_cons_self
    rw [List.map_cons, List.flatten_cons, List.length_append, List.length_cons]
    have h3 : (if x.1 = k then colOf x.2.2 b else []).length ≤ 6 := by
      by_cases e : x.1 = k
      · rw [if_pos e]; exact Nat.le_trans (colOf_len _ _) h2
      · rw [if_neg e]; exact Nat.zero_le _
    omega
theorem take_snoc {α : Type} {xs : List α} {j : Nat} {x : α} (h : xs[j]? = some x) : xs.take (j + 1) = xs.take j ++ [x] := by
  rw [List.take_add_one, h]; rfl
theorem rd__law_column : ∀ ds μ Q, P__law_column ds μ Q → td__law_column { nx := fun _ μ' => GhQ Q .non μ', rt := GhQ Q } (startD N__law_column ds) μ := by
  rintro ds μ Q ⟨f, k, c, s, rfl, hl6, hk6, h⟩
  unfold td__law_column N__law_column
  walk_at "dd"
  refine ⟨_, _, rfl, rfl, by decide, Nat.zero_le _, fun p hp => ⟨_, _, rfl, rfl, _, rfl, ?_⟩⟩
  let I : Nat → DSl → Mu → Prop := fun j ds ν => ∃ (x5 x6 x7 x8 x9 x10 : Option D), ds = [some (fleetD f), some (.tup [.str k, .int c]), some (.int s), some (.int ((s - c) % 32)), some (.obj p), x5, x6, x7, x8, x9, x10] ∧ ν = put μ p (.lst ((colUpTo (f.2.take j) k ((s - c) % 32)).map .str))
  refine ⟨I, ⟨_, _, _, _, _, _, rfl, rfl⟩, fun _ _ _ _ _ => trivial, fun j d ds ν hd hI => ?_, fun ds ν hI => ?_⟩
  · obtain ⟨x5, x6, x7, x8, x9, x10, rfl, rfl⟩ := hI
    obtain ⟨x, hx, rfl⟩ := map_get hd
    have hxm : x ∈ f.2 := List.mem_of_getElem? hx
    have hjl : j < f.2.length := (List.getElem?_eq_some_iff.mp hx).1
    have hpre : (colUpTo (f.2.take j) k ((s - c) % 32)).length ≤ 36 := by
      have := colUpTo_len (rows := f.2.take j) (k := k) (b := (s - c) % 32) fun y hy => hl6 y (List.mem_of_mem_take hy)
      rw [List.length_take] at this
      omega
    unfold kindD
    walk_at "dd"
    refine ⟨trivial, _, rfl, ?_⟩
    let J : Nat → DSl → Mu → Prop := fun i ds ν => ∃ (x8 x9 x10 : Option D), ds = [some (fleetD f), some (.tup [.str k, .int c]), some (.int s), some (.int ((s - c) % 32)), some (.obj p), some (.str x.1), some (.int x.2.1), some (.tup (x.2.2.map lampD)), x8, x9, x10] ∧
      ν = put μ p (.lst ((colUpTo (f.2.take j) k ((s - c) % 32) ++ (if x.1 = k then colOf (x.2.2.take i) ((s - c) % 32) else [])).map .str))
    refine ⟨J, ⟨_, _, _, rfl, ?_⟩, fun _ _ _ _ _ => trivial, fun i d ds ν hd hJ => ?_, fun ds ν hJ => ?_⟩
    · have : (if x.1 = k then colOf (x.2.2.take 0) ((s - c) % 32) else []) = [] := by split <;> rfl
      rw [this, List.append_nil]
    · obtain ⟨x8, x9, x10, rfl, rfl⟩ := hJ
      obtain ⟨l, hl, rfl⟩ := map_get hd
      unfold lampD
      walk_at "dd"
      refine ⟨trivial, _, _, rfl, rfl, ?_⟩
      have fits : ((colUpTo (f.2.take j) k ((s - c) % 32) ++ (if x.1 = k then colOf (x.2.2.take i) ((s - c) % 32) else [])).map D.str).length < sizeLine := by
        refine small ?_
        rw [List.length_map, List.length_append]
        have : (if x.1 = k then colOf (x.2.2.take i) ((s - c) % 32) else []).length ≤ 6 := by
          split
          · exact Nat.le_trans (colOf_len _ _) (Nat.le_trans (List.length_take_le' _ _) (hl6 x hxm))
          · exact Nat.zero_le _
        omega
      by_cases e : x.1 = k
      · show if decide (x.1 = k) = true then _ else _
        rw [if_pos (decide_eq_true e)]
        refine ⟨by decide, by decide, ?_⟩
        by_cases hs : ((s - c) % 32 - l.2.1) % 32 ≤ (l.2.2 - l.2.1) % 32
        · rw [if_pos (decide_eq_true hs)]
          refine ⟨⟨_, put_same⟩, _, put_same, fits, _, _, _, rfl, ?_⟩
          rw [put_put, if_pos e, if_pos e, take_snoc hl, colOf_snoc, if_pos (show shows ((s - c) % 32) l = true from decide_eq_true hs)]
          simp
        · rw [if_neg (by rw [decide_eq_false hs]; exact Bool.false_ne_true)]
          refine ⟨_, _, _, rfl, ?_⟩
          rw [if_pos e, if_pos e, take_snoc hl, colOf_snoc, if_neg (show ¬ shows ((s - c) % 32) l = true from by unfold shows; rw [decide_eq_false hs]; exact Bool.false_ne_true), List.append_nil]
      · show if decide (x.1 = k) = true then _ else _
        rw [if_neg (by rw [decide_eq_false e]; exact Bool.false_ne_true)]
        refine ⟨_, _, _, rfl, ?_⟩
        rw [if_neg e, if_neg e]
    · obtain ⟨x8, x9, x10, rfl, rfl⟩ := hJ
      refine ⟨_, _, _, _, _, _, rfl, ?_⟩
      rw [List.length_map, List.take_length, take_snoc hx, colUpTo_snoc]
  · obtain ⟨x5, x6, x7, x8, x9, x10, rfl, rfl⟩ := hI
    walk_at "dd"
    refine ⟨_, put_same, ?_⟩
    rw [List.length_map, List.take_length]
    exact GhQ.sub (SubM.new hp) h
end DL
set_option Elab.async false
set_option linter.all false
set_option maxRecDepth 100000
set_option maxHeartbeats 4000001
namespace DL
open PySem L2 TL
local macro_rules | `(tactic| walk_at "dd") => `(tactic| try simp only [dSeq, dAsg, dgName, dgTup, dgSub, dOp, dVar, dC, dAdd, dSub, dMul, dMod, dFDiv, dPow, dCmp, dNeg, dEqn, dIsN, dIx, dTup, dLst, dConsA, dNilA, dCB, dCall, dRet, dRetN, dDrop, dIfS, dNext, dBreak, dCont, dTest, dTru, dAndT, dOrT, dNotT, dAndV, dOrV, dNotV, dIf, dChain, dDGet, dDPut, dM1, dM0, dJoin, dSplit, dUpper, dBML, dAppend, dInsert, dPopAt, dLen, dInt, dStr, dTupOf, dListOf, dMax2, dSum, dAll, dSl, dPart, dNoPart, newLst, keyD, dFor, dLc, diSeq, diRng1, diRng2, diEnum, diEnumS, diStr,
  startD, setAll, wipeD, List.map_cons, List.map_nil, List.length_cons, List.length_nil, List.replicate, List.cons_append, List.nil_append, List.getElem?_cons_zero, List.getElem?_cons_succ, List.set_cons_zero, List.set_cons_succ, Nat.reduceAdd, Nat.reduceSub, Bool.false_eq_true, if_true, if_false, ite_true, ite_false, reduceIte])
local macro_rules | `(tactic| walk_at "cm") => `(tactic| first | exact .inl ⟨by omega, by omega⟩ | exact .inr ⟨by omega, by omega⟩ | exact ⟨by omega, by omega⟩ | omega | decide)
/-! ### sights -/
theorem shaped_tstrs {ns : List Str} (h : ∀ s ∈ ns, Asc s) : SeqAt.shaped (.tuple (ns.map PyData.str)) = true := by
  unfold SeqAt.shaped
  rw [PyData.canLay0, lay_strs ns h, PyData.depth, dep_strs] <;> rfl
theorem shaped_tnil : SeqAt.shaped (.tuple []) = true := shaped_tstrs (ns := []) (fun _ h => nomatch h)
theorem eqv_tnil : ∀ xs : List PyData, PyData.eqv (.tuple xs) (.tuple []) = xs.isEmpty
  | [] => by simp [PyData.eqv, PyData.eqvAll]
  | x :: xs => by simp [PyData.eqv, PyData.eqvAll]
theorem pdM_tstrs {μ : Mu} (ns : List Str) : pdM μ (.tup (ns.map .str)) = some (.tuple (ns.map .str)) := by
  show pd (.tup (ns.map .str)) = _
  rw [pd, pdL_strs] <;> rfl
theorem pdM_tnil {μ : Mu} : pdM μ (.tup []) = some (.tuple []) := by simp [pdM, pd, pdL]
theorem at60 {i : Int} (h0 : 0 ≤ i) (h1 : i < 6) : ∃ w, atI [D.int 0, D.int 0, D.int 1, D.int 1, D.int 2, D.int 5] i = some (.int w) ∧ 0 ≤ w ∧ w ≤ 5 := by
  have : i = 0 ∨ i = 1 ∨ i = 2 ∨ i = 3 ∨ i = 4 ∨ i = 5 := by omega
  rcases this with rfl | rfl | rfl | rfl | rfl | rfl
  · exact ⟨0, rfl, by decide, by decide⟩
  · exact ⟨0, rfl, by decide, by decide⟩
  · exact ⟨1, rfl, by decide, by decide⟩
  · exact ⟨1, rfl, by decide, by decide⟩
  · exact ⟨2, rfl, by decide, by decide⟩
  · exact ⟨5, rfl, by decide, by decide⟩
/-- of unlike kinds one alone shows its lamps -/
theorem colUpTo_one {cs : List Str} {k : Str} {b : Int} : ∀ {rows : List Kind}, (rows.map (·.1)).Nodup → (∀ x ∈ rows, GoodKind cs x) → (colUpTo rows k b).length ≤ 6 ∧ (∀ c ∈ colUpTo rows k b, c ∈ cs) ∧ (k ∉ rows.map (·.1) → colUpTo rows k b = [])
  | [], _, _ => ⟨Nat.zero_le _, (fun _ h => nomatch h), fun _ => rfl⟩
  | x :: rows, hn, hg => by
    rw [List.map_cons, List.nodup_cons] at hn
    obtain ⟨h1, h2, h3⟩ := colUpTo_one (k := k) (b := b) hn.2 fun y hy => hg y (List.mem_cons_of_mem _ hy)
    have hx := hg x List.mem_cons_self
    have e : colUpTo (x :: rows) k b = (if x.1 = k then colOf x.2.2 b else []) ++ colUpTo rows k b := rfl
    by_cases hk : x.1 = k
    · have hno : colUpTo rows k b = [] := h3 (hk ▸ hn.1)
      rw [e, if_pos hk, hno, List.append_nil]
      refine ⟨Nat.le_trans (colOf_len _ _) hx.2.2.2.1, fun c hc => ?_, fun z => absurd (by rw [List.map_cons, hk]; exact List.mem_cons_self) z⟩
      unfold colOf at hc
      obtain ⟨l, hl, rfl⟩ := List.mem_map.mp hc
      exact (hx.2.2.2.2 l (List.mem_filter.mp hl).1).1
    · rw [e, if_neg hk, List.nil_append]
      exact ⟨h1, h2, fun z => h3 fun y => z (by rw [List.map_cons]; exact List.mem_cons_of_mem _ y)⟩
theorem GoodFleet.col {cs ks : List Str} {f : Flt} (g : GoodFleet cs ks f) (hk : ks.Nodup) (k : Str) (c s : Int) : (columnOf f k c s).length ≤ 6 ∧ ∀ x ∈ columnOf f k c s, x ∈ f.1 := by
  have hn : (f.2.map (·.1)).Nodup := by rw [g.kp]; exact List.Sublist.nodup (List.take_sublist _ _) hk
  obtain ⟨a, b, _⟩ := colUpTo_one (k := k) (b := (s - c) % 32) hn g.kg
  exact ⟨a, b⟩
abbrev sgSl (m p : Addr) (f : Flt) (j turn course moment side : Int) (kn : Str) (ls : List Lamp) (col : List Str) (x9 x10 x13 x14 : Option D) : DSl :=
  [some (.obj m), some (fleetD f), some (.int j), some (.str kn), some (.int turn), some (.tup (ls.map lampD)), some (.int course), some (.int moment), some (.obj p), x9, x10, some (.int side), some (.tup (col.map .str)), x13, x14, none]
section
variable {m dg p : Addr} {rest : List (Key × D)} {f : Flt} {j turn course moment side : Int} {kn : Str} {ls : List Lamp} {col : List Str} {x9 x10 x13 x14 : Option D} {n : Nat} {ν : Mu} {ss : List Sight} {E : DEnds}
theorem sights_1 (M : MOk m dg rest n ν) (hn : n < 2^28) (pm : p ≠ m) (pd' : p ≠ dg) (hp : ν p = some (.lst (ss.map sightD))) (hl : ss.length ≤ 60) (hg : ∀ s ∈ ss, GoodSight f.1 s) (gs : GoodSight f.1 (moment, side, col))
    (hnx : ∀ (ss' : List Sight) (ν' : Mu), ss'.length = ss.length + 1 → (∀ s ∈ ss', GoodSight f.1 s) → MOk m dg rest (n + 1) ν' → ν' p = some (.lst (ss'.map sightD)) → (∀ a, a ≠ m → a ≠ dg → a ≠ p → ν' a = ν a) → E.nx (sgSl m p f j turn course moment side kn ls col x9 x10 x13 x14) ν') :
    td__law_sights_1 E (sgSl m p f j turn course moment side kn ls col x9 x10 x13 x14) ν := by
  unfold td__law_sights_1
  walk_at "dd"
  refine ⟨⟨_, hp⟩, _, hp, ?_⟩
  rw [List.length_map]
  refine ⟨m, dg, rest, n, _, rfl, M, by omega, by omega, by omega, fun r ν' a b M' F' => ⟨by show 3 ≤ sizeLine; decide, ?_⟩⟩
  have e : ν' p = some (.lst (ss.map sightD)) := (F' p pm pd').trans hp
  refine ⟨_, e, small (by rw [List.length_map]; omega), a, by omega, ?_⟩
  have e2 : (ss.map sightD).take r.toNat ++ [.tup [.int moment, .int side, .tup (col.map .str)]] ++ (ss.map sightD).drop r.toNat = (ss.take r.toNat ++ [(moment, side, col)] ++ ss.drop r.toNat).map sightD := by
    rw [List.map_append, List.map_append, List.map_take, List.map_drop]; rfl
  rw [e2]
  refine hnx _ _ ?_ (fun s hs => ?_) (M'.putO pm pd') put_same fun a y1 y2 y3 => (put_ne y3).trans (F' a y1 y2)
  · simp only [List.length_append, List.length_take, List.length_drop, List.length_cons, List.length_nil]; omega
  · rcases List.mem_append.mp hs with hs | hs
    · rcases List.mem_append.mp hs with hs | hs
      · exact hg s (List.mem_of_mem_take hs)
      · rw [List.mem_singleton] at hs; rw [hs]; exact gs
    · exact hg s (List.mem_of_mem_drop hs)
theorem sights_2 (M : MOk m dg rest n ν) (hn : n < 2^27) (pm : p ≠ m) (pd' : p ≠ dg) (hp : ν p = some (.lst (ss.map sightD))) (hl : ss.length ≤ 60) (hg : ∀ s ∈ ss, GoodSight f.1 s) (gs : GoodSight f.1 (moment, side, col)) (c0 : 1 ≤ f.1.length) (c6 : f.1.length ≤ 6)
    (hnx : ∀ (col' : List Str) (y14 : Option D) (ss' : List Sight) (ν' : Mu), ss'.length = ss.length + 1 → (∀ s ∈ ss', GoodSight f.1 s) → MOk m dg rest (n + 10) ν' → ν' p = some (.lst (ss'.map sightD)) → (∀ a, a ≠ m → a ≠ dg → a ≠ p → ν' a = ν a) → E.nx (sgSl m p f j turn course moment side kn ls col' x9 x10 x13 y14) ν') :
    td__law_sights_2 E (sgSl m p f j turn course moment side kn ls col x9 x10 x13 x14) ν := by
  unfold td__law_sights_2
  walk_at "dd"
  refine ⟨m, dg, rest, n, _, rfl, M, by omega, by decide, by decide, fun r ν1 a1 b1 M1 F1 => ?_⟩
  have hp1 : ν1 p = some (.lst (ss.map sightD)) := (F1 p pm pd').trans hp
  by_cases h0 : r = 0
  · show if decide (r = 0) = true then _ else _
    rw [if_pos (decide_eq_true h0)]
    refine ⟨m, dg, rest, n + 1, _, rfl, M1, by omega, by decide, by decide, fun r2 ν2 a2 b2 M2 F2 => ?_⟩
    walk_at "dd"
    have F02 : Fr m dg ν ν2 := F1.trans F2
    refine ⟨⟨by omega, by omega⟩, LcB.inv (fun i acc ν' => ∃ cl : List Str, acc = cl.map .str ∧ cl.length = i ∧ (∀ c ∈ cl, c ∈ f.1) ∧ MOk m dg rest (n + 2 + i) ν' ∧ Fr m dg ν ν') ⟨[], rfl, rfl, (fun _ h => nomatch h), M2, F02⟩ (fun _ _ _ _ _ => trivial) (by rw [rngD_len]; omega) (fun j acc ν ⟨ls, e, l, _⟩ => by rw [e, List.length_map, l]; exact Nat.le_refl _) (fun i d acc ν' hd hI => ?_) (fun acc ν' hI => ?_)⟩
    · obtain ⟨cl, rfl, hcl, hc, M3, F3⟩ := hI
      obtain ⟨hi, rfl⟩ := rngD_get hd
      walk_at "dd"
      refine ⟨_, _, rfl, rfl, _, _, rfl, rfl, _, rfl, ?_⟩
      rw [List.length_map]
      refine ⟨m, dg, rest, _, _, rfl, M3, by omega, by omega, by omega, fun r3 ν3 a3 b3 M4 F4 => ?_⟩
      obtain ⟨x, hx, hx2, hx3⟩ := atI_ex (xs := f.1) a3 b3
      refine ⟨_, .str x, rfl, atI_some a3 (by rw [List.getElem?_map, hx3]; rfl), cl ++ [x], by rw [List.map_append]; rfl, by rw [List.length_append, hcl]; rfl, fun c hc' => ?_, M4, F3.trans F4⟩
      rcases List.mem_append.mp hc' with hc' | hc'
      · exact hc c hc'
      · rw [List.mem_singleton] at hc'; rw [hc']; exact hx2
    · obtain ⟨cl, rfl, hcl, hc, M3, F3⟩ := hI
      rw [rngD_len] at hcl M3
      show ∃ xs, _ ∧ _
      refine ⟨_, rfl, ?_⟩
      refine sights_1 (col := cl) (M3.mono (show n + 2 + r2.toNat ≤ n + 9 by omega)) (by omega) pm pd' ((F3 p pm pd').trans hp) hl hg ⟨gs.1, gs.2.1, gs.2.2.1, gs.2.2.2.1, by show cl.length ≤ 6; omega, hc⟩ fun ss' ν4 x1 x2 x3 x4 x5 => hnx cl _ ss' ν4 x1 x2 x3 x4 fun a y1 y2 y3 => (x5 a y1 y2 y3).trans (F3 a y1 y2)
  · show if decide (r = 0) = true then _ else _
    rw [if_neg (by rw [decide_eq_false h0]; exact Bool.false_ne_true)]
    exact sights_1 M1 (by omega) pm pd' hp1 hl hg gs fun ss' ν4 x1 x2 x3 x4 x5 => hnx col _ ss' ν4 x1 x2 (x3.mono (by omega)) x4 fun a y1 y2 y3 => (x5 a y1 y2 y3).trans (F1 a y1 y2)
end
theorem rd__law_sights : ∀ ds μ Q, P__law_sights ds μ Q → td__law_sights { nx := fun _ μ' => GhQ Q .non μ', rt := GhQ Q } (startD N__law_sights ds) μ := by
  rintro ds μ Q ⟨m, dg, cs, ks, rest, n, f, j, rfl, M, hn, g, hnd, ac, j0, j60, h⟩
  unfold td__law_sights N__law_sights
  walk_at "dd"
  refine ⟨_, _, rfl, rfl, _, _, rfl, rfl, _, rfl, ?_⟩
  rw [List.length_map]
  have k0 := g.k0
  have k6 := g.k6
  refine ⟨m, dg, rest, n, _, rfl, M, by omega, by omega, by omega, fun r1 μ1 a1 b1 M1 F1 => ?_⟩
  obtain ⟨kd, hk, hk2, hk3⟩ := atI_ex (xs := f.2) a1 b1
  refine ⟨_, kindD kd, rfl, atI_some a1 (by rw [List.getElem?_map, hk3]; rfl), rfl, ?_⟩
  obtain ⟨t0, t16, gl⟩ := g.kg kd hk2
  walk_at "dd"
  refine ⟨m, dg, rest, n + 1, _, rfl, M1, by omega, by decide, by decide, fun c μ2 a2 b2 M2 F2 => ?_⟩
  walk_at "dd"
  refine ⟨Nat.zero_le _, fun p hp => ?_⟩
  have pm := M2.neM hp
  have pd' := M2.neD hp
  have hμp : μ p = none := by rw [← F1 p pm pd', ← F2 p pm pd']; exact hp
  have M2' := M2.putO (o := .lst []) pm pd'
  refine ⟨m, dg, rest, n + 2, _, rfl, M2', by omega, by omega, by omega, fun r3 μ3 a3 b3 M3 F3 => ?_⟩
  walk_at "dd"
  refine ⟨⟨by omega, by omega⟩, ?_⟩
  have F03 : ∀ a, a ≠ m → a ≠ dg → a ≠ p → μ3 a = μ a := fun a x1 x2 x3 => (F3 a x1 x2).trans ((put_ne x3).trans ((F2 a x1 x2).trans (F1 a x1 x2)))
  let I : Nat → DSl → Mu → Prop := fun i ds ν => ∃ (ss : List Sight) (course moment : Int) (x9 x10 x11 x12 x13 x14 : Option D), ds = [some (.obj m), some (fleetD f), some (.int j), some (.str kd.1), some (.int kd.2.1), some (.tup (kd.2.2.map lampD)), some (.int course), some (.int moment), some (.obj p), x9, x10, x11, x12, x13, x14, none] ∧
    0 ≤ moment ∧ moment ≤ 99 ∧ ss.length = i ∧ (∀ s ∈ ss, GoodSight f.1 s) ∧ MOk m dg rest (n + 3 + 30 * i) ν ∧ ν p = some (.lst (ss.map sightD)) ∧ ∀ a, a ≠ m → a ≠ dg → a ≠ p → ν a = μ a
  refine ⟨I, ⟨[], c, 0, _, _, _, _, _, _, rfl, by decide, by decide, rfl, (fun _ h => nomatch h), M3, (F3 p pm pd').trans put_same, F03⟩, fun _ _ _ _ _ => trivial, fun i d ds ν hd hI => ?_, fun ds ν hI => ?_⟩
  · obtain ⟨ss, course, moment, x9, x10, x11, x12, x13, x14, rfl, m0, m99, hl, hg, Mν, eν, Fν⟩ := hI
    obtain ⟨hi, rfl⟩ := rngD_get hd
    walk_at "dd"
    refine ⟨by decide, m, dg, rest, _, _, rfl, Mν, by omega, by decide, by decide, fun r4 μ4 a4 b4 M4 F4 => ?_⟩
    obtain ⟨w, hw, w0, w5⟩ := at60 a4 b4
    refine ⟨_, _, rfl, hw, ⟨by omega, by omega⟩, ?_⟩
    let J : Nat → DSl → Mu → Prop := fun q ds ν' => ∃ (course moment : Int) (x10 : Option D), ds = [some (.obj m), some (fleetD f), some (.int j), some (.str kd.1), some (.int kd.2.1), some (.tup (kd.2.2.map lampD)), some (.int course), some (.int moment), some (.obj p), some (.int (0 + (i : Int))), x10, x11, x12, x13, x14, none] ∧
      0 ≤ moment ∧ moment ≤ 99 ∧ MOk m dg rest (n + 3 + 30 * i + 1 + q) ν' ∧ ν' p = some (.lst (ss.map sightD)) ∧ ∀ a, a ≠ m → a ≠ dg → a ≠ p → ν' a = μ a
    refine ⟨J, ⟨course, moment, _, rfl, m0, m99, M4, (F4 p pm pd').trans eν, fun a y1 y2 y3 => (F4 a y1 y2).trans (Fν a y1 y2 y3)⟩, fun _ _ _ _ _ => trivial, fun q d ds ν' hd hJ => ?_, fun ds ν' hJ => ?_⟩
    · obtain ⟨course, moment, x10, rfl, m0, m99, Mq, eq, Fq⟩ := hJ
      obtain ⟨hq, rfl⟩ := rngD_get hd
      walk_at "dd"
      by_cases hm : moment < 99
      · rw [if_pos (decide_eq_true hm)]
        refine ⟨by walk_at "cm", m, dg, rest, _, _, rfl, Mq, by omega, by omega, by omega, fun r5 μ5 a5 b5 M5 F5 => ⟨by decide, (course + r5 - kd.2.1) % 32, moment + 1, _, rfl, by omega, by omega, M5.mono (by omega), (F5 p pm pd').trans eq, fun a y1 y2 y3 => (F5 a y1 y2).trans (Fq a y1 y2 y3)⟩⟩
      · rw [if_neg (by rw [decide_eq_false hm]; exact Bool.false_ne_true)]
        exact ⟨course, moment, _, rfl, m0, m99, Mq.mono (by omega), eq, Fq⟩
    · obtain ⟨course, moment, x10, rfl, m0, m99, Mq, eq, Fq⟩ := hJ
      rw [rngD_len] at Mq
      walk_at "dd"
      refine ⟨m, dg, rest, _, _, rfl, Mq, by omega, by decide, by decide, fun side μ6 a6 b6 M6 F6 => ?_⟩
      walk_at "dd"
      have e6 : μ6 p = some (.lst (ss.map sightD)) := (F6 p pm pd').trans eq
      refine ⟨by show 2 ≤ sizeLine; decide, f, kd.1, course, side, rfl, fun x hx => (g.kg x hx).2.2.2.1, k6, ?_⟩
      obtain ⟨q1, q2⟩ := g.col hnd kd.1 course side
      generalize columnOf f kd.1 course side = col at q1 q2
      have F06 : ∀ a, a ≠ m → a ≠ dg → a ≠ p → μ6 a = μ a := fun a y1 y2 y3 => (F6 a y1 y2).trans (Fq a y1 y2 y3)
      have fin : ∀ (col' : List Str) (x13 : Option D) (ν2 : Mu), col'.length ≤ 6 → (∀ x ∈ col', x ∈ f.1) → MOk m dg rest (n + 3 + 30 * i + 10) ν2 → Fr m dg μ6 ν2 → ∀ E : DEnds, E.nx = I (i + 1) → td__law_sights_2 E (sgSl m p f j kd.2.1 course moment side kd.1 kd.2.2 col' (some (.int (0 + (i : Int)))) x10 x13 x14) ν2 := fun col' x13 ν2 z1 z2 M7 F7 E hE => by
        refine sights_2 M7 (by omega) pm pd' ((F7 p pm pd').trans e6) (by omega) hg ⟨m0, m99, a6, b6, z1, z2⟩ g.c0 g.c6 fun col2 y14 ss' ν' y1 y2 y3 y4 y5 => ?_
        rw [hE]
        exact ⟨ss', course, moment, _, _, _, _, _, _, rfl, m0, m99, by omega, y2, y3.mono (by omega), y4, fun a v1 v2 v3 => (y5 a v1 v2 v3).trans ((F7 a v1 v2).trans (F06 a v1 v2 v3))⟩
      have hcol : ∀ s ∈ col, Asc s := fun s hs => ac s (q2 s hs)
      walk_at "dd"
      refine ⟨Nat.zero_le _, _, _, pdM_tstrs _, pdM_tnil, shaped_tstrs hcol, shaped_tnil, ?_⟩
      rw [eqv_tnil, emp_strs]
      cases hce : col.isEmpty with
      | true =>
        simp only [Bool.not_true, Bool.false_eq_true, if_false]
        exact fin col _ μ6 q1 q2 (M6.mono (by omega)) (Fr.refl _) _ rfl
      | false =>
        simp only [Bool.not_false, if_true]
        have hcl : 0 < col.length := by cases col with
          | nil => cases hce
          | cons _ _ => simp
        refine ⟨m, dg, rest, _, _, rfl, M6, by omega, by decide, by decide, fun r7 μ7 a7 b7 M7 F7 => ?_⟩
        by_cases h7 : r7 = 0
        · show if decide (r7 = 0) = true then _ else _
          rw [if_pos (decide_eq_true h7)]
          refine ⟨_, rfl, ?_⟩
          rw [List.length_map]
          refine ⟨m, dg, rest, _, _, rfl, M7, by omega, by omega, by omega, fun r8 μ8 a8 b8 M8 F8 => ?_⟩
          walk_at "dd"
          have hr8 : ((r8.toNat : Nat) : Int) = r8 := by omega
          have hr9 : (((r8.toNat + 1 : Nat)) : Int) = r8 + 1 := by omega
          have ecut : cutD (col.map D.str) none (some r8) ++ cutD (col.map D.str) (some (r8 + 1)) none = (col.take r8.toNat ++ col.drop (r8.toNat + 1)).map .str := by
            unfold cutD
            rw [List.length_map, ← hr9, ← hr8, HT.sIx_nat, HT.sIx_none, HT.sIx_nat, HT.sIx_none, List.drop_zero, Nat.sub_zero, Nat.min_eq_left (by omega), Nat.min_eq_left (by omega), ← List.map_take, ← List.map_drop, ← List.map_take, ← List.map_append]
            congr 2
            rw [List.take_of_length_le (by rw [List.length_drop]; omega)]
          refine ⟨?_, ?_⟩
          · refine smallE ?_
            rw [← List.length_append, ecut, List.length_map]
            simp only [List.length_append, List.length_take, List.length_drop]; omega
          · rw [ecut]
            refine fin _ _ μ8 ?_ (fun x hx => ?_) (M8.mono (by omega)) (F7.trans F8) _ rfl
            · simp only [List.length_append, List.length_take, List.length_drop]; omega
            · rcases List.mem_append.mp hx with hx | hx
              · exact q2 x (List.mem_of_mem_take hx)
              · exact q2 x (List.mem_of_mem_drop hx)
        · show if decide (r7 = 0) = true then _ else _
          rw [if_neg (by rw [decide_eq_false h7]; exact Bool.false_ne_true)]
          exact fin col _ μ7 q1 q2 (M7.mono (by omega)) F7 _ rfl
  · obtain ⟨ss, course, moment, x9, x10, x11, x12, x13, x14, rfl, m0, m99, hl, hg, Mν, eν, Fν⟩ := hI
    rw [rngD_len] at hl Mν
    walk_at "dd"
    exact GhQ.fix (μ' := del ν p) sub_del eν del_self (h ss _ (by omega) hg ((Mν.delO pm pd').mono (by omega)) (del_fr hμp Fν))
end DL
set_option Elab.async false
set_option linter.all false
set_option maxRecDepth 100000
set_option maxHeartbeats 4000001
namespace DL
open PySem L2 TL
local macro_rules | `(tactic| walk_at "dd") => `(tactic| try simp only [dSeq, dAsg, dgName, dgTup, dgSub, dOp, dVar, dC, dAdd, dSub, dMul, dMod, dFDiv, dPow, dCmp, dNeg, dEqn, dIsN, dIx, dTup, dLst, dConsA, dNilA, dCB, dCall, dRet, dRetN, dDrop, dIfS, dNext, dBreak, dCont, dTest, dTru, dAndT, dOrT, dNotT, dAndV, dOrV, dNotV, dIf, dChain, dDGet, dDPut, dM1, dM0, dJoin, dSplit, dUpper, dBML, dAppend, dInsert, dPopAt, dLen, dInt, dStr, dTupOf, dListOf, dMax2, dSum, dAll, dSl, dPart, dNoPart, newLst, keyD, dFor, dLc, diSeq, diRng1, diRng2, diEnum, diEnumS, diStr,
  startD, setAll, wipeD, List.map_cons, List.map_nil, List.length_cons, List.length_nil, List.replicate, List.cons_append, List.nil_append, List.getElem?_cons_zero, List.getElem?_cons_succ, List.set_cons_zero, List.set_cons_succ, Nat.reduceAdd, Nat.reduceSub, Bool.false_eq_true, if_true, if_false, ite_true, ite_false, reduceIte])
local macro_rules | `(tactic| walk_at "cm") => `(tactic| first | exact .inl ⟨by omega, by omega⟩ | exact .inr ⟨by omega, by omega⟩ | exact ⟨by omega, by omega⟩ | omega | decide)
/-! ### the beginning -/
theorem ke1 : decide ((Sum.inr ("cells" : Str) : Key) = (Sum.inr ("digits" : Str) : Key)) = false := by decide +kernel
theorem ke2 : decide ((Sum.inr ("digits" : Str) : Key) = (Sum.inr ("digits" : Str) : Key)) = true := by decide +kernel
theorem ke3 : decide ((Sum.inr ("at" : Str) : Key) = (Sum.inr ("digits" : Str) : Key)) = false := by decide +kernel
theorem ke4 : decide ((Sum.inr ("colours" : Str) : Key) = (Sum.inr ("at" : Str) : Key)) = false := by decide +kernel
theorem ke5 : decide ((Sum.inr ("kinds" : Str) : Key) = (Sum.inr ("at" : Str) : Key)) = false := by decide +kernel
theorem putKD_new {kvs : List (Key × D)} {k : Key} {d : D} (h : ∀ kv ∈ kvs, kv.1 ≠ k) : putKD kvs k d = kvs ++ [(k, d)] := by
  unfold putKD
  rw [if_neg]
  intro e
  obtain ⟨kv, h1, h2⟩ := List.any_eq_true.mp e
  exact h kv h1 (of_decide_eq_true h2)
theorem tab_made (c : List Int) (dg : Addr) : mergeKD [] [(.inr "cells", .lst (c.map .int)), (.inr "digits", .obj dg), (.inr "at", .int 0)] = tabD c dg 0 [] := by
  unfold mergeKD
  rw [List.foldl_cons, List.foldl_cons, List.foldl_cons, List.foldl_nil, putKD_new (kvs := []) (fun _ h => nomatch h)]
  rw [putKD_new (k := .inr "digits"), putKD_new (k := .inr "at")]
  · rfl
  · intro kv h
    rcases List.mem_append.mp h with h | h
    · rcases List.mem_append.mp h with h | h
      · cases h
      · rw [List.mem_singleton] at h; rw [h]; exact of_decide_eq_false kc4
    · rw [List.mem_singleton] at h; rw [h]; exact of_decide_eq_false kc5
  · intro kv h
    rcases List.mem_append.mp h with h | h
    · cases h
    · rw [List.mem_singleton] at h; rw [h]; exact of_decide_eq_false ke1
theorem putKD_digits {c : List Int} {dg d2 : Addr} {t : Int} : putKD (tabD c dg t []) (.inr "digits") (.obj d2) = tabD c d2 t [] := by
  have n1 : ¬ (Sum.inr ("cells" : Str) : Key) = (Sum.inr ("digits" : Str) : Key) := of_decide_eq_false ke1
  have n3 : ¬ (Sum.inr ("at" : Str) : Key) = (Sum.inr ("digits" : Str) : Key) := of_decide_eq_false ke3
  have a : ((tabD c dg t []).any fun kv => decide (kv.1 = (Sum.inr ("digits" : Str) : Key))) = true := by
    unfold tabD; simp only [List.any_cons, ke1, decide_true, Bool.false_or, Bool.true_or]
  unfold putKD
  rw [if_pos a]
  unfold tabD
  rw [List.map_cons, List.map_cons, List.map_cons, List.map_nil, if_neg n1, if_neg n3, if_pos rfl]
theorem putKD_colours {c : List Int} {dg : Addr} {t : Int} {d : D} : putKD (tabD c dg t []) (.inr "colours") d = tabD c dg t [(.inr "colours", d)] := by
  rw [putKD_new]
  · rfl
  · intro kv h
    unfold tabD at h
    rcases List.mem_cons.mp h with rfl | h
    · exact of_decide_eq_false kd1
    rcases List.mem_cons.mp h with rfl | h
    · exact of_decide_eq_false kd2
    rcases List.mem_cons.mp h with rfl | h
    · exact of_decide_eq_false kd3
    · cases h
theorem putKD_kinds {c : List Int} {dg : Addr} {t : Int} {d e : D} : putKD (tabD c dg t [(.inr "colours", d)]) (.inr "kinds") e = tabD c dg t [(.inr "colours", d), (.inr "kinds", e)] := by
  rw [putKD_new]
  · rfl
  · intro kv h
    unfold tabD at h
    rcases List.mem_cons.mp h with rfl | h
    · exact of_decide_eq_false kd4
    rcases List.mem_cons.mp h with rfl | h
    · exact of_decide_eq_false kd5
    rcases List.mem_cons.mp h with rfl | h
    · exact of_decide_eq_false kd6
    rcases List.mem_cons.mp h with rfl | h
    · exact of_decide_eq_false kd7
    · cases h
theorem SubM.fr {m dg : Addr} {μ ν ν' : Mu} (s : SubM μ ν) (h1 : μ m = none) (h2 : μ dg = none) (f : Fr m dg ν ν') : SubM μ ν' := fun a o e => by
  rw [f a (fun z => by rw [z, h1] at e; cases e) (fun z => by rw [z, h2] at e; cases e)]
  exact s a o e
section
variable {m dg : Addr} {n : Nat} {μ ν : Mu} {Q : DK} {x0 x3 : Option D}
theorem begun_1 {a b : Int} (a0 : 0 ≤ a) (b0 : 0 ≤ b) (M : MOk m dg [] n ν) (hn : n ≤ 9) (s : SubM μ ν) (hm : μ m = none) (hd : μ dg = none)
    (h : ∀ m dg cs ks μ', μ m = none → μ dg = none → GoodNames cs → GoodNames ks → MOk m dg (restD cs ks) 10 μ' → Fr m dg μ μ' → Q (.obj m) μ') :
    td__law_begun_1 { nx := fun _ μ' => GhQ Q .non μ', rt := GhQ Q } [x0, some (.obj m), some (.lst [.int a, .int b]), x3] ν := by
  unfold td__law_begun_1
  obtain ⟨hne, hf, cells, digits, at_, h1, h2, h3⟩ := M
  walk_at "dd"
  refine ⟨_, .int a, rfl, rfl, a, rfl, a0, fun cs gcs => ?_⟩
  refine ⟨_, _, h1, rfl, tab_len (by decide), ?_⟩
  rw [putKD_colours]
  refine ⟨_, .int b, rfl, rfl, b, rfl, b0, fun ks gks => ?_⟩
  refine ⟨_, _, put_same, rfl, tab_len (by decide : ([((Sum.inr ("colours" : Str) : Key), D.non)].length) ≤ 100), ?_⟩
  rw [putKD_kinds, put_put]
  refine GhQ.sub (μ' := fun x => if x = m ∨ x = dg then (put ν m (.dK (tabD cells dg at_ (restD cs ks)))) x else μ x) (fun x o e => ?_) (h m dg cs ks _ hm hd gcs gks ?_ fun x y1 y2 => ?_)
  · by_cases z : x = m ∨ x = dg
    · simp only [if_pos z] at e; exact e
    · simp only [if_neg z] at e
      rw [put_ne (fun y => z (Or.inl y))]; exact s x o e
  · refine ⟨hne, ⟨Nat.le_add_left 2 98, fun kv hk => ?_⟩, cells, digits, at_, ?_, ?_, h3.1, h3.2.1, h3.2.2.1, by have := h3.2.2.2.1; omega, h3.2.2.2.2⟩
    · unfold restD at hk
      rcases List.mem_cons.mp hk with rfl | hk
      · exact of_decide_eq_false ke4
      · rw [List.mem_singleton] at hk; rw [hk]; exact of_decide_eq_false ke5
    · simp only [true_or, if_true]; exact put_same
    · simp only [or_true, if_true]; rw [put_ne (Ne.symm hne)]; exact h2
  · show (if x = m ∨ x = dg then _ else μ x) = μ x
    rw [if_neg (fun z => z.elim y1 y2)]
theorem begun_2 (M : MOk m dg [] n ν) (hn : n ≤ 6) (s : SubM μ ν) (hm : μ m = none) (hd : μ dg = none)
    (h : ∀ m dg cs ks μ', μ m = none → μ dg = none → GoodNames cs → GoodNames ks → MOk m dg (restD cs ks) 10 μ' → Fr m dg μ μ' → Q (.obj m) μ') :
    td__law_begun_2 { nx := fun _ μ' => GhQ Q .non μ', rt := GhQ Q } [x0, some (.obj m), none, none] ν := by
  unfold td__law_begun_2
  walk_at "dd"
  refine ⟨by decide, LcB.inv (fun i acc ν' => ∃ ns : List Int, acc = ns.map .int ∧ ns.length = i ∧ (∀ x ∈ ns, 0 ≤ x) ∧ MOk m dg [] (n + i) ν' ∧ Fr m dg ν ν') ⟨[], rfl, rfl, (fun _ h => nomatch h), M, Fr.refl _⟩ (fun _ _ _ _ _ => trivial) (by rw [rngD_len]; decide) (fun j acc ν ⟨ls, e, l, _⟩ => by rw [e, List.length_map, l]; exact Nat.le_refl _) (fun i d acc ν' hd' hI => ?_) (fun acc ν' hI => ?_)⟩
  · obtain ⟨ns, rfl, hl, hp, M', F'⟩ := hI
    obtain ⟨hi, rfl⟩ := rngD_get hd'
    walk_at "dd"
    refine ⟨⟨by decide, by decide, by decide⟩, m, dg, _, _, _, rfl, M', by omega, by decide, by decide, fun r μ4 a4 b4 M4 F4 => ⟨ns ++ [r], by rw [List.map_append]; rfl, by rw [List.length_append, hl]; rfl, fun x hx => ?_, M4, F'.trans F4⟩⟩
    rcases List.mem_append.mp hx with hx | hx
    · exact hp x hx
    · rw [List.mem_singleton] at hx; rw [hx]; exact a4
  · obtain ⟨ns, rfl, hl, hp, M', F'⟩ := hI
    rw [rngD_len] at hl M'
    have hl2 : ns.length = 2 := hl
    obtain ⟨a, b, rfl⟩ : ∃ a b, ns = [a, b] := by
      match ns, hl2 with
      | [a, b], _ => exact ⟨a, b, rfl⟩
    have a0 := hp a List.mem_cons_self
    have b0 := hp b (List.mem_cons_of_mem _ List.mem_cons_self)
    have s' := s.fr hm hd F'
    walk_at "dd"
    refine ⟨m, dg, _, _, _, rfl, M', by show n + 2 < 2^30; omega, by decide, by decide, fun r μ4 a4 b4 M4 F4 => ?_⟩
    by_cases h0 : r = 0
    · show if decide (r = 0) = true then _ else _
      rw [if_pos (decide_eq_true h0)]
      refine ⟨_, rfl, _, rfl, by decide, by decide, (show 1 * 2 ≤ sizeLine by decide), ?_⟩
      exact begun_1 a0 a0 M4 (by show n + 2 + 1 ≤ 9; omega) (s'.fr hm hd F4) hm hd h
    · show if decide (r = 0) = true then _ else _
      rw [if_neg (by rw [decide_eq_false h0]; exact Bool.false_ne_true)]
      exact begun_1 a0 b0 M4 (by show n + 2 + 1 ≤ 9; omega) (s'.fr hm hd F4) hm hd h
end
theorem pdM_scr {μ : Mu} (ns : List Int) : pdM μ (.scr (ns.map .int)) = some (.list (ns.map .int)) := by
  show pd (.scr (ns.map .int)) = _
  rw [pd, pdL_ints] <;> rfl
theorem rd__law_begun : ∀ ds μ Q, P__law_begun ds μ Q → td__law_begun { nx := fun _ μ' => GhQ Q .non μ', rt := GhQ Q } (startD N__law_begun ds) μ := by
  rintro ds μ Q ⟨ns, rfl, hl, h⟩
  unfold td__law_begun N__law_begun
  walk_at "dd"
  simp only [dDisp, dPairs]
  walk_at "dd"
  refine ⟨ns, rfl, hl, fun cells c1 c2 => ⟨Nat.zero_le _, fun dg hdg => ⟨[(.inr "cells", .lst (cells.map .int)), (.inr "digits", .obj dg), (.inr "at", .int 0)], rfl, Nat.le_add_left 3 12, fun m hm => ?_⟩⟩⟩
  rw [tab_made]
  have mdg : m ≠ dg := fun z => by rw [z, put_same] at hm; cases hm
  have hμm : μ m = none := by rw [put_ne mdg] at hm; exact hm
  have M0 : MOk m dg [] 0 (put (put μ dg (.lst [])) m (.dK (tabD cells dg 0 []))) := ⟨mdg, ⟨by decide, (fun _ h => nomatch h)⟩, cells, [], 0, put_same, by rw [put_ne (Ne.symm mdg)]; exact put_same, c1, c2, by decide, by decide, by decide⟩
  have s0 : SubM μ (put (put μ dg (.lst [])) m (.dK (tabD cells dg 0 []))) := (SubM.new hdg).newR hμm
  walk_at "dd"
  refine ⟨Nat.zero_le _, _, _, pdM_scr ns, pdM_nil, shaped_ints _, shaped_nil, ?_⟩
  rw [eqv_nil]
  cases hns : ns with
  | nil =>
    simp only [List.map_nil, List.isEmpty_nil, Bool.not_true, Bool.false_eq_true, if_false]
    exact begun_2 M0 (by decide) s0 hμm hdg h
  | cons z zs =>
    simp only [List.map_cons, List.isEmpty_cons, Bool.not_false, if_true]
    refine ⟨_, .int z, rfl, atI_some (by decide) rfl, by decide, ?_⟩
    by_cases h2 : z % 2 = 1
    · show if decide (z % 2 = 1) = true then _ else _
      rw [if_pos (decide_eq_true h2)]
      refine ⟨_, .int z, rfl, atI_some (by decide) rfl, ⟨by decide, by decide⟩, by show 1 ≤ sizeLine; decide, _, rfl, _, _, rfl, rfl, ?_, fun d2 hd2 => ?_⟩
      · refine smallE ?_
        unfold cutD
        simp only [List.length_take, List.length_drop, List.length_cons, List.length_map, List.length_nil]
        rw [hns] at hl
        simp only [List.length_cons] at hl
        omega
      · have d2m : d2 ≠ m := fun y => by rw [y, put_same] at hd2; cases hd2
        have d2g : d2 ≠ dg := fun y => by rw [y, put_ne (Ne.symm mdg), put_same] at hd2; cases hd2
        have hμd2 : μ d2 = none := by rw [put_ne d2m, put_ne d2g] at hd2; exact hd2
        refine ⟨_, _, by rw [put_ne (Ne.symm d2m)]; exact put_same, rfl, tab_len (by decide), ?_⟩
        rw [putKD_digits]
        have e2 : [D.int (z / 2)] ++ cutD (D.int z :: zs.map .int) (some 1) none = ((z / 2) :: zs).map D.int := by
          unfold cutD
          rw [show (some (1 : Int)) = some ((1 : Nat) : Int) from rfl, HT.sIx_nat, HT.sIx_none, List.length_cons, List.length_map, Nat.min_eq_left (by omega)]
          simp
          exact List.take_of_length_le (by rw [List.length_map]; exact Nat.le_refl _)
        rw [e2]
        refine begun_2 (dg := d2) (n := 0) ⟨Ne.symm d2m, ⟨by decide, (fun _ h => nomatch h)⟩, cells, (z / 2) :: zs, 0, put_same, by rw [put_ne d2m]; exact put_same, c1, c2, by decide, by decide, by rw [hns] at hl; simp only [List.length_cons] at hl ⊢; omega⟩ (by decide) (((s0.newR hμd2).newR hμm)) hμm hμd2 h
    · show if decide (z % 2 = 1) = true then _ else _
      rw [if_neg (by rw [decide_eq_false h2]; exact Bool.false_ne_true)]
      exact begun_2 M0 (by decide) s0 hμm hdg h
end DL
set_option Elab.async false
set_option linter.all false
set_option maxRecDepth 100000
set_option maxHeartbeats 4000001
namespace DL
open PySem L2 TL
local macro_rules | `(tactic| walk_at "dd") => `(tactic| try simp only [dSeq, dAsg, dgName, dgTup, dgSub, dOp, dVar, dC, dAdd, dSub, dMul, dMod, dFDiv, dPow, dCmp, dNeg, dEqn, dIsN, dIx, dTup, dLst, dConsA, dNilA, dCB, dCall, dRet, dRetN, dDrop, dIfS, dNext, dBreak, dCont, dTest, dTru, dAndT, dOrT, dNotT, dAndV, dOrV, dNotV, dIf, dChain, dDGet, dDPut, dM1, dM0, dJoin, dSplit, dUpper, dBML, dAppend, dInsert, dPopAt, dLen, dInt, dStr, dTupOf, dListOf, dMax2, dSum, dAll, dSl, dPart, dNoPart, newLst, keyD, dFor, dLc, diSeq, diRng1, diRng2, diEnum, diEnumS, diStr,
  startD, setAll, wipeD, List.map_cons, List.map_nil, List.length_cons, List.length_nil, List.replicate, List.cons_append, List.nil_append, List.getElem?_cons_zero, List.getElem?_cons_succ, List.set_cons_zero, List.set_cons_succ, Nat.reduceAdd, Nat.reduceSub, Bool.false_eq_true, if_true, if_false, ite_true, ite_false, reduceIte])
local macro_rules | `(tactic| walk_at "cm") => `(tactic| first | exact .inl ⟨by omega, by omega⟩ | exact .inr ⟨by omega, by omega⟩ | exact ⟨by omega, by omega⟩ | omega | decide)
/-! ### rows of words -/
theorem numL_len : ∀ (k n : Nat), n < 10 ^ (k + 1) → (numL n).length ≤ k + 1
  | 0, n, h => by rw [numL_lt (by omega)]; exact Nat.le_refl _
  | k + 1, n, h => by
    by_cases h10 : n < 10
    · rw [numL_lt h10]; exact Nat.le_add_left 1 _
    · rw [numL_step (by omega), List.length_append]
      have e : 10 ^ (k + 1 + 1) = 10 * 10 ^ (k + 1) := by rw [Nat.pow_succ, Nat.mul_comm]
      have := numL_len k (n / 10) (by rw [Nat.div_lt_iff_lt_mul (by decide)]; omega)
      simp only [List.length_cons, List.length_nil]
      omega
theorem tl_int {i : Int} (h0 : 0 ≤ i) : tl (Str.ofString (toString i)) = numL i.toNat := by
  obtain ⟨n, rfl⟩ := Int.eq_ofNat_of_zero_le h0
  exact tl_num n
theorem wText_len {w : Word} (h : WordOk w) : (wText w).length ≤ 100 := by
  cases w with
  | inl s => exact h
  | inr i =>
    show (Str.ofString (toString i)).length ≤ 100
    rw [len_tl, tl_int h.1]
    have := numL_len 5 i.toNat (by have := h.2; omega)
    omega
theorem log_ok {i : Int} (h0 : 0 ≤ i) (h : i < 1000000) : i.natAbs.log2 < 1920 := by
  have h1 : i.natAbs < 1000000 := by omega
  by_cases z : i.natAbs = 0
  · rw [z]; decide
  · have : i.natAbs.log2 < 20 := (Nat.log2_lt z).mpr (by omega)
    omega
theorem rd__law_row : ∀ ds μ Q, P__law_row ds μ Q → td__law_row { nx := fun _ μ' => GhQ Q .non μ', rt := GhQ Q } (startD N__law_row ds) μ := by
  rintro ds μ Q ⟨x, ws, rfl, hx, hl, hok, h⟩
  unfold td__law_row N__law_row
  walk_at "dd"
  refine ⟨⟨_, rfl⟩, _, hx, LcB.pure (fun d => match d with | .int i => .str (toString i) | d => d) ?_ (by rw [List.length_map]; omega) (fun j d Qd hd q => ?_) ?_⟩
  · unfold keepOf
    cases x <;> first | trivial | exact hx
  · obtain ⟨w, hw, rfl⟩ := map_get hd
    have ok := hok w (List.mem_of_getElem? hw)
    cases w with
    | inl s => exact q
    | inr i => exact ⟨log_ok ok.1 ok.2, q⟩
  · have e : (ws.map wordD).map (fun d => match d with | .int i => D.str (toString i) | d => d) = (ws.map wText).map .str := by
      rw [List.map_map, List.map_map]
      refine List.map_congr_left fun w _ => ?_
      cases w <;> rfl
    rw [e]
    refine ⟨ws.map wText, rfl, ?_, GhQ.self h⟩
    have b : ∀ l : List Word, (∀ w ∈ l, WordOk w) → ((l.map wText).map (·.length)).sum ≤ 100 * l.length := by
      intro l
      induction l with
      | nil => intro _; exact Nat.le_refl _
      | cons w l ih =>
        intro hw
        have h1 := ih fun v hv => hw v (List.mem_cons_of_mem _ hv)
        have h2 := wText_len (hw w List.mem_cons_self)
        rw [List.map_cons, List.map_cons, List.sum_cons, List.length_cons]
        omega
    have h1 := b ws hok
    have h2 : (Str.ofString " ").length = 1 := by decide +kernel
    rw [h2, List.length_map]
    omega
theorem word_sight : (Str.ofString "sight").length = 5 := by decide +kernel
theorem word_lamp : (Str.ofString "lamp").length = 4 := by decide +kernel
theorem word_kind : (Str.ofString "kind").length = 4 := by decide +kernel
theorem word_colours : (Str.ofString "colours").length = 7 := by decide +kernel
theorem mapw_strs (cs : List Str) : (cs.map (Sum.inl : Str → Word)).map wordD = cs.map .str := by rw [List.map_map]; rfl
theorem rd__law_sight_row : ∀ ds μ Q, P__law_sight_row ds μ Q → td__law_sight_row { nx := fun _ μ' => GhQ Q .non μ', rt := GhQ Q } (startD N__law_sight_row ds) μ := by
  rintro ds μ Q ⟨s, rfl, ⟨h1, h2, h3, h4⟩, h⟩
  unfold td__law_sight_row N__law_sight_row sightD
  walk_at "dd"
  refine ⟨by show 1 ≤ sizeLine; decide, ?_⟩
  have e : cutD [D.int s.1, D.int s.2.1, D.tup (s.2.2.map .str)] none (some 2) = [D.int s.1, D.int s.2.1] := rfl
  rw [e]
  refine ⟨by show 1 + 2 ≤ sizeLine; decide, _, .tup (s.2.2.map .str), rfl, rfl, ?_, _, sightWords s, rfl, ?_, ?_, fun w hw => ?_, GhQ.self h⟩
  · show ([D.str "sight"] ++ [D.int s.1, D.int s.2.1]).length + (s.2.2.map D.str).length ≤ sizeLine
    refine smallE ?_
    rw [List.length_map]
    show 3 + s.2.2.length ≤ 1000000
    omega
  · show [D.str "sight"] ++ [D.int s.1, D.int s.2.1] ++ s.2.2.map D.str = (sightWords s).map wordD
    unfold sightWords
    rw [List.map_cons, List.map_cons, List.map_cons, mapw_strs]
    rfl
  · unfold sightWords
    simp only [List.length_cons, List.length_map]; omega
  · unfold sightWords at hw
    rcases List.mem_cons.mp hw with rfl | hw
    · show (Str.ofString "sight").length ≤ 100; rw [word_sight]; decide
    rcases List.mem_cons.mp hw with rfl | hw
    · exact h1
    rcases List.mem_cons.mp hw with rfl | hw
    · exact h2
    · obtain ⟨c, hc, rfl⟩ := List.mem_map.mp hw
      exact h4 c hc
theorem kindLines_len (k : Kind) : (kindLines k).length = 1 + k.2.2.length := by unfold kindLines; rw [List.length_cons, List.length_map]; omega
theorem heads_len {rows : List Kind} (h : ∀ k ∈ rows, k.2.2.length ≤ 90) : ((rows.map kindLines).flatten).length ≤ 91 * rows.length := by
  induction rows with
  | nil => exact Nat.le_refl _
  | cons k rows ih =>
    have h1 := ih fun x hx => h x (List.mem_cons_of_mem _ hx)
    have h2 := h k List.mem_cons_self
    rw [List.map_cons, List.flatten_cons, List.length_append, kindLines_len, List.length_cons]
    omega
theorem rd__law_lines : ∀ ds μ Q, P__law_lines ds μ Q → td__law_lines { nx := fun _ μ' => GhQ Q .non μ', rt := GhQ Q } (startD N__law_lines ds) μ := by
  rintro ds μ Q ⟨f, ss, rfl, sf, hs, hss, h⟩
  unfold td__law_lines N__law_lines
  walk_at "dd"
  refine ⟨by show 1 ≤ sizeLine; decide, ?_⟩
  refine ⟨_, .tup (f.1.map .str), rfl, rfl, ?_, _, colourWords f.1, rfl, ?_, ?_, fun w hw => ?_, by show 1 ≤ sizeLine; decide, fun p hp => ?_⟩
  · refine smallE ?_
    have := sf.c
    show 1 + (f.1.map D.str).length ≤ 1000000
    rw [List.length_map]; omega
  · show [D.str "colours"] ++ f.1.map D.str = (colourWords f.1).map wordD
    unfold colourWords
    rw [List.map_cons, mapw_strs]
    rfl
  · have := sf.c
    unfold colourWords
    simp only [List.length_cons, List.length_map]; omega
  · unfold colourWords at hw
    rcases List.mem_cons.mp hw with rfl | hw
    · show (Str.ofString "colours").length ≤ 100; rw [word_colours]; decide
    · obtain ⟨c, hc, rfl⟩ := List.mem_map.mp hw
      exact sf.cl c hc
  refine ⟨_, .tup (f.2.map kindD), rfl, rfl, _, rfl, ?_⟩
  let pre : Nat → List Str := fun j => rowOf (colourWords f.1) :: ((f.2.take j).map kindLines).flatten
  have prel : ∀ j, (pre j).length ≤ 10000 := fun j => by
    have h1 := heads_len (rows := f.2.take j) fun k hk => (sf.kl k (List.mem_of_mem_take hk)).2.2.1
    have h2 := sf.k
    have h3 : (f.2.take j).length ≤ f.2.length := by rw [List.length_take]; omega
    show (_ :: _).length ≤ _
    rw [List.length_cons]
    have : 91 * (f.2.take j).length ≤ 91 * 90 := Nat.mul_le_mul_left _ (by omega)
    omega
  let I : Nat → DSl → Mu → Prop := fun j ds ν => ∃ (p : Addr) (x3 x4 x5 : Option D), ds = [some (fleetD f), some (.lst (ss.map sightD)), some (.obj p), x3, x4, x5, none, none] ∧ SubM μ ν ∧ μ p = none ∧ ν p = some (.lst ((pre j).map .str))
  refine ⟨I, ⟨p, _, _, _, rfl, SubM.new hp, hp, put_same⟩, fun _ _ _ _ _ => trivial, fun j d ds ν hd hI => ?_, fun ds ν hI => ?_⟩
  · obtain ⟨p, x3, x4, x5, rfl, s, h0, e⟩ := hI
    obtain ⟨k, hk, rfl⟩ := map_get hd
    obtain ⟨k1, k2, k3, k4⟩ := sf.kl k (List.mem_of_getElem? hk)
    unfold kindD
    walk_at "dd"
    refine ⟨trivial, ⟨_, e⟩, by show 3 ≤ sizeLine; decide, _, kindWords k, rfl, rfl, by show 3 ≤ 100; decide, fun w hw => ?_, ?_⟩
    · unfold kindWords at hw
      rcases List.mem_cons.mp hw with rfl | hw
      · show (Str.ofString "kind").length ≤ 100; rw [word_kind]; decide
      rcases List.mem_cons.mp hw with rfl | hw
      · exact k1
      rcases List.mem_cons.mp hw with rfl | hw
      · exact k2
      · cases hw
    have := prel j
    refine ⟨_, e, small (by rw [List.length_map]; omega), _, rfl, ?_⟩
    refine LcB.pure (fun d => match d with | .tup [.str a, .int b, .int c] => .str (rowOf (lampWords (a, b, c))) | d => d) trivial (by rw [List.length_map]; omega) (fun i d Qd hd q => ?_) ?_
    · obtain ⟨l, hl, rfl⟩ := map_get hd
      obtain ⟨l1, l2, l3⟩ := k4 l (List.mem_of_getElem? hl)
      unfold lampD at q ⊢
      walk_at "dd"
      refine ⟨by show 1 ≤ sizeLine; decide, by show 1 + 3 ≤ sizeLine; decide, _, lampWords l, rfl, rfl, by show 4 ≤ 100; decide, fun w hw => ?_, q⟩
      unfold lampWords at hw
      rcases List.mem_cons.mp hw with rfl | hw
      · show (Str.ofString "lamp").length ≤ 100; rw [word_lamp]; decide
      rcases List.mem_cons.mp hw with rfl | hw
      · exact l1
      rcases List.mem_cons.mp hw with rfl | hw
      · exact l2
      rcases List.mem_cons.mp hw with rfl | hw
      · exact l3
      · cases hw
    · have em : (k.2.2.map lampD).map (fun d => match d with | .tup [.str a, .int b, .int c] => D.str (rowOf (lampWords (a, b, c))) | d => d) = (k.2.2.map fun l => rowOf (lampWords l)).map .str := by
        rw [List.map_map, List.map_map]; rfl
      rw [em]
      refine ⟨_, _, put_same, rfl, ?_, fun p2 hp2 => ?_⟩
      · refine smallE ?_
        rw [List.length_append, List.length_map, List.length_map, List.length_map]
        simp only [List.length_cons, List.length_nil]
        omega
      · have n2 : p2 ≠ p := fun z => by rw [z, put_same] at hp2; cases hp2
        have hμ2 : μ p2 = none := by
          rw [put_ne n2] at hp2
          cases q : μ p2 with
          | none => rfl
          | some o => rw [s p2 o q] at hp2; cases hp2
        refine ⟨p2, _, _, _, rfl, (s.newR h0).newR hμ2, hμ2, ?_⟩
        rw [put_same]
        congr 2
        show (pre j).map D.str ++ [D.str (rowOf (kindWords k))] ++ _ = (pre (j + 1)).map D.str
        have : pre (j + 1) = pre j ++ kindLines k := by
          show _ :: _ = _ :: _ ++ _
          rw [take_snoc hk, List.map_append, List.flatten_append]
          simp
        rw [this, List.map_append]
        unfold kindLines
        rw [List.map_cons, List.append_assoc]
        rfl
  · obtain ⟨p, x3, x4, x5, rfl, s, h0, e⟩ := hI
    rw [List.length_map] at e
    walk_at "dd"
    refine ⟨_, rfl, ?_⟩
    refine LcB.pure (fun d => match d with | .tup [.int a, .int b, .tup c] => .str (rowOf (.inl "sight" :: .inr a :: .inr b :: c.map fun x => match x with | D.str s => .inl s | _ => .inr 0)) | d => d) trivial (by rw [List.length_map]; omega) (fun i d Qd hd q => ?_) ?_
    · obtain ⟨x, hx, rfl⟩ := map_get hd
      walk_at "dd"
      refine ⟨x, rfl, hss x (List.mem_of_getElem? hx), ?_⟩
      have ew : ((.inl "sight" : Word) :: .inr x.1 :: .inr x.2.1 :: (x.2.2.map D.str).map fun y => match y with | D.str s => .inl s | _ => .inr 0) = sightWords x := by
        rw [List.map_map]; rfl
      unfold sightD at q
      simp only [ew] at q
      exact q
    · have em : (ss.map sightD).map (fun d => match d with | .tup [.int a, .int b, .tup c] => D.str (rowOf (.inl "sight" :: .inr a :: .inr b :: c.map fun x => match x with | D.str s => .inl s | _ => .inr 0)) | d => d) = (ss.map fun x => rowOf (sightWords x)).map .str := by
        rw [List.map_map, List.map_map]
        refine List.map_congr_left fun x _ => ?_
        show D.str (rowOf ((.inl "sight" : Word) :: .inr x.1 :: .inr x.2.1 :: (x.2.2.map D.str).map fun y => match y with | D.str s => .inl s | _ => .inr 0)) = _
        rw [List.map_map]; rfl
      rw [em]
      have := prel f.2.length
      refine ⟨_, _, e, rfl, ?_, ?_⟩
      · refine smallE ?_
        rw [List.length_map, List.length_map, List.length_map]
        omega
      · have ef : (pre f.2.length).map D.str ++ (ss.map fun x => rowOf (sightWords x)).map .str = (linesOf f ss).map .str := by
          rw [← List.map_append]
          congr 1
          unfold linesOf headLines
          show _ :: ((f.2.take f.2.length).map kindLines).flatten ++ _ = _
          rw [List.take_length]
        rw [ef]
        exact GhQ.sub s h
end DL
set_option Elab.async false
set_option linter.all false
set_option maxRecDepth 100000
set_option maxHeartbeats 4000001
namespace DL.K20
open PySem L2 
def td_is_number (isa : Value → Value → Option Bool)  : DS :=
  (dRet (dAndV (dCB (dIsi isa) (dConsA (dVar 0) (dConsA (dC (.ty "int")) dNilA))) (dAndV (dNotV (dCB (dIsi isa) (dConsA (dVar 0) (dConsA (dC (.ty "bool")) dNilA)))) (dChain (dCmp fun i j => decide (i ≤ j)) (dCmp fun i j => decide (i ≤ j)) (dC (.int 0)) (dVar 0) (dVar 1)))))
def td_is_point  : DS :=
  (dRet (dCall P_is_number (dConsA (dVar 0) (dConsA (dC (.int 31)) dNilA))))
def td_is_name_of (isa : Value → Value → Option Bool)  : DS :=
  (dRet (dAndV (dCB (dIsi isa) (dConsA (dVar 0) (dConsA (dC (.ty "str")) dNilA))) (dOp (dIn false) (dVar 0) (dVar 1))))
def td_check_point (BadPoint : Addr) : DSX :=
  (xIf (dNotT (dTru (dCall P_is_point (dConsA (dVar 0) dNilA)))) (xOwn BadPoint (dFs3 "the " " is no point from 0 to 31" (dVar 1))) (xLift dNext))
def td_shows  : DS :=
  (dRet (dOp (dCmp fun i j => decide (i ≤ j)) (dOp dMod (dOp dSub (dVar 2) (dVar 0)) (dC (.int 32))) (dOp dMod (dOp dSub (dVar 1) (dVar 0)) (dC (.int 32)))))
def td_colours_at  : DS :=
  (dRet (dCB dTupOf (dConsA (dLc false (diSeq (dVar 0)) (dgTup [2, 3, 4]) (dTru (dCall P_shows (dConsA (dVar 3) (dConsA (dVar 4) (dConsA (dVar 1) dNilA))))) (dVar 2) [2, 3, 4]) dNilA)))
def td_kind_row  : DS :=
  (dSeq (dAsg (dVar 0) (dgTup [1, 2, 3]))
    (dRet (dTup (dConsA (dVar 1) (dConsA (dVar 2) (dConsA (dCB dTupOf (dConsA (dLc false (diSeq (dVar 3)) (dgName 4) dYes (dCB dTupOf (dConsA (dVar 4) dNilA)) [4]) dNilA)) dNilA))))))
def td_Fleet___init__ (Fleet : Addr) : DS :=
  (dSeq (dAsg (dVar 1) (dgTup [2, 3]))
    (dSeq (dsFld Fleet "_colours" (dVar 0) (dCB dTupOf (dConsA (dVar 2) dNilA)))
    (dsFld Fleet "_rows" (dVar 0) (dCB dTupOf (dConsA (dLc false (diSeq (dVar 3)) (dgName 4) dYes (dCall P_kind_row (dConsA (dVar 4) dNilA)) [4]) dNilA)))))
def td_Fleet_plain (Fleet : Addr) : DS :=
  (dRet (dTup (dConsA (dFld Fleet "_colours" (dVar 0)) (dConsA (dFld Fleet "_rows" (dVar 0)) dNilA))))
def td_Fleet_kinds (Fleet : Addr) : DS :=
  (dRet (dLc true (diSeq (dFld Fleet "_rows" (dVar 0))) (dgName 1) dYes (dOp dIx (dVar 1) (dC (.int 0))) [1]))
def td_Fleet__row (Fleet : Addr) (NoKind : Addr) : DSX :=
  (xSeq (xLift (dAsg (dMeth Fleet "kinds" (P_Fleet_kinds Fleet) (dVar 0) dNilA) (dgName 2)))
    (xSeq (xIf (dTru (dCall P_is_name_of (dConsA (dVar 1) (dConsA (dVar 2) dNilA)))) (xLift (dRet (dOp dIx (dFld Fleet "_rows" (dVar 0)) (dBML dIndex (dVar 2) (dConsA (dVar 1) dNilA))))) (xLift dNext))
    (xOwn NoKind (dC (.str "the fleet has no kind of this name")))))
def td_Fleet_turn (Fleet : Addr) (NoKind : Addr) : DSX :=
  (xRet (xOp dIx (xMeth Fleet "_row" (P_Fleet__row Fleet NoKind) (dVar 0) (dConsA (dVar 1) dNilA)) (dC (.int 1))))
def td_Fleet_lamps (Fleet : Addr) (NoKind : Addr) : DSX :=
  (xRet (xCB1 (dListOf false) (xOp dIx (xMeth Fleet "_row" (P_Fleet__row Fleet NoKind) (dVar 0) (dConsA (dVar 1) dNilA)) (dC (.int 2)))))
def td_column (Fleet : Addr) (NoKind : Addr) (BadPoint : Addr) : DSX :=
  (xSeq (xSet 3 (xMeth Fleet "lamps" (P_Fleet_lamps Fleet NoKind) (dVar 0) (dConsA (dVar 1) dNilA)))
    (xSeq (xDrop (xCall (P_check_point BadPoint) (dConsA (dVar 2) (dConsA (dC (.str "bearing")) dNilA))))
    (xLift (dRet (dCall P_colours_at (dConsA (dVar 3) (dConsA (dVar 2) dNilA)))))))
def td_seen (Fleet : Addr) (NoKind : Addr) (BadPoint : Addr) : DSX :=
  (xSeq (xSet 4 (xMeth Fleet "lamps" (P_Fleet_lamps Fleet NoKind) (dVar 0) (dConsA (dVar 1) dNilA)))
    (xSeq (xDrop (xCall (P_check_point BadPoint) (dConsA (dVar 2) (dConsA (dC (.str "course")) dNilA))))
    (xSeq (xDrop (xCall (P_check_point BadPoint) (dConsA (dVar 3) (dConsA (dC (.str "side")) dNilA))))
    (xLift (dRet (dCall P_colours_at (dConsA (dVar 4) (dConsA (dOp dMod (dOp dSub (dVar 3) (dVar 2)) (dC (.int 32))) dNilA))))))))
def td__law_word (isa : Value → Value → Option Bool) (BadPoint : Addr) (NoKind : Addr) (BadText : Addr) (Full : Addr) (BadSight : Addr) (BadBoats : Addr) (BadMoment : Addr) (NoFoe : Addr) (BadMany : Addr) : DS :=
  (dSeq (dAsg (dLst false (dConsA (dTup (dConsA (dC (.str "text")) (dConsA (dCB (dIsi isa) (dConsA (dVar 0) (dConsA (dC (.obj BadText)) dNilA))) dNilA))) (dConsA (dTup (dConsA (dC (.str "kind")) (dConsA (dCB (dIsi isa) (dConsA (dVar 0) (dConsA (dC (.obj NoKind)) dNilA))) dNilA))) (dConsA (dTup (dConsA (dC (.str "point")) (dConsA (dCB (dIsi isa) (dConsA (dVar 0) (dConsA (dC (.obj BadPoint)) dNilA))) dNilA))) dNilA)))) (dgName 1))
    (dSeq (dAsg (dOp (dAdd false) (dVar 1) (dLst false (dConsA (dTup (dConsA (dC (.str "sight")) (dConsA (dCB (dIsi isa) (dConsA (dVar 0) (dConsA (dC (.obj BadSight)) dNilA))) dNilA))) (dConsA (dTup (dConsA (dC (.str "full")) (dConsA (dCB (dIsi isa) (dConsA (dVar 0) (dConsA (dC (.obj Full)) dNilA))) dNilA))) dNilA)))) (dgName 1))
    (dSeq (dAsg (dOp (dAdd false) (dVar 1) (dLst false (dConsA (dTup (dConsA (dC (.str "moment")) (dConsA (dCB (dIsi isa) (dConsA (dVar 0) (dConsA (dC (.obj BadMoment)) dNilA))) dNilA))) (dConsA (dTup (dConsA (dC (.str "boats")) (dConsA (dCB (dIsi isa) (dConsA (dVar 0) (dConsA (dC (.obj BadBoats)) dNilA))) dNilA))) dNilA)))) (dgName 1))
    (dSeq (dAsg (dOp (dAdd false) (dVar 1) (dLst false (dConsA (dTup (dConsA (dC (.str "many")) (dConsA (dCB (dIsi isa) (dConsA (dVar 0) (dConsA (dC (.obj BadMany)) dNilA))) dNilA))) (dConsA (dTup (dConsA (dC (.str "foe")) (dConsA (dCB (dIsi isa) (dConsA (dVar 0) (dConsA (dC (.obj NoFoe)) dNilA))) dNilA))) dNilA)))) (dgName 1))
    (dSeq (dAsg (dOp (dAdd false) (dLc false (diSeq (dVar 1)) (dgTup [3, 4]) (dTru (dVar 4)) (dVar 3) [3, 4]) (dOp (dMul false) (dLst false (dConsA (dC (.str "else")) dNilA)) (dCB dInt (dConsA (dNotV (dCB (dIsi isa) (dConsA (dVar 0) (dConsA (dC (.ty "ValueError")) dNilA)))) dNilA)))) (dgName 2))
    (dRet (dM1 dJoin (dC (.str "/")) (dVar 2))))))))
def td__law_lost_ret (BadText : Addr) (NoKind : Addr) (BadPoint : Addr) (BadSight : Addr) (Full : Addr) (BadMoment : Addr) (BadBoats : Addr) (BadMany : Addr) (NoFoe : Addr) : DS :=
  (dRet (dIf (dTest (dOp (dIsN false) (dVar 1) (dC .non))) (dC (.str "")) (dCall (P__law_word BadText NoKind BadPoint BadSight Full BadMoment BadBoats BadMany NoFoe) (dConsA (dVar 1) dNilA))))
def td__law_points  : DS :=
  (dSeq (dAsg (dLst true (dConsA (dVar 0) dNilA)) (dgName 2))
    (dSeq (dWhile (dTest (dOp (dEqn true) (dOp dIx (dVar 2) (dNeg (dC (.int 1)))) (dVar 1))) (dDrop (dBML dAppend (dVar 2) (dConsA (dOp dMod (dOp (dAdd false) (dOp dIx (dVar 2) (dNeg (dC (.int 1)))) (dC (.int 1))) (dC (.int 32))) dNilA))))
    (dRet (dVar 2))))
def td__law_shown  : DS :=
  (dRet (dCB dTupOf (dConsA (dLc false (diSeq (dVar 0)) (dgTup [2, 3, 4]) (dTest (dOp (dIn false) (dVar 1) (dCall P__law_points (dConsA (dVar 3) (dConsA (dVar 4) dNilA))))) (dVar 2) [2, 3, 4]) dNilA)))
def td__law_kind_right (Fleet : Addr) (NoKind : Addr) (BadPoint : Addr) : DS :=
  (dSeq (dAsg (dVar 2) (dgTup [3, 4, 5]))
    (dSeq (dAsg (dLc false (diRng1 (dConsA (dC (.int 32)) dNilA)) (dgName 7) dYes (dCall P__law_shown (dConsA (dVar 5) (dConsA (dVar 7) dNilA))) [7]) (dgName 6))
    (dSeq (dFor (diRng1 (dConsA (dC (.int 2)) dNilA)) (dgName 8) (dIfS (dTest (dOp (dEqn true) (dCB dRepr (dConsA (dLc false (diRng1 (dConsA (dC (.int 32)) dNilA)) (dgName 7) dYes (dCall (quiet (P_column Fleet NoKind BadPoint)) (dConsA (dVar 1) (dConsA (dVar 3) (dConsA (dVar 7) dNilA)))) [7]) dNilA)) (dCB dRepr (dConsA (dVar 6) dNilA)))) (dRet (dC (.bl false))) dNext))
    (dSeq (dFor (diSeq (dTup (dConsA (dC (.int 0)) (dConsA (dC (.int 31)) (dConsA (dCall P__law_draw (dConsA (dVar 0) (dConsA (dC (.int 32)) dNilA))) (dConsA (dCall P__law_draw (dConsA (dVar 0) (dConsA (dC (.int 32)) dNilA))) dNilA)))))) (dgName 9) (dSeq (dAsg (dLc false (diRng1 (dConsA (dC (.int 32)) dNilA)) (dgName 11) dYes (dOp dIx (dVar 6) (dOp dMod (dOp dSub (dVar 11) (dVar 9)) (dC (.int 32)))) [11]) (dgName 10))
    (dIfS (dTest (dOp (dEqn true) (dCB dRepr (dConsA (dLc false (diRng1 (dConsA (dC (.int 32)) dNilA)) (dgName 11) dYes (dCall (quiet (P_seen Fleet NoKind BadPoint)) (dConsA (dVar 1) (dConsA (dVar 3) (dConsA (dVar 9) (dConsA (dVar 11) dNilA))))) [11]) dNilA)) (dCB dRepr (dConsA (dVar 10) dNilA)))) (dRet (dC (.bl false))) dNext)))
    (dRet (dC (.bl true)))))))
def td__law_refused_right (cat : Addr → Option Bool) (Fleet : Addr) (NoKind : Addr) (BadPoint : Addr) (BadText : Addr) (BadSight : Addr) (Full : Addr) (BadMoment : Addr) (BadBoats : Addr) (BadMany : Addr) (NoFoe : Addr) (T : List (Addr × Str)) : DS :=
  (dSeq (dAsg (dOp dIx (dLst false (dConsA (dC (.str "")) (dConsA (dC (.str "zzzzzzz")) (dConsA (dOp (dAdd false) (dVar 2) (dC (.str "x"))) (dConsA (dC .non) (dConsA (dC (.int 5)) (dConsA (dLst false (dConsA (dVar 2) dNilA)) (dConsA (dTup (dConsA (dVar 2) dNilA)) (dConsA (dC (.bl true)) (dConsA dDNew dNilA)))))))))) (dCall P__law_draw (dConsA (dVar 0) (dConsA (dC (.int 9)) dNilA)))) (dgName 3))
    (dSeq (dAsg (dOp dIx (dLst false (dConsA (dNeg (dC (.int 1))) (dConsA (dC (.int 32)) (dConsA (dC (.bl true)) (dConsA (dC .non) (dConsA (dC (.str "0")) (dConsA (dLst false (dConsA (dC (.int 0)) dNilA)) (dConsA (dTup (dConsA (dC (.int 0)) dNilA)) (dConsA dDNew (dConsA (dOp (dAdd false) (dC (.int 32)) (dCall P__law_draw (dConsA (dVar 0) (dConsA (dC (.int 1000)) dNilA)))) (dConsA (dOp dSub (dNeg (dC (.int 1))) (dCall P__law_draw (dConsA (dVar 0) (dConsA (dC (.int 1000)) dNilA)))) dNilA))))))))))) (dCall P__law_draw (dConsA (dVar 0) (dConsA (dC (.int 10)) dNilA)))) (dgName 4))
    (dSeq (dAsg (dLst true (dConsA (dLost T cat (xCall (P_column Fleet NoKind BadPoint) (dConsA (dVar 1) (dConsA (dVar 3) (dConsA (dVar 4) dNilA)))) (td__law_lost_ret BadText NoKind BadPoint BadSight Full BadMoment BadBoats BadMany NoFoe)) dNilA)) (dgName 5))
    (dSeq (dDrop (dBML dAppend (dVar 5) (dConsA (dLost T cat (xCall (P_seen Fleet NoKind BadPoint) (dConsA (dVar 1) (dConsA (dVar 3) (dConsA (dVar 4) (dConsA (dVar 4) dNilA))))) (td__law_lost_ret BadText NoKind BadPoint BadSight Full BadMoment BadBoats BadMany NoFoe)) dNilA)))
    (dSeq (dDrop (dBML dAppend (dVar 5) (dConsA (dLost T cat (xCall (P_column Fleet NoKind BadPoint) (dConsA (dVar 1) (dConsA (dVar 3) (dConsA (dC (.int 0)) dNilA)))) (td__law_lost_ret BadText NoKind BadPoint BadSight Full BadMoment BadBoats BadMany NoFoe)) dNilA)))
    (dSeq (dDrop (dBML dAppend (dVar 5) (dConsA (dLost T cat (xMeth Fleet "turn" (P_Fleet_turn Fleet NoKind) (dVar 1) (dConsA (dVar 3) dNilA)) (td__law_lost_ret BadText NoKind BadPoint BadSight Full BadMoment BadBoats BadMany NoFoe)) dNilA)))
    (dSeq (dDrop (dBML dAppend (dVar 5) (dConsA (dLost T cat (xMeth Fleet "lamps" (P_Fleet_lamps Fleet NoKind) (dVar 1) (dConsA (dVar 3) dNilA)) (td__law_lost_ret BadText NoKind BadPoint BadSight Full BadMoment BadBoats BadMany NoFoe)) dNilA)))
    (dSeq (dDrop (dBML dAppend (dVar 5) (dConsA (dLost T cat (xCall (P_column Fleet NoKind BadPoint) (dConsA (dVar 1) (dConsA (dVar 2) (dConsA (dVar 4) dNilA)))) (td__law_lost_ret BadText NoKind BadPoint BadSight Full BadMoment BadBoats BadMany NoFoe)) dNilA)))
    (dSeq (dDrop (dBML dAppend (dVar 5) (dConsA (dLost T cat (xCall (P_seen Fleet NoKind BadPoint) (dConsA (dVar 1) (dConsA (dVar 2) (dConsA (dVar 4) (dConsA (dC (.int 3)) dNilA))))) (td__law_lost_ret BadText NoKind BadPoint BadSight Full BadMoment BadBoats BadMany NoFoe)) dNilA)))
    (dSeq (dDrop (dBML dAppend (dVar 5) (dConsA (dLost T cat (xCall (P_seen Fleet NoKind BadPoint) (dConsA (dVar 1) (dConsA (dVar 2) (dConsA (dC (.int 3)) (dConsA (dVar 4) dNilA))))) (td__law_lost_ret BadText NoKind BadPoint BadSight Full BadMoment BadBoats BadMany NoFoe)) dNilA)))
    (dRet (dOp (dEqn false) (dVar 5) (dOp (dAdd false) (dOp (dMul false) (dLst false (dConsA (dC (.str "kind")) dNilA)) (dC (.int 5))) (dOp (dMul false) (dLst false (dConsA (dC (.str "point")) dNilA)) (dC (.int 3))))))))))))))))
def td_law (Fleet : Addr) (T : List (Addr × Str)) : DS :=
  (dSeq (dAsg (dCall P__law_begun (dConsA (dVar 0) dNilA)) (dgName 1))
    (dSeq (dAsg (dCall P__law_fleet (dConsA (dVar 1) dNilA)) (dgName 2))
    (dSeq (dAsg (dMake Fleet (P_Fleet___init__ Fleet) (dConsA (dVar 2) dNilA)) (dgName 3))
    (dSeq (dFor (diSeq (dOp dIx (dVar 2) (dC (.int 1)))) (dgName 4) (dIfS (dOrT (dNotT (dTru (dCall (P__law_kind_right Fleet) (dConsA (dVar 1) (dConsA (dVar 3) (dConsA (dVar 4) dNilA)))))) (dNotT (dTru (dCall (P__law_refused_right T Fleet) (dConsA (dVar 1) (dConsA (dVar 3) (dConsA (dOp dIx (dVar 4) (dC (.int 0))) dNilA))))))) (dRet (dC (.bl false))) dNext))
    (dRet (dOp (dEqn false) (dCB dRepr (dConsA (dMeth Fleet "plain" (P_Fleet_plain Fleet) (dVar 3) dNilA) dNilA)) (dCB dRepr (dConsA (dVar 2) dNilA))))))))

abbrev N_is_number : List Str := ["value", "most"]
abbrev N_is_point : List Str := ["value"]
abbrev N_is_name_of : List Str := ["value", "names"]
abbrev N_check_point : List Str := ["value", "called"]
abbrev N_shows : List Str := ["first", "last", "bearing"]
abbrev N_colours_at : List Str := ["lamps", "bearing", "colour", "first", "last"]
abbrev N_kind_row : List Str := ["row", "kind", "turn", "lamps", "lamp"]
abbrev N_Fleet___init__ : List Str := ["self", "plain", "colours", "kinds", "row"]
abbrev N_Fleet_plain : List Str := ["self"]
abbrev N_Fleet_kinds : List Str := ["self", "row"]
abbrev N_Fleet__row : List Str := ["self", "kind", "kinds"]
abbrev N_Fleet_turn : List Str := ["self", "kind"]
abbrev N_Fleet_lamps : List Str := ["self", "kind"]
abbrev N_column : List Str := ["fleet", "kind", "bearing", "lamps"]
abbrev N_seen : List Str := ["fleet", "kind", "course", "side", "lamps"]
abbrev N__law_mixed : List Str := ["_law_cell", "_law_k", "_law_number"]
abbrev N__law_folded : List Str := ["_law_script", "_law_found", "_law_k", "_law_cell"]
abbrev N__law_draw : List Str := ["_law_m", "_law_many", "_law_k", "_law_at", "_law_cell"]
abbrev N__law_names : List Str := ["_law_cell", "_law_many", "_law_letters", "_law_k", "_law_size", "_law_at", "_law_row", "_law_j", "_law_found", "_law_sign", "_law_bars", "_law_name"]
abbrev N__law_lamp : List Str := ["_law_m", "_law_colours", "_law_first", "_law_wide"]
abbrev N__law_lamps : List Str := ["_law_m", "_law_colours", "_law_rows", "_law_k", "_law_lamps_here", "_law_at", "_law_way", "_law_colour", "_law_first", "_law_last"]
abbrev N__law_fleet : List Str := ["_law_m", "_law_great", "_law_colours", "_law_rows", "_law_name", "_law_turn"]
abbrev N__law_begun : List Str := ["_law_script", "_law_m", "_law_seeds", "_law_k"]
abbrev N__law_word : List Str := ["_law_e", "_law_some", "_law_found", "_law_word_here", "_law_is_it"]
abbrev N__law_lost : List Str := ["_law_deed", "_law_caught", "_law_e"]
abbrev N__law_points : List Str := ["_law_first", "_law_last", "_law_found"]
abbrev N__law_shown : List Str := ["_law_lamps_here", "_law_bearing", "_law_colour", "_law_first", "_law_last"]
abbrev N__law_kind_right : List Str := ["_law_m", "_law_fleet_here", "_law_row", "_law_kind", "_law_turn", "_law_lamps_here", "_law_due", "_law_bearing", "_law_again", "_law_course", "_law_wanted", "_law_side"]
abbrev N__law_refused_right : List Str := ["_law_m", "_law_fleet_here", "_law_kind", "_law_strange", "_law_odd", "_law_words"]
abbrev N_law : List Str := ["_law_script", "_law_m", "_law_plain", "_law_fleet_here", "_law_row"]
end DL.K20
set_option Elab.async false
set_option linter.all false
set_option maxRecDepth 100000
set_option maxHeartbeats 4000001
namespace DL
open PySem L2 TL
local macro_rules | `(tactic| walk_at "dd") => `(tactic| try simp only [dSeq, dAsg, dgName, dgTup, dgSub, dOp, dVar, dC, dAdd, dSub, dMul, dMod, dFDiv, dPow, dCmp, dNeg, dEqn, dIsN, dIx, dTup, dLst, dConsA, dNilA, dCB, dCall, dRet, dRetN, dDrop, dIfS, dNext, dBreak, dCont, dTest, dTru, dAndT, dOrT, dNotT, dAndV, dOrV, dNotV, dIf, dChain, dDGet, dDPut, dM1, dM0, dJoin, dSplit, dUpper, dBML, dAppend, dInsert, dPopAt, dLen, dInt, dStr, dTupOf, dListOf, dMax2, dSum, dAll, dSl, dPart, dNoPart, newLst, keyD, dFor, dLc, diSeq, diRng1, diRng2, diEnum, diEnumS, diStr,
  startD, setAll, wipeD, List.map_cons, List.map_nil, List.length_cons, List.length_nil, List.replicate, List.cons_append, List.nil_append, List.getElem?_cons_zero, List.getElem?_cons_succ, List.set_cons_zero, List.set_cons_succ, Nat.reduceAdd, Nat.reduceSub, Bool.false_eq_true, if_true, if_false, ite_true, ite_false, reduceIte])
local macro_rules | `(tactic| walk_at "cm") => `(tactic| first | exact .inl ⟨by omega, by omega⟩ | exact .inr ⟨by omega, by omega⟩ | exact ⟨by omega, by omega⟩ | omega | decide)
local macro_rules | `(tactic| walk_at "dm") => `(tactic| try simp only [dFld, dMeth, dsFld, lookD, putFD, if_true, if_false, reduceIte])
local macro_rules | `(tactic| walk_at "dx") => `(tactic| try simp only [xSeq, xIf, xLift, xRet, xDrop, xSet, xCall, xMeth, xOp, xCB1, xOwn, dFs3, quiet])
/-- what isinstance tells of plain values -/
def kitB (t u : String) : Bool := decide (t = u) || (decide (t = "bool") && decide (u = "int"))
structure IsaP (isa : Value → Value → Option Bool) : Prop where
  of_ : ∀ t ∈ tys, ∀ u ∈ ["int", "bool", "str", "list", "tuple"], isa (.type t) (.type u) = some (kitB t u)
inductive TyC (x : D) : String → Prop where
  | bl (b : Bool) (e : x = .bl b) : TyC x "bool"
  | int (i : Int) (e : x = .int i) : TyC x "int"
  | str (s : Str) (e : x = .str s) : TyC x "str"
  | other {t : String} (e : t ∉ ["bool", "int", "str"]) (n : ∀ m, isNumB x m = false) (k : ∀ ns, isNameOf x ns = false) : TyC x t
theorem ty_c {μ : Mu} {x : D} {t : String} (h : TyD μ x (.type t)) : TyC x t := by
  generalize e : Value.type t = v at h
  cases h <;> cases e
  · exact .other (by decide) (fun _ => rfl) fun _ => rfl
  · exact .bl _ rfl
  · exact .int _ rfl
  · exact .str _ rfl
  · exact .other (by decide) (fun _ => rfl) fun _ => rfl
  · exact .other (by decide) (fun _ => rfl) fun _ => rfl
  · exact .other (by decide) (fun _ => rfl) fun _ => rfl
  · exact .other (by decide) (fun _ => rfl) fun _ => rfl
theorem isi_any {isa : Value → Value → Option Bool} (ok : IsaP isa) {x : D} {t u : String} {μ : Mu} {Q : DK} (h : TyD μ x (.type t)) (ht : t ∈ tys) (hu : u ∈ ["int", "bool", "str", "list", "tuple"]) (q : Q (.bl (kitB t u)) μ) : dIsi isa [x, .ty u] μ Q :=
  ⟨_, _, _, _, rfl, .ty u, .inl ⟨_, h, ok.of_ t ht u hu⟩, q⟩
theorem LcB.filtG {m : Bool} {items : List D} {keep : Mu → Prop} {g : DG} {tt : TTd} {te : TD} {vs : List Nat} {ds : DSl} {μ : Mu} {Q : DK} (p : D → Bool) (f : D → D) (hk : keep μ) (hl : items.length ≤ 1000000)
    (h : ∀ (j : Nat) (d : D) (Y : DK) (N : Mu → Prop), items[j]? = some d → (p d = true → Y (f d) μ) → (p d = false → N μ) → g d (wipeD ds vs) μ fun ds2 μ2 => tt ds2 μ2 fun b μ3 => if b = true then te ds2 μ3 Y else N μ3) (hQ : newLst m ((items.filter p).map f) μ Q) : LcB m items keep g tt te vs ds μ Q := by
  refine ⟨fun j acc ν => acc = ((items.take j).filter p).map f ∧ ν = μ, ⟨rfl, rfl⟩, fun j acc ν _ h => h.2 ▸ hk, fun j d acc ν hd h1 => ?_, fun acc ν h1 => ?_⟩
  · obtain ⟨rfl, rfl⟩ := h1
    have hj : j < items.length := (List.getElem?_eq_some_iff.mp hd).1
    have hle : ((items.take j).filter p).length ≤ j := Nat.le_trans (List.length_filter_le _ _) (by rw [List.length_take]; omega)
    have step : (items.take (j + 1)).filter p = (items.take j).filter p ++ (if p d = true then [d] else []) := by
      rw [List.take_add_one, hd, List.filter_append]
      simp [List.filter_cons]
    refine ⟨small (by rw [List.length_map]; omega), ?_⟩
    refine h j d _ _ hd (fun hp => ⟨?_, rfl⟩) fun hp => ⟨?_, rfl⟩
    · rw [step, hp, if_pos rfl, List.map_append]
      rfl
    · rw [step, hp, if_neg (by simp), List.append_nil]
  · obtain ⟨rfl, rfl⟩ := h1
    rw [List.take_length]; exact hQ
namespace K20
theorem rd_is_number {isa : Value → Value → Option Bool} (ok : IsaP isa) : ∀ ds μ Q, P_is_number ds μ Q → td_is_number isa { nx := fun _ μ' => GhQ Q .non μ', rt := GhQ Q } (startD N_is_number ds) μ := by
  rintro ds μ Q ⟨x, m, rfl, ⟨t, ht, hm⟩, q⟩
  have q' : GhQ Q _ μ := .self q
  unfold td_is_number N_is_number
  walk_at "dd"
  refine isi_any ok ht hm (by decide) ?_
  cases ty_c ht with
  | bl b e =>
    subst e
    rw [show kitB "bool" "int" = true from by decide]
    walk_at "dd"
    refine isi_any ok ht hm (by decide) ?_
    rw [show kitB "bool" "bool" = true from by decide]
    refine ⟨trivial, ?_⟩
    exact q'
  | int i e =>
    subst e
    rw [show kitB "int" "int" = true from by decide]
    walk_at "dd"
    refine isi_any ok ht hm (by decide) ?_
    rw [show kitB "int" "bool" = false from by decide]
    refine ⟨trivial, ?_⟩
    show (if decide (0 ≤ i) = true then GhQ Q (.bl (decide (i ≤ m))) μ else GhQ Q (.bl false) μ)
    have q' : GhQ Q (.bl (decide (0 ≤ i) && decide (i ≤ m))) μ := q'
    by_cases h0 : (0 : Int) ≤ i
    · rw [decide_eq_true h0] at q' ⊢
      rw [if_pos rfl]; exact q'
    · rw [decide_eq_false h0] at q' ⊢
      rw [if_neg Bool.false_ne_true]; exact q'
  | str s e =>
    subst e
    exact q'
  | other e n k =>
    have h1 : kitB t "int" = false := by
      unfold kitB
      rw [decide_eq_false fun z => e (by rw [z]; decide), decide_eq_false fun z => e (by rw [z]; decide)]
      rfl
    rw [h1]
    rw [n m] at q'
    exact q'
theorem rd_is_point : ∀ ds μ Q, P_is_point ds μ Q → td_is_point { nx := fun _ μ' => GhQ Q .non μ', rt := GhQ Q } (startD N_is_point ds) μ := by
  rintro ds μ Q ⟨x, rfl, h, q⟩
  exact ⟨x, 31, rfl, h, .self q⟩
theorem rd_is_name_of {isa : Value → Value → Option Bool} (ok : IsaP isa) : ∀ ds μ Q, P_is_name_of ds μ Q → td_is_name_of isa { nx := fun _ μ' => GhQ Q .non μ', rt := GhQ Q } (startD N_is_name_of ds) μ := by
  rintro ds μ Q ⟨x, y, ns, rfl, ⟨t, ht, hm⟩, hs, q⟩
  have q' : GhQ Q _ μ := .self q
  unfold td_is_name_of N_is_name_of
  walk_at "dd"
  refine isi_any ok ht hm (by decide) ?_
  cases ty_c ht with
  | bl b e => subst e; exact q'
  | int i e => subst e; exact q'
  | str s e =>
    subst e
    show dIn false (.str s) y μ _
    have all : (ns.map D.str).all flatD = true := by rw [List.all_map]; exact List.all_eq_true.mpr fun _ _ => rfl
    have fin : ∃ xs, SeqD μ y xs ∧ flatD (.str s) = true ∧ xs.all flatD = true ∧ GhQ Q (.bl (inD (.str s) xs)) μ := ⟨_, hs, rfl, all, by rw [inD_strs]; exact q'⟩
    cases y <;> first | exact fin | exact hs.elim
  | other e n k =>
    have h1 : kitB t "str" = false := by
      unfold kitB
      rw [decide_eq_false fun z => e (by rw [z]; decide), decide_eq_false (p := "str" = "int") (by decide), Bool.and_false]
      rfl
    rw [h1]
    rw [k ns] at q'
    exact q'
theorem rd_check_point {BadPoint : Addr} : ∀ ds μ Q E, P_check_point BadPoint ds μ Q E → td_check_point BadPoint (fun C fs _ μ' => GhE E C fs μ') { nx := fun _ μ' => GhQ Q .non μ', rt := GhQ Q } (startD N_check_point ds) μ := by
  rintro ds μ Q E ⟨x, c, rfl, h, hc, q⟩
  unfold td_check_point N_check_point
  walk_at "dx"
  walk_at "dd"
  refine ⟨x, rfl, h, ?_⟩
  by_cases e : isNumB x 31 = true
  · rw [e] at q ⊢
    exact ⟨trivial, .self q⟩
  · have e' : isNumB x 31 = false := by simpa using e
    rw [if_neg e] at q
    rw [e']
    exact ⟨trivial, _, rfl, by omega, μ, (fun _ _ h => h), q⟩
theorem rd_shows : ∀ ds μ Q, P_shows ds μ Q → td_shows { nx := fun _ μ' => GhQ Q .non μ', rt := GhQ Q } (startD N_shows ds) μ := by
  rintro ds μ Q ⟨a, b, c, rfl, q⟩
  unfold td_shows N_shows
  walk_at "dd"
  exact ⟨by decide, by decide, .self q⟩
theorem filt_lamps {ls : List Lamp} {b : Int} {p : D → Bool} {f : D → D} (hp : ∀ l ∈ ls, p (lampD l) = shows b l) (hf : ∀ l ∈ ls, f (lampD l) = .str l.1) : ((ls.map lampD).filter p).map f = (colOf ls b).map .str := by
  unfold colOf
  induction ls with
  | nil => rfl
  | cons l ls ih =>
    have ih' := ih (fun x hx => hp x (List.mem_cons_of_mem _ hx)) fun x hx => hf x (List.mem_cons_of_mem _ hx)
    rw [List.map_cons, List.filter_cons, List.filter_cons, hp l List.mem_cons_self]
    by_cases e : shows b l = true
    · rw [if_pos e, if_pos e, List.map_cons, List.map_cons, List.map_cons, ih', hf l List.mem_cons_self]
    · rw [if_neg e, if_neg e]; exact ih'
def lampB (b : Int) : D → Bool
  | .tup [.str _, .int a, .int c] => decide ((b - a) % 32 ≤ (c - a) % 32)
  | _ => false
def headOf : D → D
  | .tup (x :: _) => x
  | _ => .non
theorem keep_seq {μ : Mu} {x : D} {xs : List D} (h : SeqD μ x xs) : keepOf x xs μ := by
  cases x <;> first | trivial | exact h | exact h.elim
theorem rd_colours_at : ∀ ds μ Q, P_colours_at ds μ Q → td_colours_at { nx := fun _ μ' => GhQ Q .non μ', rt := GhQ Q } (startD N_colours_at ds) μ := by
  rintro ds μ Q ⟨x, ls, b, rfl, hs, hl, q⟩
  have q' : GhQ Q _ μ := .self q
  unfold td_colours_at N_colours_at
  walk_at "dd"
  refine ⟨_, hs, ?_⟩
  refine LcB.filtG (lampB b) headOf (keep_seq hs) (by rw [List.length_map]; omega) (fun j d Y N hd hy hn => ?_) ?_
  · obtain ⟨l, hl, rfl⟩ := map_get hd
    unfold lampD
    walk_at "dd"
    refine ⟨trivial, _, _, _, rfl, trivial, ?_⟩
    show if shows b l = true then _ else _
    by_cases e : shows b l = true
    · rw [if_pos e]; exact hy e
    · rw [if_neg e]; exact hn (show shows b l = false by simpa using e)
  · rw [filt_lamps (b := b) (fun _ _ => rfl) fun _ _ => rfl]
    exact ⟨_, rfl, q'⟩
end K20
end DL
set_option Elab.async false
set_option linter.all false
set_option maxRecDepth 100000
set_option maxHeartbeats 4000001
namespace DL.K20
open PySem L2 TL
local macro_rules | `(tactic| walk_at "dd") => `(tactic| try simp only [dSeq, dAsg, dgName, dgTup, dgSub, dOp, dVar, dC, dAdd, dSub, dMul, dMod, dFDiv, dPow, dCmp, dNeg, dEqn, dIsN, dIx, dTup, dLst, dConsA, dNilA, dCB, dCall, dRet, dRetN, dDrop, dIfS, dNext, dBreak, dCont, dTest, dTru, dAndT, dOrT, dNotT, dAndV, dOrV, dNotV, dIf, dChain, dDGet, dDPut, dM1, dM0, dJoin, dSplit, dUpper, dBML, dAppend, dInsert, dPopAt, dLen, dInt, dStr, dTupOf, dListOf, dMax2, dSum, dAll, dSl, dPart, dNoPart, newLst, keyD, dFor, dLc, diSeq, diRng1, diRng2, diEnum, diEnumS, diStr,
  startD, setAll, wipeD, List.map_cons, List.map_nil, List.length_cons, List.length_nil, List.replicate, List.cons_append, List.nil_append, List.getElem?_cons_zero, List.getElem?_cons_succ, List.set_cons_zero, List.set_cons_succ, Nat.reduceAdd, Nat.reduceSub, Bool.false_eq_true, if_true, if_false, ite_true, ite_false, reduceIte])
local macro_rules | `(tactic| walk_at "cm") => `(tactic| first | exact .inl ⟨by omega, by omega⟩ | exact .inr ⟨by omega, by omega⟩ | exact ⟨by omega, by omega⟩ | omega | decide)
local macro_rules | `(tactic| walk_at "dm") => `(tactic| try simp only [dFld, dMeth, dsFld, lookD, putFD, if_true, if_false, reduceIte])
local macro_rules | `(tactic| walk_at "dx") => `(tactic| try simp only [xSeq, xIf, xLift, xRet, xDrop, xSet, xCall, xMeth, xOp, xCB1, xOwn, dFs3, quiet])
theorem rd_kind_row : ∀ ds μ Q, P_kind_row ds μ Q → td_kind_row { nx := fun _ μ' => GhQ Q .non μ', rt := GhQ Q } (startD N_kind_row ds) μ := by
  rintro ds μ Q ⟨k, rfl, hl, q⟩
  have q' : GhQ Q _ μ := .self q
  unfold td_kind_row N_kind_row kindD
  walk_at "dd"
  refine ⟨trivial, _, rfl, LcB.pure id trivial (by rw [List.length_map]; omega) (fun j d Qd hd y => ?_) ?_⟩
  · obtain ⟨l, hl, rfl⟩ := map_get hd
    unfold lampD
    walk_at "dd"
    exact y
  · rw [List.map_id]
    exact ⟨_, rfl, by show 3 ≤ sizeLine; decide, q'⟩
theorem f_cr : ¬ ("_colours" : Str) = "_rows" := by decide +kernel
def flF (f : Flt) : List (Str × D) := [("_colours", .tup (f.1.map .str)), ("_rows", .tup (f.2.map kindD))]
theorem fl_c {f} : lookD "_colours" (flF f) = some (.tup (f.1.map .str)) := by unfold flF lookD; rw [if_pos rfl]
theorem fl_r {f} : lookD "_rows" (flF f) = some (.tup (f.2.map kindD)) := by unfold flF lookD; rw [if_neg f_cr]; unfold lookD; rw [if_pos rfl]
theorem fl_no {f} {m : Str} (h1 : ¬ ("_colours" : Str) = m) (h2 : ¬ ("_rows" : Str) = m) : lookD m (flF f) = none := by
  unfold flF lookD; rw [if_neg h1]; unfold lookD; rw [if_neg h2]; rfl
theorem rd_Fleet___init__ {Fleet : Addr} : ∀ ds μ Q, P_Fleet___init__ Fleet ds μ Q → td_Fleet___init__ Fleet { nx := fun _ μ' => GhQ Q .non μ', rt := GhQ Q } (startD N_Fleet___init__ ds) μ := by
  rintro ds μ Q ⟨a, f, rfl, ha, ⟨f1, f2, f3⟩, q⟩
  have q' : GhQ Q _ _ := .self q
  unfold td_Fleet___init__ N_Fleet___init__ fleetD
  walk_at "dd"
  refine ⟨trivial, ?_⟩
  unfold dsFld
  walk_at "dd"
  refine ⟨_, ha, Nat.zero_lt_succ _, ?_⟩
  refine ⟨_, rfl, LcB.pure id trivial (by rw [List.length_map]; omega) (fun j d Qd hd y => ?_) ?_⟩
  · obtain ⟨k, hk, rfl⟩ := map_get hd
    walk_at "dd"
    exact ⟨k, rfl, f3 k (List.mem_of_getElem? hk), y⟩
  · rw [List.map_id]
    refine ⟨_, rfl, _, put_same, by show 1 < 1000; decide, ?_⟩
    rw [put_put]
    have e : putFD "_rows" (.tup (f.2.map kindD)) (putFD "_colours" (.tup (f.1.map .str)) []) = flF f := by
      have e1 : putFD "_colours" (.tup (f.1.map .str)) [] = [(("_colours" : Str), D.tup (f.1.map .str))] := rfl
      rw [e1]
      unfold putFD
      rw [if_neg f_cr]
      rfl
    rw [e]
    exact q'
theorem rd_Fleet_plain {Fleet : Addr} : ∀ ds μ Q, P_Fleet_plain Fleet ds μ Q → td_Fleet_plain Fleet { nx := fun _ μ' => GhQ Q .non μ', rt := GhQ Q } (startD N_Fleet_plain ds) μ := by
  rintro ds μ Q ⟨a, f, rfl, ha, q⟩
  unfold td_Fleet_plain N_Fleet_plain dFld
  walk_at "dd"
  exact ⟨_, _, ha, fl_c, _, _, ha, fl_r, by show 2 ≤ sizeLine; decide, .self q⟩
theorem rd_Fleet_kinds {Fleet : Addr} : ∀ ds μ Q, P_Fleet_kinds Fleet ds μ Q → td_Fleet_kinds Fleet { nx := fun _ μ' => GhQ Q .non μ', rt := GhQ Q } (startD N_Fleet_kinds ds) μ := by
  rintro ds μ Q ⟨a, f, rfl, ha, ⟨f1, f2, f3⟩, q⟩
  unfold td_Fleet_kinds N_Fleet_kinds dFld
  walk_at "dd"
  refine ⟨_, _, ha, fl_r, _, rfl, LcB.pure headOf trivial (by rw [List.length_map]; omega) (fun j d Qd hd y => ?_) ?_⟩
  · obtain ⟨k, hk, rfl⟩ := map_get hd
    unfold kindD
    walk_at "dd"
    exact ⟨_, _, rfl, rfl, y⟩
  · intro p hp
    rw [List.map_map]
    have e : f.2.map (headOf ∘ kindD) = (f.2.map (·.1)).map D.str := by rw [List.map_map]; rfl
    rw [e]
    exact .self (q p hp)
/-- the place of a kind -/
theorem kind_at {f : Flt} {s : Str} : match f.2.find? (fun k : Kind => decide (k.1 = s)) with
    | some k => isNameOf (.str s) (f.2.map (·.1)) = true ∧ ∃ j : Nat, f.2[j]? = some k ∧ (f.2.map (·.1))[j]? = some s ∧ ∀ (m : Nat) (z : Str), m < j → (f.2.map (·.1))[m]? = some z → z ≠ s
    | none => isNameOf (.str s) (f.2.map (·.1)) = false := by
  cases e : f.2.find? (fun k : Kind => decide (k.1 = s)) with
  | none =>
    show decide _ = false
    refine decide_eq_false fun h => ?_
    obtain ⟨k, hk, e2⟩ := List.mem_map.mp h
    have := List.find?_eq_none.mp e k hk
    simp [e2] at this
  | some k =>
    have hk := List.mem_of_find?_eq_some e
    have e1 : k.1 = s := by simpa using List.find?_some e
    refine ⟨decide_eq_true (List.mem_map.mpr ⟨k, hk, e1⟩), ?_⟩
    obtain ⟨_, as, bs, e2, e3⟩ := List.find?_eq_some_iff_append.mp e
    refine ⟨as.length, by rw [e2]; simp, by rw [e2]; simp [e1], fun m z hm hz => ?_⟩
    rw [e2, List.map_append, List.getElem?_append_left (by rw [List.length_map]; exact hm), List.getElem?_map] at hz
    cases e4 : as[m]? with
    | none => rw [e4] at hz; cases hz
    | some y =>
      rw [e4] at hz
      cases hz
      have := e3 y (List.mem_of_getElem? e4)
      simpa using this
theorem any_fr {μ : Mu} {x : D} {p : Addr} {o : MO} (h : Any μ x) (hp : μ p = none) : Any (put μ p o) x := by
  obtain ⟨t, ht, hm⟩ := h
  refine ⟨t, ?_, hm⟩
  generalize Value.type t = v at ht ⊢
  cases ht with
  | non => exact .non
  | bl b => exact .bl b
  | int b => exact .int b
  | str b => exact .str b
  | lst b => exact .lst b
  | tup b => exact .tup b
  | objL h => exact .objL (by rw [put_ne fun e => by rw [e, hp] at h; cases h]; exact h)
  | objD h => exact .objD (by rw [put_ne fun e => by rw [e, hp] at h; cases h]; exact h)
theorem no_kind {f : Flt} {x : D} (h : kindIn f x = none) : isNameOf x (f.2.map (·.1)) = false := by
  cases x <;> try rfl
  rename_i s
  have := kind_at (f := f) (s := s)
  rw [show f.2.find? (fun k : Kind => decide (k.1 = s)) = none from h] at this
  exact this
theorem rd_Fleet__row {Fleet NoKind : Addr} : ∀ ds μ Q E, P_Fleet__row Fleet NoKind ds μ Q E → td_Fleet__row Fleet NoKind (fun C fs _ μ' => GhE E C fs μ') { nx := fun _ μ' => GhQ Q .non μ', rt := GhQ Q } (startD N_Fleet__row ds) μ := by
  rintro ds μ Q E ⟨a, f, x, rfl, ha, few, hx, q⟩
  unfold td_Fleet__row N_Fleet__row
  walk_at "dx"
  walk_at "dd"
  unfold dMeth
  walk_at "dd"
  refine ⟨⟨_, ha, fl_no (by decide +kernel) (by decide +kernel)⟩, a, f, rfl, ha, few, fun p hp => ?_⟩
  walk_at "dd"
  have hpa : a ≠ p := fun e => by rw [e] at ha; unfold FleetAt at ha; rw [hp] at ha; cases ha
  have ha2 : (put μ p (.lst ((f.2.map (·.1)).map .str))) a = some (.ins Fleet (flF f)) := by rw [put_ne hpa]; exact ha
  have sub : SubM μ (put μ p (.lst ((f.2.map (·.1)).map .str))) := fun b m e => by
    rw [put_ne fun z => by rw [z, hp] at e; cases e]; exact e
  refine ⟨x, .obj p, f.2.map (fun k : Kind => k.1), rfl, any_fr hx hp, put_same, trivial, ?_⟩
  cases ek : kindIn f x with
  | none =>
    rw [ek] at q
    rw [no_kind ek]
    exact ⟨μ, sub, q⟩
  | some k =>
    rw [ek] at q
    cases x with
    | str s =>
      have ka := kind_at (f := f) (s := s)
      rw [show f.2.find? (fun k : Kind => decide (k.1 = s)) = some k from ek] at ka
      obtain ⟨h1, j, h2, h3, h4⟩ := ka
      rw [h1]
      show (if true = true then dFld _ _ _ _ _ _ else _)
      rw [if_pos rfl]
      unfold dFld
      walk_at "dd"
      refine ⟨_, _, ha2, fl_r, ⟨_, put_same⟩, ?_⟩
      show dIndex _ _ _ _
      refine ⟨_, j, put_same, h3, h4, ?_⟩
      have hj : j < f.2.length := (List.getElem?_eq_some_iff.mp h2).1
      refine ⟨_, kindD k, rfl, atI_some (Int.natCast_nonneg _) (by rw [Int.toNat_natCast, List.getElem?_map, h2]; rfl), .sub sub q⟩
    | _ => cases ek
theorem rd_Fleet_turn {Fleet NoKind : Addr} : ∀ ds μ Q E, P_Fleet_turn Fleet NoKind ds μ Q E → td_Fleet_turn Fleet NoKind (fun C fs _ μ' => GhE E C fs μ') { nx := fun _ μ' => GhQ Q .non μ', rt := GhQ Q } (startD N_Fleet_turn ds) μ := by
  rintro ds μ Q E ⟨a, f, x, rfl, ha, few, hx, q⟩
  unfold td_Fleet_turn N_Fleet_turn
  walk_at "dx"
  walk_at "dd"
  refine ⟨⟨_, ha, fl_no (by decide +kernel) (by decide +kernel)⟩, a, f, x, rfl, ha, few, hx, ?_⟩
  cases ek : kindIn f x with
  | none => rw [ek] at q; exact ⟨μ, (fun _ _ h => h), q⟩
  | some k =>
    rw [ek] at q
    dsimp only at q ⊢
    unfold kindD
    walk_at "dd"
    exact ⟨_, _, rfl, rfl, .self q⟩
theorem rd_Fleet_lamps {Fleet NoKind : Addr} : ∀ ds μ Q E, P_Fleet_lamps Fleet NoKind ds μ Q E → td_Fleet_lamps Fleet NoKind (fun C fs _ μ' => GhE E C fs μ') { nx := fun _ μ' => GhQ Q .non μ', rt := GhQ Q } (startD N_Fleet_lamps ds) μ := by
  rintro ds μ Q E ⟨a, f, x, rfl, ha, few, hx, q⟩
  unfold td_Fleet_lamps N_Fleet_lamps
  walk_at "dx"
  walk_at "dd"
  refine ⟨⟨_, ha, fl_no (by decide +kernel) (by decide +kernel)⟩, a, f, x, rfl, ha, few, hx, ?_⟩
  cases ek : kindIn f x with
  | none => rw [ek] at q; exact ⟨μ, (fun _ _ h => h), q⟩
  | some k =>
    rw [ek] at q
    dsimp only at q ⊢
    unfold kindD
    walk_at "dd"
    exact ⟨_, _, rfl, rfl, _, rfl, .self q⟩
theorem few_kind {f : Flt} {x : D} {k : Kind} (few : Few f) (h : kindIn f x = some k) : k.2.2.length ≤ 1000 := by
  cases x <;> try cases h
  exact few.2.2 k (List.mem_of_find?_eq_some h)
theorem num_int {y : D} {m : Int} (h : isNumB y m = true) : ∃ b, y = .int b := by
  cases y <;> first | exact ⟨_, rfl⟩ | cases h
theorem rd_column {Fleet NoKind BadPoint : Addr} : ∀ ds μ Q E, P_column Fleet NoKind BadPoint ds μ Q E → td_column Fleet NoKind BadPoint (fun C fs _ μ' => GhE E C fs μ') { nx := fun _ μ' => GhQ Q .non μ', rt := GhQ Q } (startD N_column ds) μ := by
  rintro ds μ Q E ⟨a, f, x, y, rfl, ha, few, hx, hy, q⟩
  unfold td_column N_column
  walk_at "dx"
  walk_at "dd"
  refine ⟨⟨_, ha, fl_no (by decide +kernel) (by decide +kernel)⟩, a, f, x, rfl, ha, few, hx, ?_⟩
  cases ek : kindIn f x with
  | none => rw [ek] at q; exact ⟨μ, (fun _ _ h => h), q⟩
  | some k =>
    rw [ek] at q
    dsimp only at q ⊢
    walk_at "dd"
    refine ⟨y, "bearing", rfl, hy, by decide +kernel, ?_⟩
    by_cases e : isNumB y 31 = true
    · rw [if_pos e] at q ⊢
      obtain ⟨b, rfl⟩ := num_int e
      exact ⟨_, _, _, rfl, rfl, few_kind few ek, .self (q b rfl)⟩
    · rw [if_neg e] at q ⊢
      exact ⟨μ, (fun _ _ h => h), q⟩
theorem rd_seen {Fleet NoKind BadPoint : Addr} : ∀ ds μ Q E, P_seen Fleet NoKind BadPoint ds μ Q E → td_seen Fleet NoKind BadPoint (fun C fs _ μ' => GhE E C fs μ') { nx := fun _ μ' => GhQ Q .non μ', rt := GhQ Q } (startD N_seen ds) μ := by
  rintro ds μ Q E ⟨a, f, x, y, z, rfl, ha, few, hx, hy, hz, q⟩
  unfold td_seen N_seen
  walk_at "dx"
  walk_at "dd"
  refine ⟨⟨_, ha, fl_no (by decide +kernel) (by decide +kernel)⟩, a, f, x, rfl, ha, few, hx, ?_⟩
  cases ek : kindIn f x with
  | none => rw [ek] at q; exact ⟨μ, (fun _ _ h => h), q⟩
  | some k =>
    rw [ek] at q
    dsimp only at q ⊢
    walk_at "dd"
    refine ⟨y, "course", rfl, hy, by decide +kernel, ?_⟩
    by_cases e : isNumB y 31 = true
    · rw [if_pos e] at q ⊢
      walk_at "dd"
      refine ⟨z, "side", rfl, hz, by decide +kernel, ?_⟩
      by_cases e2 : isNumB z 31 = true
      · rw [if_pos e2] at q ⊢
        obtain ⟨b, rfl⟩ := num_int e
        obtain ⟨c, rfl⟩ := num_int e2
        walk_at "dd"
        exact ⟨by decide, _, _, _, rfl, rfl, few_kind few ek, .self (q b c rfl rfl)⟩
      · rw [if_neg e2] at q ⊢
        exact ⟨μ, (fun _ _ h => h), q⟩
    · rw [if_neg e] at q ⊢
      exact ⟨μ, (fun _ _ h => h), q⟩
end DL.K20
set_option Elab.async false
set_option linter.all false
set_option maxRecDepth 100000
set_option maxHeartbeats 4000001
namespace DL
open PySem L2 TL K20
local macro_rules | `(tactic| walk_at "dd") => `(tactic| try simp only [dSeq, dAsg, dgName, dgTup, dgSub, dOp, dVar, dC, dAdd, dSub, dMul, dMod, dFDiv, dPow, dCmp, dNeg, dEqn, dIsN, dIx, dTup, dLst, dConsA, dNilA, dCB, dCall, dRet, dRetN, dDrop, dIfS, dNext, dBreak, dCont, dTest, dTru, dAndT, dOrT, dNotT, dAndV, dOrV, dNotV, dIf, dChain, dDGet, dDPut, dM1, dM0, dJoin, dSplit, dUpper, dBML, dAppend, dInsert, dPopAt, dLen, dInt, dStr, dTupOf, dListOf, dMax2, dSum, dAll, dSl, dPart, dNoPart, newLst, keyD, dFor, dLc, diSeq, diRng1, diRng2, diEnum, diEnumS, diStr,
  startD, setAll, wipeD, List.map_cons, List.map_nil, List.length_cons, List.length_nil, List.replicate, List.cons_append, List.nil_append, List.getElem?_cons_zero, List.getElem?_cons_succ, List.set_cons_zero, List.set_cons_succ, Nat.reduceAdd, Nat.reduceSub, Bool.false_eq_true, if_true, if_false, ite_true, ite_false, reduceIte])
local macro_rules | `(tactic| walk_at "cm") => `(tactic| first | exact .inl ⟨by omega, by omega⟩ | exact .inr ⟨by omega, by omega⟩ | exact ⟨by omega, by omega⟩ | omega | decide)
/-- what isinstance tells of the errors -/
structure ErrIsa (R : List Str) (isa : Value → Value → Option Bool) (c : Er) : Prop where
  of_ : ∀ p ∈ c.row, p.2 ∈ R → ∀ q ∈ c.row, isa (.ref p.1) (.ref q.1) = some (decide (p.2 = q.2))
  val : ∀ p ∈ c.row, p.2 ∈ R → isa (.ref p.1) (.type "ValueError") = some true
theorem isi_err {R : List Str} {isa : Value → Value → Option Bool} {c : Er} (ok : ErrIsa R isa c) {C D : Addr} {w1 w2 : Str} {fs : List (Str × Int)} {μ : Mu} {Q : DK} (h1 : (C, w1) ∈ c.row) (hr : w1 ∈ R) (h2 : (D, w2) ∈ c.row) (q : Q (.bl (decide (w1 = w2))) μ) : dIsi isa [.exc C fs, .obj D] μ Q :=
  ⟨_, _, _, _, rfl, .own D, .inr ⟨C, fs, rfl, ok.of_ _ h1 hr _ h2⟩, q⟩
def words9 : List Str := ["text", "kind", "point", "sight", "full", "moment", "boats", "many", "foe"]
theorem row_words (c : Er) : c.row.map (·.2) = words9 := rfl
theorem words_one : ∀ w ∈ words9, words9.filter (fun x => decide (w = x)) = [w] := by decide +kernel
def wPair (w x : Str) : D := .tup [.str x, .bl (decide (w = x))]
def sndB : D → Bool
  | .tup [_, .bl b] => b
  | _ => false
theorem filt_words (w : Str) (ws : List Str) : ((ws.map (wPair w)).filter sndB).map headOf = (ws.filter fun x => decide (w = x)).map D.str := by
  rw [List.filter_map, List.map_map]
  rfl
theorem join_one (a w : Str) : Txt.join a [w] = w := by
  first | rfl | simp [Txt.join]
namespace K20
theorem rd__law_word {R : List Str} {isa : Value → Value → Option Bool} {BadText NoKind BadPoint BadSight Full BadMoment BadBoats BadMany NoFoe : Addr} (ok : ErrIsa R isa ⟨BadText, NoKind, BadPoint, BadSight, Full, BadMoment, BadBoats, BadMany, NoFoe⟩) : ∀ ds μ Q, P_lw R BadText NoKind BadPoint BadSight Full BadMoment BadBoats BadMany NoFoe ds μ Q →
    td__law_word isa BadPoint NoKind BadText Full BadSight BadBoats BadMoment NoFoe BadMany { nx := fun _ μ' => GhQ Q .non μ', rt := GhQ Q } (startD N__law_word ds) μ := by
  rintro ds μ Q ⟨C, fs, wd, rfl, hm, hrw, q⟩
  unfold td__law_word N__law_word
  have hw : wd ∈ words9 := by rw [← row_words ⟨BadText, NoKind, BadPoint, BadSight, Full, BadMoment, BadBoats, BadMany, NoFoe⟩]; exact List.mem_map.mpr ⟨_, hm, rfl⟩
  walk_at "dd"
  refine isi_err ok hm hrw (w2 := "text") (.head _) ⟨by show 2 ≤ sizeLine; decide, ?_⟩
  refine isi_err ok hm hrw (w2 := "kind") (.tail _ (.head _)) ⟨by show 2 ≤ sizeLine; decide, ?_⟩
  refine isi_err ok hm hrw (w2 := "point") (.tail _ (.tail _ (.head _))) ⟨by show 2 ≤ sizeLine; decide, by show 3 ≤ sizeLine; decide, ?_⟩
  walk_at "dd"
  refine isi_err ok hm hrw (w2 := "sight") (.tail _ (.tail _ (.tail _ (.head _)))) ⟨by show 2 ≤ sizeLine; decide, ?_⟩
  refine isi_err ok hm hrw (w2 := "full") (.tail _ (.tail _ (.tail _ (.tail _ (.head _))))) ⟨by show 2 ≤ sizeLine; decide, by show 2 ≤ sizeLine; decide, ?_⟩
  walk_at "dd"
  refine ⟨_, _, rfl, rfl, by show 5 ≤ sizeLine; decide, ?_⟩
  walk_at "dd"
  refine isi_err ok hm hrw (w2 := "moment") (.tail _ (.tail _ (.tail _ (.tail _ (.tail _ (.head _)))))) ⟨by show 2 ≤ sizeLine; decide, ?_⟩
  refine isi_err ok hm hrw (w2 := "boats") (.tail _ (.tail _ (.tail _ (.tail _ (.tail _ (.tail _ (.head _))))))) ⟨by show 2 ≤ sizeLine; decide, by show 2 ≤ sizeLine; decide, ?_⟩
  walk_at "dd"
  refine ⟨_, _, rfl, rfl, by show 7 ≤ sizeLine; decide, ?_⟩
  walk_at "dd"
  refine isi_err ok hm hrw (w2 := "many") (.tail _ (.tail _ (.tail _ (.tail _ (.tail _ (.tail _ (.tail _ (.head _)))))))) ⟨by show 2 ≤ sizeLine; decide, ?_⟩
  refine isi_err ok hm hrw (w2 := "foe") (.tail _ (.tail _ (.tail _ (.tail _ (.tail _ (.tail _ (.tail _ (.tail _ (.head _))))))))) ⟨by show 2 ≤ sizeLine; decide, by show 2 ≤ sizeLine; decide, ?_⟩
  walk_at "dd"
  refine ⟨_, _, rfl, rfl, by show 9 ≤ sizeLine; decide, ?_⟩
  walk_at "dd"
  refine ⟨words9.map (wPair wd), rfl, ?_⟩
  refine LcB.filtG sndB headOf trivial (by rw [List.length_map]; decide) (fun j d Y N hd hy hn => ?_) ?_
  · obtain ⟨x, hx, rfl⟩ := map_get hd
    unfold wPair
    walk_at "dd"
    refine ⟨trivial, trivial, ?_⟩
    show if decide (wd = x) = true then _ else _
    by_cases e : decide (wd = x) = true
    · rw [if_pos e]; exact hy e
    · rw [if_neg e]; exact hn (show decide (wd = x) = false by simpa using e)
  · rw [filt_words, words_one wd hw]
    show 1 ≤ sizeLine ∧ _
    refine ⟨by decide, ⟨_, _, _, _, rfl, .ty _, .inr ⟨C, fs, rfl, ok.val _ hm hrw⟩, trivial, ?_⟩⟩
    show ∃ xs, _ ∧ _
    refine ⟨_, rfl, by decide, by decide, by show 1 * 0 ≤ sizeLine; decide, ?_⟩
    refine ⟨_, _, rfl, rfl, by show 1 + 0 ≤ sizeLine; decide, ?_⟩
    refine ⟨⟨_, rfl⟩, [wd], rfl, ?_, ?_⟩
    · have : ∀ w ∈ words9, ((([w] : List Str).map (·.length)).sum + ([w] : List Str).length * (Str.ofString "/").length ≤ 16777216) := by decide +kernel
      exact this wd hw
    · rw [join_one]
      exact .self q
end K20
end DL
set_option Elab.async false
set_option linter.all false
set_option maxRecDepth 100000
set_option maxHeartbeats 4000001
namespace DL
open PySem L2 TL K20
local macro_rules | `(tactic| walk_at "dd") => `(tactic| try simp only [dSeq, dAsg, dgName, dgTup, dgSub, dOp, dVar, dC, dAdd, dSub, dMul, dMod, dFDiv, dPow, dCmp, dNeg, dEqn, dIsN, dIx, dTup, dLst, dConsA, dNilA, dCB, dCall, dRet, dRetN, dDrop, dIfS, dNext, dBreak, dCont, dTest, dTru, dAndT, dOrT, dNotT, dAndV, dOrV, dNotV, dIf, dChain, dDGet, dDPut, dM1, dM0, dJoin, dSplit, dUpper, dBML, dAppend, dInsert, dPopAt, dLen, dInt, dStr, dTupOf, dListOf, dMax2, dSum, dAll, dSl, dPart, dNoPart, newLst, keyD, dFor, dLc, diSeq, diRng1, diRng2, diEnum, diEnumS, diStr,
  startD, setAll, wipeD, List.map_cons, List.map_nil, List.length_cons, List.length_nil, List.replicate, List.cons_append, List.nil_append, List.getElem?_cons_zero, List.getElem?_cons_succ, List.set_cons_zero, List.set_cons_succ, Nat.reduceAdd, Nat.reduceSub, Bool.false_eq_true, if_true, if_false, ite_true, ite_false, reduceIte])
local macro_rules | `(tactic| walk_at "cm") => `(tactic| first | exact .inl ⟨by omega, by omega⟩ | exact .inr ⟨by omega, by omega⟩ | exact ⟨by omega, by omega⟩ | omega | decide)
theorem inD_ints (x : Int) (ns : List Int) : inD (.int x) (ns.map D.int) = decide (x ∈ ns) := by
  unfold inD
  rw [List.map_map]
  show inV (.int x) (ns.map V.int) = _
  induction ns with
  | nil => rfl
  | cons y ys ih =>
    unfold inV at ih ⊢
    rw [List.map_cons, List.any_cons, ih]
    by_cases e : x = y
    · subst e; simp [eqV]
    · simp [eqV, e, Ne.symm e]
theorem flat_ints (ns : List Int) : (ns.map D.int).all flatD = true := by rw [List.all_map]; exact List.all_eq_true.mpr fun _ _ => rfl
theorem mem_pts {a c b : Int} (ha : 0 ≤ a ∧ a < 32) (hc : 0 ≤ c ∧ c < 32) (hb : 0 ≤ b ∧ b < 32) (s : Str) : decide (b ∈ ptsOf a c) = shows b (s, a, c) := by
  unfold shows ptsOf
  rw [decide_eq_decide]
  show _ ↔ (b - a) % 32 ≤ (c - a) % 32
  constructor
  · intro h
    obtain ⟨i, hi, e⟩ := List.mem_map.mp h
    rw [List.mem_range] at hi
    omega
  · intro h
    refine List.mem_map.mpr ⟨((b - a) % 32).toNat, List.mem_range.mpr (by omega), ?_⟩
    omega
namespace K20
theorem rd__law_points : ∀ ds μ Q, P__law_points ds μ Q → td__law_points { nx := fun _ μ' => GhQ Q .non μ', rt := GhQ Q } (startD N__law_points ds) μ := by
  rintro ds μ Q ⟨a, b, rfl, ha, hb, q⟩
  unfold td__law_points N__law_points
  have hn : ((b - a) % 32).toNat < 32 := by omega
  walk_at "dd"
  refine ⟨by show 1 ≤ sizeLine; decide, fun p hp => ?_⟩
  refine ⟨fun m ds ν => ∃ j, j ≤ ((b - a) % 32).toNat ∧ m = ((b - a) % 32).toNat - j ∧ ds = [some (.int a), some (.int b), some (.obj p)] ∧ ν = put μ p (.lst (((List.range (j + 1)).map fun i => (a + (i : Nat)) % 32).map .int)), ⟨_, 0, Nat.zero_le _, rfl, rfl, ?_⟩, ?_⟩
  · have : (a + ((0 : Nat) : Int)) % 32 = a := by omega
    show put μ p (.lst [.int a]) = put μ p (.lst [.int ((a + ((0 : Nat) : Int)) % 32)])
    rw [this]
  · rintro m ds ν ⟨j, hj, rfl, rfl, rfl⟩
    have last : atI (((List.range (j + 1)).map fun i => (a + (i : Nat)) % 32).map D.int) (-1) = some (.int ((a + (j : Nat)) % 32)) := by
      rw [List.range_succ, List.map_append, List.map_append]
      exact atI_last _ _
    walk_at "dd"
    refine ⟨_, _, put_same, last, ?_⟩
    by_cases e : (a + (j : Nat)) % 32 = b
    · simp only [e, decide_true, Bool.not_true, Bool.false_eq_true, if_false]
      have ej : ((b - a) % 32).toNat = j := by omega
      refine GhQ.fix (fun c m z => ?_) put_same hp ?_
      · exact (put_ne fun y => by rw [y, hp] at z; cases z).trans z
      · have e2 : ptsOf a b = (List.range (j + 1)).map fun i => (a + (i : Nat)) % 32 := by unfold ptsOf; rw [ej]
        rw [← e2]; exact q
    · simp only [decide_eq_false e, Bool.not_false, if_true]
      have ej : j < ((b - a) % 32).toNat := by omega
      refine ⟨⟨_, put_same⟩, _, _, put_same, last, by decide, _, put_same, small (by rw [List.length_map, List.length_map, List.length_range]; omega), ?_⟩
      refine ⟨_, ?_, j + 1, ej, rfl, trivial, ?_⟩
      · omega
      rw [put_put]
      congr 2
      rw [List.range_succ (n := j + 1), List.map_append, List.map_append]
      congr 1
      show [D.int _] = [D.int _]
      congr 2
      show ((a + (j : Nat)) % 32 + 1) % 32 = (a + ((j + 1 : Nat) : Int)) % 32
      omega
def isIn (b : Int) : D → Bool
  | .tup [.str s, .int a, .int c] => shows b (s, a, c)
  | _ => false
theorem rd__law_shown : ∀ ds μ Q, P__law_shown ds μ Q → td__law_shown { nx := fun _ μ' => GhQ Q .non μ', rt := GhQ Q } (startD N__law_shown ds) μ := by
  rintro ds μ Q ⟨cs, ls, b, rfl, hg, hl, hb, q⟩
  unfold td__law_shown N__law_shown
  walk_at "dd"
  refine ⟨_, rfl, LcB.filtG (isIn b) headOf trivial (by rw [List.length_map]; omega) (fun j d Y N hd hy hn => ?_) ?_⟩
  · obtain ⟨l, hl, rfl⟩ := map_get hd
    obtain ⟨g1, g2, g3, g4, g5⟩ := hg l (List.mem_of_getElem? hl)
    unfold lampD
    walk_at "dd"
    refine ⟨trivial, _, _, rfl, ⟨g2, g3⟩, ⟨g4, g5⟩, ?_⟩
    refine ⟨_, rfl, rfl, flat_ints _, ?_⟩
    rw [inD_ints, mem_pts ⟨g2, g3⟩ ⟨g4, g5⟩ hb l.1]
    by_cases e : shows b l = true
    · have e' : shows b (l.1, l.2.1, l.2.2) = true := e
      rw [e', if_neg Bool.false_ne_true]; exact hy e
    · have e' : shows b (l.1, l.2.1, l.2.2) = false := by simpa using e
      rw [e', if_neg Bool.false_ne_true]; exact hn e'
  · rw [filt_lamps (b := b) (fun _ _ => rfl) fun _ _ => rfl]
    exact ⟨_, rfl, .self q⟩
end K20
end DL
set_option Elab.async false
set_option linter.all false
set_option maxRecDepth 100000
set_option maxHeartbeats 4000001
namespace DL
open PySem L2 TL K20 PyProof.Rows
local macro_rules | `(tactic| walk_at "dd") => `(tactic| try simp only [dSeq, dAsg, dgName, dgTup, dgSub, dOp, dVar, dC, dAdd, dSub, dMul, dMod, dFDiv, dPow, dCmp, dNeg, dEqn, dIsN, dIx, dTup, dLst, dConsA, dNilA, dCB, dCall, dRet, dRetN, dDrop, dIfS, dNext, dBreak, dCont, dTest, dTru, dAndT, dOrT, dNotT, dAndV, dOrV, dNotV, dIf, dChain, dDGet, dDPut, dM1, dM0, dJoin, dSplit, dUpper, dBML, dAppend, dInsert, dPopAt, dLen, dInt, dStr, dTupOf, dListOf, dMax2, dSum, dAll, dSl, dPart, dNoPart, newLst, keyD, dFor, dLc, diSeq, diRng1, diRng2, diEnum, diEnumS, diStr,
  startD, setAll, wipeD, List.map_cons, List.map_nil, List.length_cons, List.length_nil, List.replicate, List.cons_append, List.nil_append, List.getElem?_cons_zero, List.getElem?_cons_succ, List.set_cons_zero, List.set_cons_succ, Nat.reduceAdd, Nat.reduceSub, Bool.false_eq_true, if_true, if_false, ite_true, ite_false, reduceIte])
local macro_rules | `(tactic| walk_at "cm") => `(tactic| first | exact .inl ⟨by omega, by omega⟩ | exact .inr ⟨by omega, by omega⟩ | exact ⟨by omega, by omega⟩ | omega | decide)
theorem newLst_f {xs : List D} {μ : Mu} {Q : DK} (h : Q (.lst xs) μ) : newLst false xs μ Q := h
/-- columns of names -/
def ColsOk (items : List D) : Prop := ∀ d ∈ items, ∃ ns : List Str, d = .tup (ns.map .str) ∧ ns.length ≤ 6 ∧ ∀ s ∈ ns, s.length ≤ 6 ∧ Asc s
theorem cols_pd : ∀ {items : List D}, ColsOk items → ∃ ps, pdL items = some ps ∧ ps.length = items.length ∧ ∀ p ∈ ps, SmP p 42 1
  | [], _ => ⟨[], by rw [pdL], rfl, fun _ h => (nomatch h)⟩
  | d :: items, h => by
    obtain ⟨ps, h1, h2, h3⟩ := cols_pd (items := items) fun x hx => h x (List.mem_cons_of_mem _ hx)
    obtain ⟨ns, rfl, l, g⟩ := h d List.mem_cons_self
    refine ⟨.tuple (ns.map .str) :: ps, by rw [pdL, pd, pdL_strs, h1] <;> rfl, by rw [List.length_cons, List.length_cons, h2], fun p hp => ?_⟩
    rcases List.mem_cons.mp hp with rfl | hp
    · refine (SmP.tuple (b := 6) (d := 0) (n := 6) (fun p hp => ?_) (by rw [List.length_map]; exact l)).up (by decide) (Nat.le_refl _)
      obtain ⟨s, hs, rfl⟩ := List.mem_map.mp hp
      exact SmP.str (g s hs).1 (g s hs).2
    · exact h3 p hp
theorem repr_cols {items : List D} (h : ColsOk items) (hl : items.length ≤ 32) : ∃ txt : Str, ∀ (μ : Mu) (Q : DK), Q (.str txt) μ → dRepr [.lst items] μ Q := by
  obtain ⟨ps, h1, h2, h3⟩ := cols_pd h
  refine ⟨(PyData.list ps).shown, fun μ Q q => repr_small (p := .list ps) (by show pd (.lst items) = _; rw [pd, h1]; rfl) rfl (SmP.list (n := 32) h3 (by omega)) (by decide) (by decide) q⟩
theorem name_asc {s : Str} (h : IsName s) : s.length ≤ 6 ∧ Asc s := ⟨h.2.1, fun c hc => Nat.lt_of_le_of_lt (h.2.2.1 c hc).2 (by decide)⟩
namespace K20
/-- the row of bearings, or of sides of a course -/
def colF (ls : List Lamp) (c : Int) : D → D
  | .int s => .tup ((colOf ls ((s - c) % 32)).map .str)
  | _ => .non
theorem cols_ok {f : Flt} {k : Kind} (ok : FleetOk f) (hk : k ∈ f.2) (c : Int) : ColsOk ((rngD 0 32).map (colF k.2.2 c)) := by
  intro d hd
  obtain ⟨x, hx, rfl⟩ := List.mem_map.mp hd
  obtain ⟨i, hi⟩ := List.mem_iff_getElem?.mp hx
  obtain ⟨_, rfl⟩ := rngD_get hi
  obtain ⟨_, _, l1, l6, g⟩ := ok.kg k hk
  refine ⟨_, rfl, Nat.le_trans (colOf_len _ _) l6, fun s hs => ?_⟩
  unfold colOf at hs
  obtain ⟨l, hl, rfl⟩ := List.mem_map.mp hs
  exact name_asc (ok.cn _ (g l (List.mem_filter.mp hl).1).1)
theorem kind_of {f : Flt} {k : Kind} (ok : FleetOk f) (hk : k ∈ f.2) : kindIn f (.str k.1) = some k := by
  show f.2.find? (fun x : Kind => decide (x.1 = k.1)) = some k
  have nd := ok.kd
  generalize f.2 = ks at hk nd
  induction ks with
  | nil => cases hk
  | cons x xs ih =>
    rw [List.map_cons, List.nodup_cons] at nd
    rw [List.find?_cons]
    rcases List.mem_cons.mp hk with rfl | hk
    · simp
    · have : x.1 ≠ k.1 := fun e => nd.1 (List.mem_map.mpr ⟨k, hk, e.symm⟩)
      rw [decide_eq_false this]
      exact ih hk nd.2
theorem few_ok {f : Flt} (ok : FleetOk f) : Few f := ⟨by have := ok.c6; omega, by have := ok.k6; omega, fun k hk => by have := (ok.kg k hk).2.2.2.1; omega⟩
theorem any_str {μ : Mu} (s : Str) : Any μ (.str s) := ⟨"str", .str s, by decide⟩
theorem any_int {μ : Mu} (i : Int) : Any μ (.int i) := ⟨"int", .int i, by decide⟩
theorem num_ok {i : Int} (h : 0 ≤ i ∧ i < 32) : isNumB (.int i) 31 = true := by
  show (decide (0 ≤ i) && decide (i ≤ 31)) = true
  rw [decide_eq_true h.1, decide_eq_true (show i ≤ 31 by omega)]; rfl
theorem rng_colF (ls : List Lamp) {i : Int} (h : 0 ≤ i ∧ i < 32) : atI ((rngD 0 32).map (colF ls 0)) i = some (colF ls 0 (.int i)) := by
  refine atI_some h.1 ?_
  rw [List.getElem?_map]
  unfold rngD
  rw [List.getElem?_map, List.getElem?_range (by omega)]
  show some (colF ls 0 (.int (0 + ((i.toNat : Nat) : Int)))) = _
  congr 3
  omega
theorem rd__law_kind_right {Fleet NoKind BadPoint : Addr} : ∀ ds μ Q, P__law_kind_right Fleet ds μ Q → td__law_kind_right Fleet NoKind BadPoint { nx := fun _ μ' => GhQ Q .non μ', rt := GhQ Q } (startD N__law_kind_right ds) μ := by
  rintro ds μ Q ⟨m, dg, rest, n, a, f, k, rfl, M, hn, ha, ok, hk, ⟨am, ad⟩, q⟩
  obtain ⟨t0, t1, l1, l6, gl⟩ := ok.kg k hk
  unfold td__law_kind_right N__law_kind_right kindD
  walk_at "dd"
  refine ⟨trivial, ⟨by decide, by decide⟩, ?_⟩
  obtain ⟨txt0, r0⟩ := repr_cols (cols_ok ok hk 0) (by rw [List.length_map, rngD_len]; decide)
  refine LcB.pure (colF k.2.2 0) trivial (by decide) (fun j d Qd hd y => ?_) ?_
  · obtain ⟨hj, rfl⟩ := rngD_get hd
    walk_at "dd"
    refine ⟨f.1, k.2.2, _, rfl, gl, by omega, by omega, ?_⟩
    have y' : Qd (.tup ((colOf k.2.2 ((0 + (j : Int) - 0) % 32)).map .str)) μ := y
    have e : (0 + (j : Int) - 0) % 32 = 0 + (j : Int) := by omega
    rw [e] at y'
    exact y'
  walk_at "dd"
  refine ⟨⟨by decide, by decide⟩, fun i ds ν => ν = μ ∧ ∃ x8, ds = [some (.obj m), some (.obj a), some (kindD k), some (.str k.1), some (.int k.2.1), some (.tup (k.2.2.map lampD)), some (.lst ((rngD 0 32).map (colF k.2.2 0))), none, x8, none, none, none], ⟨rfl, _, rfl⟩, fun _ _ _ _ _ => trivial, fun j d ds ν hd hI => ?_, fun ds ν hI => ?_⟩
  · obtain ⟨rfl, x8, rfl⟩ := hI
    walk_at "dd"
    refine ⟨⟨by decide, by decide⟩, LcB.pure (colF k.2.2 0) trivial (by decide) (fun j d Qd hd y => ?_) ?_⟩
    · obtain ⟨hj, rfl⟩ := rngD_get hd
      walk_at "dd"
      refine ⟨a, f, _, _, rfl, ha, few_ok ok, any_str _, any_int _, ?_⟩
      rw [kind_of ok hk]
      dsimp only
      rw [if_pos (num_ok ⟨by omega, by omega⟩)]
      intro b hb
      cases hb
      have y' : Qd (.tup ((colOf k.2.2 ((0 + (j : Int) - 0) % 32)).map .str)) ν := y
      have e : (0 + (j : Int) - 0) % 32 = 0 + (j : Int) := by omega
      rw [e] at y'
      exact y'
    · refine newLst_f ?_
      show dRepr [D.lst (List.map (colF k.2.2 0) (rngD 0 32))] ν _
      refine r0 ν _ ?_
      show dRepr [D.lst (List.map (colF k.2.2 0) (rngD 0 32))] ν _
      refine r0 ν _ ?_
      show if (!decide (txt0 = txt0)) = true then _ else _
      rw [if_neg (by simp)]
      exact ⟨rfl, _, rfl⟩
  · obtain ⟨rfl, x8, rfl⟩ := hI
    walk_at "dd"
    refine ⟨m, dg, rest, n, 32, rfl, M, by omega, by decide, by decide, fun r1 μ1 a1 b1 M1 F1 => ?_⟩
    refine ⟨m, dg, rest, n + 1, 32, rfl, M1, by omega, by decide, by decide, fun r2 μ2 a2 b2 M2 F2 => ?_⟩
    walk_at "dd"
    have ha2 : FleetAt Fleet a f μ2 := (F2 a am ad).trans ((F1 a am ad).trans ha)
    refine ⟨by show 4 ≤ sizeLine; decide, _, rfl, ?_⟩
    have all : ∀ d ∈ [D.int 0, D.int 31, D.int r1, D.int r2], ∃ c : Int, d = .int c ∧ 0 ≤ c ∧ c < 32 := by
      intro d hd
      simp only [List.mem_cons, List.not_mem_nil, or_false] at hd
      rcases hd with rfl | rfl | rfl | rfl
      · exact ⟨_, rfl, by decide, by decide⟩
      · exact ⟨_, rfl, by decide, by decide⟩
      · exact ⟨_, rfl, a1, b1⟩
      · exact ⟨_, rfl, a2, b2⟩
    refine ⟨fun i ds ν => ν = μ2 ∧ ∃ x9 x10, ds = [some (.obj m), some (.obj a), some (kindD k), some (.str k.1), some (.int k.2.1), some (.tup (k.2.2.map lampD)), some (.lst ((rngD 0 32).map (colF k.2.2 0))), none, x8, x9, x10, none], ⟨rfl, _, _, rfl⟩, fun _ _ _ _ _ => trivial, fun j d ds ν hd hI => ?_, fun ds ν hI => ?_⟩
    · obtain ⟨rfl, x9, x10, rfl⟩ := hI
      obtain ⟨c, rfl, c0, c1⟩ := all d (List.mem_of_getElem? hd)
      obtain ⟨txt, rc⟩ := repr_cols (cols_ok ok hk c) (by rw [List.length_map, rngD_len]; decide)
      walk_at "dd"
      refine ⟨⟨by decide, by decide⟩, LcB.pure (colF k.2.2 c) trivial (by decide) (fun j d Qd hd y => ?_) ?_⟩
      · obtain ⟨hj, rfl⟩ := rngD_get hd
        walk_at "dd"
        refine ⟨by decide, _, _, rfl, rng_colF _ ⟨by omega, by omega⟩, ?_⟩
        have y' : Qd (.tup ((colOf k.2.2 ((0 + (j : Int) - c) % 32)).map .str)) ν := y
        show Qd (.tup ((colOf k.2.2 (((0 + (j : Int) - c) % 32 - 0) % 32)).map .str)) ν
        have e : ((0 + (j : Int) - c) % 32 - 0) % 32 = (0 + (j : Int) - c) % 32 := by omega
        rw [e]
        exact y'
      · walk_at "dd"
        refine ⟨⟨by decide, by decide⟩, LcB.pure (colF k.2.2 c) trivial (by decide) (fun j d Qd hd y => ?_) ?_⟩
        · obtain ⟨hj, rfl⟩ := rngD_get hd
          walk_at "dd"
          refine ⟨a, f, _, _, _, rfl, ha2, few_ok ok, any_str _, any_int _, any_int _, ?_⟩
          rw [kind_of ok hk]
          dsimp only
          rw [if_pos (num_ok ⟨c0, c1⟩), if_pos (num_ok ⟨by omega, by omega⟩)]
          intro c' s hc' hs
          cases hc'
          cases hs
          exact y
        · refine newLst_f ?_
          show dRepr [D.lst (List.map (colF k.2.2 c) (rngD 0 32))] ν _
          refine rc ν _ ?_
          show dRepr [D.lst (List.map (colF k.2.2 c) (rngD 0 32))] ν _
          refine rc ν _ ?_
          show if (!decide (txt = txt)) = true then _ else _
          rw [if_neg (by simp)]
          exact ⟨rfl, _, _, rfl⟩
    · obtain ⟨rfl, x9, x10, rfl⟩ := hI
      walk_at "dd"
      exact .self (q _ M2 (F1.trans F2))
end K20
end DL
set_option Elab.async false
set_option linter.all false
set_option maxRecDepth 100000
set_option maxHeartbeats 4000001
namespace DL
open PySem L2 TL K20 PyProof.Rows
local macro_rules | `(tactic| walk_at "dd") => `(tactic| try simp only [dSeq, dAsg, dgName, dgTup, dgSub, dOp, dVar, dC, dAdd, dSub, dMul, dMod, dFDiv, dPow, dCmp, dNeg, dEqn, dIsN, dIx, dTup, dLst, dConsA, dNilA, dCB, dCall, dRet, dRetN, dDrop, dIfS, dNext, dBreak, dCont, dTest, dTru, dAndT, dOrT, dNotT, dAndV, dOrV, dNotV, dIf, dChain, dDGet, dDPut, dM1, dM0, dJoin, dSplit, dUpper, dBML, dAppend, dInsert, dPopAt, dLen, dInt, dStr, dTupOf, dListOf, dMax2, dSum, dAll, dSl, dPart, dNoPart, newLst, keyD, dFor, dLc, diSeq, diRng1, diRng2, diEnum, diEnumS, diStr,
  startD, setAll, wipeD, List.map_cons, List.map_nil, List.length_cons, List.length_nil, List.replicate, List.cons_append, List.nil_append, List.getElem?_cons_zero, List.getElem?_cons_succ, List.set_cons_zero, List.set_cons_succ, Nat.reduceAdd, Nat.reduceSub, Bool.false_eq_true, if_true, if_false, ite_true, ite_false, reduceIte])
local macro_rules | `(tactic| walk_at "cm") => `(tactic| first | exact .inl ⟨by omega, by omega⟩ | exact .inr ⟨by omega, by omega⟩ | exact ⟨by omega, by omega⟩ | omega | decide)
local macro_rules | `(tactic| walk_at "dx") => `(tactic| try simp only [xSeq, xIf, xLift, xRet, xDrop, xSet, xCall, xMeth, xOp, xCB1, xOwn, dFs3, quiet])
theorem tabs_put {T : List (Addr × Str)} {μ : Mu} {p : Addr} {xs : List D} (h : TabsAre T μ) (hp : μ p = none) : TabsAre T (put μ p (.lst xs)) := fun P q => by
  by_cases e : P = p
  · subst e
    rw [put_same, ← h, hp]
    exact ⟨(fun z => by cases z), (fun z => by cases z)⟩
  · rw [put_ne e]; exact h P q
theorem pdM_obj {μ : Mu} {p : Addr} {ns : List Str} (h : μ p = some (.lst (ns.map .str))) : pdM μ (.obj p) = some (.list (ns.map .str)) := by
  unfold pdM
  simp only [h, pdL_strs, Option.map_some]
namespace K20
theorem lost_of {T : List (Addr × Str)} {cat : Addr → Option Bool} {tl : TDX} {BadText NoKind BadPoint BadSight Full BadMoment BadBoats BadMany NoFoe : Addr} {ds : DSl} {ν : Mu} {Q : DK} {C : Addr} {wd : Str} (tb : TabsAre T ν) (hc : cat C = some true)
    (hm : (C, wd) ∈ Er.row ⟨BadText, NoKind, BadPoint, BadSight, Full, BadMoment, BadBoats, BadMany, NoFoe⟩ ∧ wd ∈ rw20) (h : ∀ (E : DXK) (R : DK), E C [] ν → tl (fun C fs _ μ' => E C fs μ') ds ν R) (q : Q (.str wd) ν) :
    dLost T cat tl (td__law_lost_ret BadText NoKind BadPoint BadSight Full BadMoment BadBoats BadMany NoFoe) ds ν Q := by
  refine ⟨tb, h _ _ ⟨true, hc, fun _ => ?_, fun z => by cases z⟩⟩
  unfold td__law_lost_ret
  walk_at "dd"
  exact ⟨C, [], wd, rfl, hm.1, hm.2, q⟩
theorem no_kindS {f : Flt} {s : Str} (h : s ∉ f.2.map (·.1)) : kindIn f (.str s) = none := by
  show f.2.find? (fun k : Kind => decide (k.1 = s)) = none
  rw [List.find?_eq_none]
  intro k hk e
  exact h (List.mem_map.mpr ⟨k, hk, by simpa using e⟩)
/-- what stands when the words are told -/
structure Rdy (T : List (Addr × Str)) (Fleet a : Addr) (f : Flt) (x y : D) (k : Str) (ν : Mu) : Prop where
  tb : TabsAre T ν
  ha : FleetAt Fleet a f ν
  hx : Any ν x
  hy : Any ν y
theorem Rdy.put {T : List (Addr × Str)} {Fleet a : Addr} {f : Flt} {x y : D} {k : Str} {ν : Mu} (r : Rdy T Fleet a f x y k ν) {p : Addr} {xs : List D} (hp : ν p = none) : Rdy T Fleet a f x y k (put ν p (.lst xs)) :=
  ⟨tabs_put r.tb hp, by unfold FleetAt; rw [put_ne fun e => by have := r.ha; unfold FleetAt at this; rw [e, hp] at this; cases this]; exact r.ha, any_fr r.hx hp, any_fr r.hy hp⟩
theorem rd__law_refused_right {T : List (Addr × Str)} {cat : Addr → Option Bool} {Fleet NoKind BadPoint BadText BadSight Full BadMoment BadBoats BadMany NoFoe : Addr} (c1 : cat NoKind = some true) (c2 : cat BadPoint = some true) : ∀ ds μ Q, P__law_refused_right T Fleet ds μ Q →
    td__law_refused_right cat Fleet NoKind BadPoint BadText BadSight Full BadMoment BadBoats BadMany NoFoe T { nx := fun _ μ' => GhQ Q .non μ', rt := GhQ Q } (startD N__law_refused_right ds) μ := by
  rintro ds μ Q ⟨m, dg, rest, n, a, f, k, rfl, M, hn, ha, ok, hk, ⟨am, ad⟩, tb, q⟩
  have few := few_ok ok
  obtain ⟨kk, hkk, ekk⟩ := List.mem_map.mp hk
  have nk := ok.kn kk hkk
  rw [ekk] at nk
  unfold td__law_refused_right N__law_refused_right
  walk_at "dd"
  refine ⟨Nat.le_trans (Nat.add_le_add nk.2.1 (Nat.le_refl _)) (by decide +kernel), by show 1 ≤ sizeLine; decide, by show 1 ≤ sizeLine; decide, ?_⟩
  unfold dDNew
  intro p1 hp1
  walk_at "dd"
  have p1m := M.neM hp1
  have p1d := M.neD hp1
  refine ⟨by show 9 ≤ sizeLine; decide, m, dg, rest, n, 9, rfl, M.putO p1m p1d, by omega, by decide, by decide, fun i1 μ1 a1 b1 M1 F1 => ?_⟩
  obtain ⟨x, hx0, hxm, _⟩ := atI_ex (xs := [D.str (Str.ofString ""), D.str (Str.ofString "zzzzzzz"), D.str (k ++ Str.ofString "x"), D.non, D.int 5, D.lst [D.str k], D.tup [D.str k], D.bl true, D.obj p1]) a1 b1
  refine ⟨_, x, rfl, hx0, ?_⟩
  walk_at "dd"
  refine ⟨by show 1 ≤ sizeLine; decide, by show 1 ≤ sizeLine; decide, ?_⟩
  intro p2 hp2
  walk_at "dd"
  have p2m := M1.neM hp2
  have p2d := M1.neD hp2
  refine ⟨m, dg, rest, n + 1, 1000, rfl, M1.putO p2m p2d, by omega, by decide, by decide, fun r1 μ2 a2 b2 M2 F2 => ?_⟩
  refine ⟨m, dg, rest, n + 2, 1000, rfl, M2, by omega, by decide, by decide, fun r2 μ3 a3 b3 M3 F3 => ?_⟩
  refine ⟨by show 10 ≤ sizeLine; decide, m, dg, rest, n + 3, 10, rfl, M3, by omega, by decide, by decide, fun i2 ν a4 b4 M4 F4 => ?_⟩
  obtain ⟨y, hy0, hym, _⟩ := atI_ex (xs := [D.int (-1), D.int 32, D.bl true, D.non, D.str (Str.ofString "0"), D.lst [D.int 0], D.tup [D.int 0], D.obj p2, D.int (32 + r1), D.int (-1 - r2)]) a4 b4
  refine ⟨_, y, rfl, hy0, ?_⟩
  -- the store now
  have e1 : ν p1 = some (.dK []) := by
    rw [F4 p1 p1m p1d, F3 p1 p1m p1d, F2 p1 p1m p1d]
    have h1 : μ1 p1 = some (.dK []) := (F1 p1 p1m p1d).trans put_same
    rw [put_ne fun e => by rw [← e, h1] at hp2; cases hp2]
    exact h1
  have e2 : ν p2 = some (.dK []) := by
    rw [F4 p2 p2m p2d, F3 p2 p2m p2d, F2 p2 p2m p2d]
    exact put_same
  have hp12 : p2 ≠ p1 := fun e => by
    have h1 : μ1 p1 = some (.dK []) := (F1 p1 p1m p1d).trans put_same
    rw [e, h1] at hp2; cases hp2
  have hp2' : μ p2 = none := by rw [← hp2, F1 p2 p2m p2d, put_ne hp12]
  have F0 : ∀ b, b ≠ m → b ≠ dg → b ≠ p1 → b ≠ p2 → ν b = μ b := fun b h1 h2 h3 h4 => by
    rw [F4 b h1 h2, F3 b h1 h2, F2 b h1 h2, put_ne h4, F1 b h1 h2, put_ne h3]
  have hnx : kindIn f x = none := by
    simp only [List.mem_cons, List.not_mem_nil, or_false] at hxm
    rcases hxm with rfl | rfl | rfl | rfl | rfl | rfl | rfl | rfl | rfl
    · refine no_kindS fun h => ?_
      obtain ⟨z, hz, ez⟩ := List.mem_map.mp h
      have := (ok.kn z hz).1
      rw [ez] at this
      exact absurd this (by decide +kernel)
    · refine no_kindS fun h => ?_
      obtain ⟨z, hz, ez⟩ := List.mem_map.mp h
      have := (ok.kn z hz).2.1
      rw [ez] at this
      exact absurd this (by decide +kernel)
    · exact no_kindS fun h => ok.kx k hk _ h rfl
    all_goals rfl
  have hax : Any ν x := by
    simp only [List.mem_cons, List.not_mem_nil, or_false] at hxm
    rcases hxm with rfl | rfl | rfl | rfl | rfl | rfl | rfl | rfl | rfl
    · exact ⟨_, .str _, by decide⟩
    · exact ⟨_, .str _, by decide⟩
    · exact ⟨_, .str _, by decide⟩
    · exact ⟨_, .non, by decide⟩
    · exact ⟨_, .int _, by decide⟩
    · exact ⟨_, .lst _, by decide⟩
    · exact ⟨_, .tup _, by decide⟩
    · exact ⟨_, .bl _, by decide⟩
    · exact ⟨_, .objD e1, by decide⟩
  have hay : Any ν y ∧ isNumB y 31 = false := by
    simp only [List.mem_cons, List.not_mem_nil, or_false] at hym
    rcases hym with rfl | rfl | rfl | rfl | rfl | rfl | rfl | rfl | rfl | rfl
    · exact ⟨⟨_, .int _, by decide⟩, by decide⟩
    · exact ⟨⟨_, .int _, by decide⟩, by decide⟩
    · exact ⟨⟨_, .bl _, by decide⟩, rfl⟩
    · exact ⟨⟨_, .non, by decide⟩, rfl⟩
    · exact ⟨⟨_, .str _, by decide⟩, rfl⟩
    · exact ⟨⟨_, .lst _, by decide⟩, rfl⟩
    · exact ⟨⟨_, .tup _, by decide⟩, rfl⟩
    · exact ⟨⟨_, .objD e2, by decide⟩, rfl⟩
    · refine ⟨⟨_, .int _, by decide⟩, ?_⟩
      show (decide (0 ≤ 32 + r1) && decide (32 + r1 ≤ 31)) = false
      rw [decide_eq_false (show ¬ 32 + r1 ≤ 31 by omega), Bool.and_false]
    · refine ⟨⟨_, .int _, by decide⟩, ?_⟩
      show (decide (0 ≤ -1 - r2) && decide (-1 - r2 ≤ 31)) = false
      rw [decide_eq_false (show ¬ 0 ≤ -1 - r2 by omega), Bool.false_and]
  have hny := hay.2
  have R0 : Rdy T Fleet a f x y k ν := by
    refine ⟨fun P s => ?_, ?_, hax, hay.1⟩
    · obtain ⟨_, _, cc, dd, at1, g1, g2, _⟩ := M
      obtain ⟨_, _, cc', dd', at1', g1', g2', _⟩ := M4
      by_cases z1 : P = m
      · subst z1; rw [g1', ← tb P s, g1]; exact ⟨(fun z => by cases z), (fun z => by cases z)⟩
      by_cases z2 : P = dg
      · subst z2; rw [g2', ← tb P s, g2]; exact ⟨(fun z => by cases z), (fun z => by cases z)⟩
      by_cases z3 : P = p1
      · subst z3; rw [e1, ← tb P s, hp1]; exact ⟨(fun z => by cases z), (fun z => by cases z)⟩
      by_cases z4 : P = p2
      · subst z4; rw [e2, ← tb P s, hp2']; exact ⟨(fun z => by cases z), (fun z => by cases z)⟩
      rw [F0 P z1 z2 z3 z4]
      exact tb P s
    · have ha' : μ a = some (.ins Fleet _) := ha
      exact (F0 a am ad (fun e => by rw [e, hp1] at ha'; cases ha') (fun e => by rw [e, hp2'] at ha'; cases ha')).trans ha
  have mK : (NoKind, Str.ofString "kind") ∈ Er.row ⟨BadText, NoKind, BadPoint, BadSight, Full, BadMoment, BadBoats, BadMany, NoFoe⟩ ∧ Str.ofString "kind" ∈ rw20 := ⟨.tail _ (.head _), .head _⟩
  have mP : (BadPoint, Str.ofString "point") ∈ Er.row ⟨BadText, NoKind, BadPoint, BadSight, Full, BadMoment, BadBoats, BadMany, NoFoe⟩ ∧ Str.ofString "point" ∈ rw20 := ⟨.tail _ (.tail _ (.head _)), .tail _ (.head _)⟩
  have col0 : ∀ (ρ : Mu) (z : D) (E : DXK) (R : DK), Rdy T Fleet a f x y k ρ → Any ρ z → E NoKind [] ρ → P_column Fleet NoKind BadPoint [.obj a, x, z] ρ R E := fun ρ z E R r hz e => ⟨a, f, x, z, rfl, r.ha, few, r.hx, hz, by rw [hnx]; exact e⟩
  have kk1 : kindIn f (.str k) = some kk := by rw [← ekk]; exact kind_of ok hkk
  walk_at "dd"
  refine lost_of R0.tb c1 mK (fun E R e => ?_) ⟨by show 1 ≤ sizeLine; decide, fun p hp => ?_⟩
  · walk_at "dx"
    walk_at "dd"
    exact col0 _ _ _ _ R0 R0.hy e
  have pm := M4.neM hp
  have pd_ := M4.neD hp
  have R1 : ∀ xs : List D, Rdy T Fleet a f x y k (put ν p (.lst xs)) := fun xs => R0.put hp
  walk_at "dd"
  refine ⟨⟨_, put_same⟩, lost_of (R1 _).tb c1 mK (fun E R e => ?_) ⟨_, put_same, by show 1 < sizeLine; decide, ?_⟩⟩
  · walk_at "dx"
    walk_at "dd"
    exact ⟨a, f, x, y, y, rfl, (R1 _).ha, few, (R1 _).hx, (R1 _).hy, (R1 _).hy, by rw [hnx]; exact e⟩
  rw [put_put]
  refine ⟨⟨_, put_same⟩, lost_of (R1 _).tb c1 mK (fun E R e => ?_) ⟨_, put_same, by show 2 < sizeLine; decide, ?_⟩⟩
  · walk_at "dx"
    walk_at "dd"
    exact col0 _ _ _ _ (R1 _) (any_int _) e
  rw [put_put]
  refine ⟨⟨_, put_same⟩, lost_of (R1 _).tb c1 mK (fun E R e => ?_) ⟨_, put_same, by show 3 < sizeLine; decide, ?_⟩⟩
  · walk_at "dx"
    walk_at "dd"
    exact ⟨⟨_, (R1 _).ha, fl_no (by decide +kernel) (by decide +kernel)⟩, a, f, x, rfl, (R1 _).ha, few, (R1 _).hx, by rw [hnx]; exact e⟩
  rw [put_put]
  refine ⟨⟨_, put_same⟩, lost_of (R1 _).tb c1 mK (fun E R e => ?_) ⟨_, put_same, by show 4 < sizeLine; decide, ?_⟩⟩
  · walk_at "dx"
    walk_at "dd"
    exact ⟨⟨_, (R1 _).ha, fl_no (by decide +kernel) (by decide +kernel)⟩, a, f, x, rfl, (R1 _).ha, few, (R1 _).hx, by rw [hnx]; exact e⟩
  rw [put_put]
  refine ⟨⟨_, put_same⟩, lost_of (R1 _).tb c2 mP (fun E R e => ?_) ⟨_, put_same, by show 5 < sizeLine; decide, ?_⟩⟩
  · walk_at "dx"
    walk_at "dd"
    refine ⟨a, f, _, y, rfl, (R1 _).ha, few, any_str _, (R1 _).hy, ?_⟩
    rw [kk1]
    dsimp only
    rw [if_neg (by rw [hny]; exact Bool.false_ne_true)]
    exact e
  rw [put_put]
  refine ⟨⟨_, put_same⟩, lost_of (R1 _).tb c2 mP (fun E R e => ?_) ⟨_, put_same, by show 6 < sizeLine; decide, ?_⟩⟩
  · walk_at "dx"
    walk_at "dd"
    refine ⟨a, f, _, y, _, rfl, (R1 _).ha, few, any_str _, (R1 _).hy, any_int _, ?_⟩
    rw [kk1]
    dsimp only
    rw [if_neg (by rw [hny]; exact Bool.false_ne_true)]
    exact e
  rw [put_put]
  refine ⟨⟨_, put_same⟩, lost_of (R1 _).tb c2 mP (fun E R e => ?_) ⟨_, put_same, by show 7 < sizeLine; decide, ?_⟩⟩
  · walk_at "dx"
    walk_at "dd"
    refine ⟨a, f, _, _, y, rfl, (R1 _).ha, few, any_str _, any_int _, (R1 _).hy, ?_⟩
    rw [kk1]
    dsimp only
    rw [if_pos (num_ok (by decide)), if_neg (by rw [hny]; exact Bool.false_ne_true)]
    exact e
  rw [put_put]
  have fin : GhQ Q (.bl true) (put ν p (.lst ([Str.ofString "kind", Str.ofString "kind", Str.ofString "kind", Str.ofString "kind", Str.ofString "kind", Str.ofString "point", Str.ofString "point", Str.ofString "point"].map .str))) := by
    refine GhQ.sub (μ' := fun b => if b = m ∨ b = dg then ν b else μ b) (fun b o z => ?_) (q _ ?_ ?_)
    · have z : (if b = m ∨ b = dg then ν b else μ b) = some o := z
      by_cases h : b = m ∨ b = dg
      · rw [if_pos h] at z
        rw [put_ne fun e => by rw [e, hp] at z; cases z]; exact z
      · rw [if_neg h] at z
        have hb := not_or.mp h
        have n1 : b ≠ p1 := fun e => by rw [e, hp1] at z; cases z
        have n2 : b ≠ p2 := fun e => by rw [e, hp2'] at z; cases z
        have eb := F0 b hb.1 hb.2 n1 n2
        rw [put_ne (fun e => by rw [← e, eb, z] at hp; cases hp), eb]; exact z
    · obtain ⟨x1, x2, x3, x4, x5, x6, x7, x8⟩ := M4
      exact ⟨x1, x2, x3, x4, x5, (if_pos (Or.inl rfl)).trans x6, (if_pos (Or.inr rfl)).trans x7, x8⟩
    · intro b h1 h2
      show (if b = m ∨ b = dg then ν b else μ b) = μ b
      rw [if_neg (not_or.mpr ⟨h1, h2⟩)]
  walk_at "dd"
  refine ⟨by show 1 ≤ sizeLine; decide, _, rfl, by decide, by decide, by show 1 * 5 ≤ sizeLine; decide, by show 1 ≤ sizeLine; decide, _, rfl, by decide, by decide, by show 1 * 3 ≤ sizeLine; decide, _, _, rfl, rfl, by show 5 + 3 ≤ sizeLine; decide, ?_⟩
  refine ⟨_, _, (show pdM _ (.obj p) = some (.list ([Str.ofString "kind", Str.ofString "kind", Str.ofString "kind", Str.ofString "kind", Str.ofString "kind", Str.ofString "point", Str.ofString "point", Str.ofString "point"].map .str)) from ?_), pdM_strs [Str.ofString "kind", Str.ofString "kind", Str.ofString "kind", Str.ofString "kind", Str.ofString "kind", Str.ofString "point", Str.ofString "point", Str.ofString "point"], shaped_strs ?_, shaped_strs ?_, ?_⟩
  · exact pdM_obj put_same
  · unfold Asc; decide +kernel
  · unfold Asc; decide +kernel
  · have ee : PyData.eqv (.list ([Str.ofString "kind", Str.ofString "kind", Str.ofString "kind", Str.ofString "kind", Str.ofString "kind", Str.ofString "point", Str.ofString "point", Str.ofString "point"].map .str)) (.list ([Str.ofString "kind", Str.ofString "kind", Str.ofString "kind", Str.ofString "kind", Str.ofString "kind", Str.ofString "point", Str.ofString "point", Str.ofString "point"].map .str)) = true := by decide +kernel
    rw [ee]
    exact fin
end K20
end DL
set_option Elab.async false
set_option linter.all false
set_option maxRecDepth 100000
set_option maxHeartbeats 4000001
namespace DL
open PySem L2 TL K20 PyProof.Rows
local macro_rules | `(tactic| walk_at "dd") => `(tactic| try simp only [dSeq, dAsg, dgName, dgTup, dgSub, dOp, dVar, dC, dAdd, dSub, dMul, dMod, dFDiv, dPow, dCmp, dNeg, dEqn, dIsN, dIx, dTup, dLst, dConsA, dNilA, dCB, dCall, dRet, dRetN, dDrop, dIfS, dNext, dBreak, dCont, dTest, dTru, dAndT, dOrT, dNotT, dAndV, dOrV, dNotV, dIf, dChain, dDGet, dDPut, dM1, dM0, dJoin, dSplit, dUpper, dBML, dAppend, dInsert, dPopAt, dLen, dInt, dStr, dTupOf, dListOf, dMax2, dSum, dAll, dSl, dPart, dNoPart, newLst, keyD, dFor, dLc, diSeq, diRng1, diRng2, diEnum, diEnumS, diStr,
  startD, setAll, wipeD, List.map_cons, List.map_nil, List.length_cons, List.length_nil, List.replicate, List.cons_append, List.nil_append, List.getElem?_cons_zero, List.getElem?_cons_succ, List.set_cons_zero, List.set_cons_succ, Nat.reduceAdd, Nat.reduceSub, Bool.false_eq_true, if_true, if_false, ite_true, ite_false, reduceIte])
local macro_rules | `(tactic| walk_at "cm") => `(tactic| first | exact .inl ⟨by omega, by omega⟩ | exact .inr ⟨by omega, by omega⟩ | exact ⟨by omega, by omega⟩ | omega | decide)
theorem tabs_putO {T : List (Addr × Str)} {μ : Mu} {p : Addr} {o : MO} (h : TabsAre T μ) (hp : ∀ q, μ p ≠ some (.tbl q)) (ho : ∀ q, o ≠ .tbl q) : TabsAre T (put μ p o) := fun P q => by
  by_cases e : P = p
  · subst e
    rw [put_same, ← h]
    exact ⟨(fun z => absurd (Option.some.inj z) (ho q)), (fun z => absurd z (hp q))⟩
  · rw [put_ne e]; exact h P q
theorem tabs_fr {T : List (Addr × Str)} {m dg : Addr} {rest : List (Key × D)} {n : Nat} {μ ν : Mu} (h : TabsAre T μ) (M : MOk m dg rest n ν) (F : Fr m dg μ ν) (h1 : ∀ q, μ m ≠ some (.tbl q)) (h2 : ∀ q, μ dg ≠ some (.tbl q)) : TabsAre T ν := fun P q => by
  obtain ⟨_, _, cc, dd, at1, g1, g2, _⟩ := M
  by_cases z1 : P = m
  · subst z1; rw [g1, ← h P q]; exact ⟨(fun z => by cases z), (fun z => absurd z (h1 q))⟩
  by_cases z2 : P = dg
  · subst z2; rw [g2, ← h P q]; exact ⟨(fun z => by cases z), (fun z => absurd z (h2 q))⟩
  rw [F P z1 z2]
  exact h P q
theorem MOk.nt1 {m dg : Addr} {rest : List (Key × D)} {n : Nat} {ν : Mu} (M : MOk m dg rest n ν) : ∀ q, ν m ≠ some (.tbl q) := fun q e => by
  obtain ⟨_, _, cc, dd, at1, g1, g2, _⟩ := M
  rw [g1] at e; cases e
theorem MOk.nt2 {m dg : Addr} {rest : List (Key × D)} {n : Nat} {ν : Mu} (M : MOk m dg rest n ν) : ∀ q, ν dg ≠ some (.tbl q) := fun q e => by
  obtain ⟨_, _, cc, dd, at1, g1, g2, _⟩ := M
  rw [g2] at e; cases e
theorem repr_lamp {cs : List Str} (hc : ∀ c ∈ cs, IsName c) {l : Lamp} (h : GoodLamp cs l) : SmP (lampP l) 21 1 := by
  refine SmP.tuple (b := 6) (d := 0) (n := 3) (fun p hp => ?_) (Nat.le_refl _)
  obtain ⟨g1, g2, g3, g4, g5⟩ := h
  simp only [List.mem_cons, List.not_mem_nil, or_false] at hp
  rcases hp with rfl | rfl | rfl
  · exact SmP.str (name_asc (hc _ g1)).1 (name_asc (hc _ g1)).2
  · exact (SmP.int (by omega)).up (by decide) (Nat.le_refl _)
  · exact (SmP.int (by omega)).up (by decide) (Nat.le_refl _)
theorem repr_kind {cs : List Str} (hc : ∀ c ∈ cs, IsName c) {k : Kind} (hk : IsName k.1) (h : GoodKind cs k) : SmP (kindP k) 399 3 := by
  refine SmP.tuple (b := 132) (d := 2) (n := 3) (fun p hp => ?_) (Nat.le_refl _)
  obtain ⟨g1, g2, g3, g4, g5⟩ := h
  simp only [List.mem_cons, List.not_mem_nil, or_false] at hp
  rcases hp with rfl | rfl | rfl
  · exact (SmP.str (name_asc hk).1 (name_asc hk).2).up (by decide) (by decide)
  · exact (SmP.int (by omega)).up (by decide) (by decide)
  · refine SmP.tuple (b := 21) (d := 1) (n := 6) (fun p hp => ?_) (by rw [List.length_map]; exact g4)
    obtain ⟨l, hl, rfl⟩ := List.mem_map.mp hp
    exact repr_lamp hc (g5 l hl)
theorem repr_fleet {f : Flt} (ok : FleetOk f) : ∃ txt : Str, ∀ (μ : Mu) (Q : DK), Q (.str txt) μ → dRepr [fleetD f] μ Q := by
  have e : pd (fleetD f) = some (.tuple [.tuple (f.1.map .str), .tuple (f.2.map kindP)]) := by
    unfold fleetD
    simp [pd, pdL, pdL_strs, pdL_kinds]
  have s : SmP (.tuple [.tuple (f.1.map .str), .tuple (f.2.map kindP)]) 4802 5 := by
    refine SmP.tuple (b := 2400) (d := 4) (n := 2) (fun p hp => ?_) (Nat.le_refl _)
    simp only [List.mem_cons, List.not_mem_nil, or_false] at hp
    rcases hp with rfl | rfl
    · refine (SmP.tuple (b := 6) (d := 0) (n := 6) (fun p hp => ?_) (by rw [List.length_map]; exact ok.c6)).up (by decide) (by decide)
      obtain ⟨c, hc, rfl⟩ := List.mem_map.mp hp
      exact SmP.str (name_asc (ok.cn c hc)).1 (name_asc (ok.cn c hc)).2
    · refine SmP.tuple (b := 399) (d := 3) (n := 6) (fun p hp => ?_) (by rw [List.length_map]; exact ok.k6)
      obtain ⟨k, hk, rfl⟩ := List.mem_map.mp hp
      exact repr_kind ok.cn (ok.kn k hk) (ok.kg k hk)
  exact ⟨_, fun μ Q q => repr_small (p := .tuple _) (show pdM μ (fleetD f) = _ from e) rfl s (by decide) (by decide) q⟩
theorem fleet_ok {cs ks : List Str} {f : Flt} (gc : GoodNames cs) (gk : GoodNames ks) (g : GoodFleet cs ks f) : FleetOk f where
  c0 := g.c0
  c6 := g.c6
  cn := fun c hc => gc.2.2.1 c (by rw [g.cp] at hc; exact List.mem_of_mem_take hc)
  k1 := g.k0
  k6 := g.k6
  kd := by rw [g.kp]; exact gk.2.1.sublist (List.take_sublist _ _)
  kn := fun k hk => gk.2.2.1 k.1 (by
    have : k.1 ∈ f.2.map (·.1) := List.mem_map.mpr ⟨k, hk, rfl⟩
    rw [g.kp] at this; exact List.mem_of_mem_take this)
  kg := g.kg
  kx := fun a ha b hb => gk.2.2.2.2 a (by rw [g.kp] at ha; exact List.mem_of_mem_take ha) b (by rw [g.kp] at hb; exact List.mem_of_mem_take hb)
namespace K20
def P_law (T : List (Addr × Str)) : DP := fun ds μ Q => ∃ ns : List Int, ds = [.scr (ns.map .int)] ∧ ns.length ≤ 63 ∧ TabsAre T μ ∧ Q (.bl true) μ
theorem rd_law {T : List (Addr × Str)} {Fleet : Addr} : ∀ ds μ Q, P_law T ds μ Q → td_law Fleet T { nx := fun _ μ' => GhQ Q .non μ', rt := GhQ Q } (startD N_law ds) μ := by
  rintro ds μ Q ⟨ns, rfl, h63, tb, h⟩
  unfold td_law N_law
  walk_at "dd"
  refine ⟨ns, rfl, h63, fun m dg cs ks μ1 hm hd gc gk M1 F1 => ?_⟩
  refine ⟨m, dg, cs, ks, 10, rfl, M1, by decide, gc.1, gk.1, fun s hs => (gc.2.2.1 s hs).asc, fun s hs => (gk.2.2.1 s hs).asc, fun f μ2 g M2 F2 => ?_⟩
  have ok := fleet_ok gc gk g
  have tb1 : TabsAre T μ1 := tabs_fr tb M1 F1 (fun q e => by rw [hm] at e; cases e) (fun q e => by rw [hd] at e; cases e)
  have tb2 : TabsAre T μ2 := tabs_fr tb1 M2 F2 M1.nt1 M1.nt2
  have S2 : SubM μ μ2 := fun a o e => by
    have n1 : a ≠ m := fun z => by rw [z, hm] at e; cases e
    have n2 : a ≠ dg := fun z => by rw [z, hd] at e; cases e
    rw [F2 a n1 n2, F1 a n1 n2]; exact e
  unfold dMake
  intro a ha
  have am := M2.neM ha
  have ad := M2.neD ha
  refine ⟨a, f, rfl, put_same, few_ok ok, rfl, ?_⟩
  rw [put_put]
  walk_at "dd"
  have hμa : μ a = none := by
    cases e : μ a with
    | none => rfl
    | some o => rw [S2 a o e] at ha; cases ha
  refine ⟨_, _, rfl, rfl, _, rfl, ?_⟩
  refine ⟨fun i ds ν => ∃ x4, ds = [some (.scr (ns.map .int)), some (.obj m), some (fleetD f), some (.obj a), x4] ∧ MOk m dg (restD cs ks) (310 + 6 * i) ν ∧ SubM μ ν ∧ FleetAt Fleet a f ν ∧ TabsAre T ν, ⟨_, rfl, M2.putO am ad, ?_, put_same, ?_⟩, fun _ _ _ _ _ => trivial, fun j d ds ν hdj hI => ?_, fun ds ν hI => ?_⟩
  · intro b o e
    rw [put_ne fun z => by rw [z, hμa] at e; cases e]; exact S2 b o e
  · exact tabs_putO tb2 (fun q e => by rw [ha] at e; cases e) fun q e => by cases e
  · obtain ⟨x4, rfl, Mν, Sν, Aν, tν⟩ := hI
    obtain ⟨k, hk, rfl⟩ := map_get hdj
    have hkm : k ∈ f.2 := List.mem_of_getElem? hk
    have hj : j < f.2.length := (List.getElem?_eq_some_iff.mp hk).1
    have := ok.k6
    walk_at "dd"
    refine ⟨m, dg, _, _, a, f, k, rfl, Mν, by omega, Aν, ok, hkm, ⟨am, ad⟩, fun ν1 Mν1 Fν1 => ⟨trivial, ?_⟩⟩
    have tν1 := tabs_fr tν Mν1 Fν1 Mν.nt1 Mν.nt2
    have Aν1 : FleetAt Fleet a f ν1 := (Fν1 a am ad).trans Aν
    show ∃ xs d, SeqD ν1 (kindD k) xs ∧ atI xs 0 = some d ∧ _
    refine ⟨_, _, rfl, rfl, m, dg, _, _, a, f, k.1, rfl, Mν1, by omega, Aν1, ok, List.mem_map.mpr ⟨k, hkm, rfl⟩, ⟨am, ad⟩, tν1, fun ν2 Mν2 Fν2 => ⟨trivial, ?_⟩⟩
    refine ⟨_, rfl, Mν2.mono (by omega), fun b o e => ?_, (Fν2 a am ad).trans Aν1, tabs_fr tν1 Mν2 Fν2 Mν1.nt1 Mν1.nt2⟩
    have n1 : b ≠ m := fun z => by rw [z, hm] at e; cases e
    have n2 : b ≠ dg := fun z => by rw [z, hd] at e; cases e
    rw [Fν2 b n1 n2, Fν1 b n1 n2]; exact Sν b o e
  · obtain ⟨x4, rfl, Mν, Sν, Aν, tν⟩ := hI
    obtain ⟨txt, rf⟩ := repr_fleet ok
    walk_at "dd"
    unfold dMeth
    walk_at "dd"
    refine ⟨⟨_, Aν, fl_no (by decide +kernel) (by decide +kernel)⟩, a, f, rfl, Aν, ?_⟩
    refine rf ν _ ?_
    refine rf ν _ ?_
    show GhQ Q (.bl (decide (txt = txt))) ν
    rw [decide_eq_true rfl]
    exact GhQ.sub Sν h
end K20
end DL
namespace DL.K20
open PySem L2
theorem rows_raised {BadText NoKind BadPoint BadSight Full BadMoment BadBoats BadMany NoFoe : Addr} {p : Addr × Str} (h : p ∈ Er.row ⟨BadText, NoKind, BadPoint, BadSight, Full, BadMoment, BadBoats, BadMany, NoFoe⟩) (hr : p.2 ∈ rw20) : p ∈ [(NoKind, Str.ofString "kind"), (BadPoint, Str.ofString "point")] := by
  unfold Er.row at h
  simp only [List.mem_cons, List.not_mem_nil, or_false] at h
  rcases h with rfl | rfl | rfl | rfl | rfl | rfl | rfl | rfl | rfl
  · exact absurd (show Str.ofString "text" ∈ rw20 from hr) (by decide +kernel)
  · exact .head _
  · exact .tail _ (.head _)
  · exact absurd (show Str.ofString "sight" ∈ rw20 from hr) (by decide +kernel)
  · exact absurd (show Str.ofString "full" ∈ rw20 from hr) (by decide +kernel)
  · exact absurd (show Str.ofString "moment" ∈ rw20 from hr) (by decide +kernel)
  · exact absurd (show Str.ofString "boats" ∈ rw20 from hr) (by decide +kernel)
  · exact absurd (show Str.ofString "many" ∈ rw20 from hr) (by decide +kernel)
  · exact absurd (show Str.ofString "foe" ∈ rw20 from hr) (by decide +kernel)
end DL.K20
set_option Elab.async false
set_option linter.all false
set_option maxRecDepth 100000
set_option maxHeartbeats 4000001
/-! A comprehension of two clauses over data. -/
namespace DL
open PySem L2
def dLc2 (m : Bool) (wd : DI) (g : DG) (tt : TTd) (wd1 : DI) (g1 : DG) (tt1 : TTd) (te : TD) (vs vs1 : List Nat) : TD := fun ds μ Q => wd ds μ fun items keep μ1 => ∃ I : Nat → List D → Mu → Prop, I 0 [] μ1 ∧ (∀ i acc μ, i ≤ items.length → I i acc μ → keep μ) ∧
  (∀ i d acc μ, items[i]? = some d → I i acc μ → g d (wipeD ds vs) μ fun ds2 μ2 => tt ds2 μ2 fun b μ3 => if b = true then wd1 ds2 μ3 fun items1 keep1 μ4 => ∃ J : Nat → List D → Mu → Prop, J 0 acc μ4 ∧ (∀ j acc1 ν, j ≤ items1.length → J j acc1 ν → keep1 ν) ∧
      (∀ j d1 acc1 ν, items1[j]? = some d1 → J j acc1 ν → acc1.length < sizeLine ∧ g1 d1 (wipeD ds2 vs1) ν fun ds3 ν2 => tt1 ds3 ν2 fun b1 ν3 => if b1 = true then te ds3 ν3 fun z ν4 => J (j + 1) (acc1 ++ [z]) ν4 else J (j + 1) acc1 ν3) ∧
      (∀ acc1 ν, J items1.length acc1 ν → I (i + 1) acc1 ν)
    else I (i + 1) acc μ3) ∧
  (∀ acc μ, I items.length acc μ → newLst m acc μ Q)
theorem re_lc2 {K : PySem.W.Frag} {m : Bool} {wi wi1 : TI} {g g1 : TG} {tt tt1 : TT} {te : TE} {vs vs1 : List Nat} {wd wd1 : DI} {dg dg1 : DG} {dt dt1 : TTd} {de : TD} (h1 : RI K wi wd) (h2 : RGc K vs g dg) (h3 : RT K tt dt) (h5 : RI K wi1 wd1) (h6 : RGc K vs1 g1 dg1) (h7 : RT K tt1 dt1) (h8 : RE K te de) :
    RE K (tLc2 wi g tt wi1 g1 tt1 te vs vs1) (dLc2 m wd dg dt wd1 dg1 dt1 de vs vs1) :=
  fun σ ds G F μ H Qd Q hs hw h kq => h1 σ ds G F μ H _ _ hs hw h fun J items keep G1 μ1 H1 e1 w1 it q => by
    obtain ⟨I, i0, ik, is, ie⟩ := q
    intro p hp
    have hF : F p = none := w1.noF hp
    refine ⟨fun i n H' => n = items.length - i ∧ i ≤ items.length ∧ ∃ acc us μ' G', Ex G1 G' ∧ Wd K G' (upd F p (.lst us)) μ' H' ∧ RpL K G' acc us ∧ I i acc μ', ⟨_, rfl, Nat.zero_le _, [], [], μ1, G1, Ex.refl _, w1.lend hp, rfl, i0⟩, ?_⟩
    rintro i n' H' ⟨rfl, hi, acc, us, μ', G', e', w', ra, pI⟩
    obtain ⟨t1, t2⟩ := it i _ G' μ' H' e' w' (ik i acc μ' hi pI)
    by_cases hlt : i < items.length
    · obtain ⟨g0, gy⟩ := t1 hlt
      refine .inr ⟨g0, fun H2 => ∃ acc us μ' G', Ex G1 G' ∧ Wd K G' (upd F p (.lst us)) μ' H2 ∧ RpL K G' acc us ∧ I (i + 1) acc μ', fun H2 ⟨a1, a2, a3, a4, x1, x2, x3, x4⟩ => ⟨items.length - (i + 1), by omega, rfl, hlt, a1, a2, a3, a4, x1, x2, x3, x4⟩, fun v H2 y => ?_⟩
      obtain ⟨G2, d, e2, w2, rd, hd, _⟩ := gy v H2 y
      have s0 := (hs.mono (e1.trans (e'.trans e2))).wipe vs
      refine h2 v d (wipe σ vs) (wipeD ds vs) G2 _ μ' H2 _ _ rd s0 w2 (is i d acc μ' hd pI) fun σ3 ds3 G3 μ3 H3 ew e3 s3 w3 q3 => ⟨ew.trans wipe_wipe, ?_⟩
      refine h3 σ3 ds3 G3 _ μ3 H3 _ _ s3 w3 q3 fun b G4 μ4 H4 e4 w4 q4 => ?_
      cases b with
      | false => exact ⟨acc, us, μ4, G4, e'.trans (e2.trans (e3.trans e4)), w4, RpL.mono (e2.trans (e3.trans e4)) _ _ ra, q4⟩
      | true =>
        refine h5 σ3 ds3 G4 _ μ4 H4 _ _ (s3.mono e4) w4 q4 fun J1 items1 keep1 G5 μ5 H5 e5 w5 it1 q5 => ?_
        obtain ⟨I1, j0, jk, js, je⟩ := q5
        have e25 := e2.trans (e3.trans (e4.trans e5))
        refine ⟨fun j n H' => n = items1.length - j ∧ j ≤ items1.length ∧ ∃ acc us μ' G', Ex G5 G' ∧ Wd K G' (upd F p (.lst us)) μ' H' ∧ RpL K G' acc us ∧ I1 j acc μ', ⟨_, rfl, Nat.zero_le _, acc, us, μ5, G5, Ex.refl _, w5, RpL.mono e25 _ _ ra, j0⟩, ?_⟩
        rintro j n2 H6 ⟨rfl, hj, acc1, us1, μ6, G6, e6, w6, ra6, p6⟩
        obtain ⟨u1, u2⟩ := it1 j _ G6 μ6 H6 e6 w6 (jk j acc1 μ6 hj p6)
        by_cases hl1 : j < items1.length
        · obtain ⟨g3, g4⟩ := u1 hl1
          refine .inr ⟨g3, fun H7 => ∃ acc us μ' G', Ex G5 G' ∧ Wd K G' (upd F p (.lst us)) μ' H7 ∧ RpL K G' acc us ∧ I1 (j + 1) acc μ', fun H7 ⟨a1, a2, a3, a4, x1, x2, x3, x4⟩ => ⟨items1.length - (j + 1), by omega, rfl, hl1, a1, a2, a3, a4, x1, x2, x3, x4⟩, fun v1 H7 y1 => ?_⟩
          obtain ⟨G7, d1, e7, w7, rd1, hd1, _⟩ := g4 v1 H7 y1
          obtain ⟨hz, hg1⟩ := js j d1 acc1 μ6 hd1 p6
          have s1 := (s3.mono (e4.trans (e5.trans (e6.trans e7)))).wipe vs1
          refine h6 v1 d1 (wipe σ3 vs1) (wipeD ds3 vs1) G7 _ μ6 H7 _ _ rd1 s1 w7 hg1 fun σ8 ds8 G8 μ8 H8 ew8 e8 s8 w8 q8 => ⟨ew8.trans wipe_wipe, ?_⟩
          refine h7 σ8 ds8 G8 _ μ8 H8 _ _ s8 w8 q8 fun b1 G9 μ9 H9 e9 w9 q9 => ?_
          cases b1 with
          | true =>
            refine h8 σ8 ds8 G9 _ μ9 H9 _ _ (s8.mono e9) w9 q9 fun z dz GA μA HA eA wA rz qA => ?_
            have eT := e7.trans (e8.trans (e9.trans eA))
            exact ⟨us1, (wA.f p _ upd_same).1, by rw [ra6.len]; exact hz, acc1 ++ [dz], us1 ++ [z], μA, GA, e6.trans eT, wA.lendSet (o' := .lst (us1 ++ [z])), (RpL.mono eT _ _ ra6).app (RpL.one rz), qA⟩
          | false => exact ⟨acc1, us1, μ9, G9, e6.trans (e7.trans (e8.trans e9)), w9, RpL.mono (e7.trans (e8.trans e9)) _ _ ra6, q9⟩
        · have hn : j = items1.length := by omega
          exact .inl ⟨u2 (by omega), acc1, us1, μ6, G6, e'.trans (e25.trans e6), w6, ra6, je acc1 μ6 (hn ▸ p6)⟩
    · have hn : i = items.length := by omega
      refine .inl ⟨t2 (by omega), ?_⟩
      have hq := ie acc μ' (hn ▸ pI)
      cases m with
      | false =>
        obtain ⟨w7, e7⟩ := w'.lendFix hF
        exact kq (.ref p) (.lst acc) _ μ' H' (e1.trans (e'.trans e7)) w7 ⟨p, us, rfl, upd_same, RpL.mono e7 _ _ ra⟩ hq
      | true => exact kq (.ref p) (.obj p) G' (put μ' p (.lst acc)) H' (e1.trans e') (w'.lendMu (m := .lst acc) ⟨us, rfl, ra⟩ hF) rfl (hq p ((w'.f p _ upd_same).2.2))
section
variable {X : Cx} {tg iter tg1 iter1 elt : Expr} {wd wd1 : DI} {dg dg1 : DG} {de : TD} {pos : Pos}
theorem ed_lc2 (m : Bool) {ifs ifs1 : List Expr} {scope : Scope} {own : List (Str × Nat)} {vs1 : List Nat} {dtt dtt1 : TTd} (hc : X.calm = true) (hN : X.N.Nodup) (ok : BlkOk X.N X.env.scope scope own) (hv : ∀ i ∈ vs1, i ∈ own.map (·.2)) (hi : PID X tg iter wd)
    (hg : ∀ (s : Shared) (H : Hp) (C : Addr) (cl : List (Str × Addr)) (fp : List Addr), PGC (X.blk s H scope (compEnvC scope cl C X.env) fp) (own.map (·.2)) tg dg)
    (ht : ∀ (s : Shared) (H : Hp) (C : Addr) (cl : List (Str × Addr)) (fp : List Addr), PTsD (X.blk s H scope (compEnvC scope cl C X.env) fp) ifs dtt)
    (hi1 : ∀ (s : Shared) (H : Hp) (C : Addr) (cl : List (Str × Addr)) (fp : List Addr), PID (X.blk s H scope (compEnvC scope cl C X.env) fp) tg1 iter1 wd1)
    (hg1 : ∀ (s : Shared) (H : Hp) (C : Addr) (cl : List (Str × Addr)) (fp : List Addr), PGC (X.blk s H scope (compEnvC scope cl C X.env) fp) vs1 tg1 dg1)
    (ht1 : ∀ (s : Shared) (H : Hp) (C : Addr) (cl : List (Str × Addr)) (fp : List Addr), PTsD (X.blk s H scope (compEnvC scope cl C X.env) fp) ifs1 dtt1)
    (he : ∀ (s : Shared) (H : Hp) (C : Addr) (cl : List (Str × Addr)) (fp : List Addr), PED (X.blk s H scope (compEnvC scope cl C X.env) fp) elt de) (hs : ∀ x, foldedSetIterable iter X.env x = pure x := by intro _; rfl) (hs1 : ∀ env x, foldedSetIterable iter1 env x = pure x := by intro _ _; rfl) :
    PED X (.ListComp elt [⟨tg, iter, ifs, 0⟩, ⟨tg1, iter1, ifs1, 0⟩] scope pos) (dLc2 m wd dg dtt wd1 dg1 dtt1 de (own.map (·.2)) vs1) :=
  .mk' (pe_lc2 hc hN hi.pi ok hv (fun s H C cl fp => (hg s H C cl fp).pg) (fun s H C cl fp => (ht s H C cl fp).pe) (fun s H C cl fp => (hi1 s H C cl fp).pi) (fun s H C cl fp => (hg1 s H C cl fp).pg) (fun s H C cl fp => (ht1 s H C cl fp).pe) (fun s H C cl fp => (he s H C cl fp).pe) hs hs1)
    (re_lc2 hi.ri (hg X.s_0 X.H_0 0 [] []).rg (ht X.s_0 X.H_0 0 [] []).re (hi1 X.s_0 X.H_0 0 [] []).ri (hg1 X.s_0 X.H_0 0 [] []).rg (ht1 X.s_0 X.H_0 0 [] []).re (he X.s_0 X.H_0 0 [] []).re)
/-- x is not b, both truth values -/
theorem op_notB : OpR X (compareOp .IsNot) (fun x y H Q => ∃ a b, x = .bl a ∧ y = .bl b ∧ Q (.bl (!decide (a = b))) H) := by
  intro pins s σ H x y v u Q I rx ry h
  obtain ⟨a, b, rfl, rfl, q⟩ := h
  cases rx
  cases ry
  refine wpAny_of_eq (a := Value.bool (!decide (a = b))) ?_ ⟨.bl _, H, I, rfl, q⟩
  cases a <;> cases b <;> rfl
def dNotB : D → D → Mu → DK → Prop
  | .bl a, .bl b, μ, Q => Q (.bl (!decide (a = b))) μ
  | _, _, _, _ => False
theorem rr_notB {K : PySem.W.Frag} : RR2 K (fun x y H Q => ∃ a b, x = .bl a ∧ y = .bl b ∧ Q (.bl (!decide (a = b))) H) dNotB := fun x y dx dy G F μ H Qd Q rx ry w h kq => by
  unfold dNotB at h
  split at h
  · exact ⟨_, _, rx, ry, kq.here w (d := .bl _) rfl h⟩
  · exact h.elim
end
end DL
set_option Elab.async false
set_option linter.all false
set_option maxRecDepth 100000
set_option maxHeartbeats 4000001
namespace DL.K22
open PySem L2 TL PyProof.Rows DL.K20
local macro_rules | `(tactic| walk_at "dd") => `(tactic| try simp only [dSeq, dAsg, dgName, dgTup, dgSub, dOp, dVar, dC, dAdd, dSub, dMul, dMod, dFDiv, dPow, dCmp, dNeg, dEqn, dIsN, dIx, dTup, dLst, dConsA, dNilA, dCB, dCall, dRet, dRetN, dDrop, dIfS, dNext, dBreak, dCont, dTest, dTru, dAndT, dOrT, dNotT, dAndV, dOrV, dNotV, dIf, dChain, dDGet, dDPut, dM1, dM0, dJoin, dSplit, dUpper, dBML, dAppend, dInsert, dPopAt, dLen, dInt, dStr, dTupOf, dListOf, dMax2, dSum, dAll, dSl, dPart, dNoPart, newLst, keyD, dFor, dLc, diSeq, diRng1, diRng2, diEnum, diEnumS, diStr,
  startD, setAll, wipeD, List.map_cons, List.map_nil, List.length_cons, List.length_nil, List.replicate, List.cons_append, List.nil_append, List.getElem?_cons_zero, List.getElem?_cons_succ, List.set_cons_zero, List.set_cons_succ, Nat.reduceAdd, Nat.reduceSub, Bool.false_eq_true, if_true, if_false, ite_true, ite_false, reduceIte])
local macro_rules | `(tactic| walk_at "cm") => `(tactic| first | exact .inl ⟨by omega, by omega⟩ | exact .inr ⟨by omega, by omega⟩ | exact ⟨by omega, by omega⟩ | omega | decide)
def rw22 : List Str := ["boats"]
abbrev P__law_word (BadText NoKind BadPoint BadSight Full BadMoment BadBoats BadMany NoFoe : Addr) : DP := P_lw rw22 BadText NoKind BadPoint BadSight Full BadMoment BadBoats BadMany NoFoe
def isBoatB : D → List Str → Bool
  | .tup [x, y], ns => isNameOf x ns && isNumB y 31
  | _, _ => false
/-- any plain value; of a pair, the parts too -/
def BoatV (μ : Mu) (x : D) : Prop := Any μ x ∧ ∀ a b, x = .tup [a, b] → Any μ a ∧ Any μ b
def namesOf (f : Flt) : List Str := f.2.map (·.1)
def P_is_boat : DP := fun ds μ Q => ∃ x y ns, ds = [x, y] ∧ BoatV μ x ∧ SeqD μ y (ns.map .str) ∧ Q (.bl (isBoatB x ns)) μ
def P_check_boat (Fleet BadBoats : Addr) : DPX := fun ds μ Q E => ∃ (a : Addr) (f : Flt) (x : D) (c : Str), ds = [.obj a, x, .str c] ∧ FleetAt Fleet a f μ ∧ Few f ∧ BoatV μ x ∧ c.length ≤ 20 ∧ if isBoatB x (namesOf f) = true then Q .non μ else E BadBoats [] μ
def colsOf (ls : List Lamp) (c : Int) : List (List Str) := (List.range 32).map fun s => colOf ls (((s : Nat) - c) % 32)
def colsD (cs : List (List Str)) : D := .lst (cs.map fun ns => .tup (ns.map .str))
def boatD (k : Str) (c : Int) : D := .tup [.str k, .int c]
def P_looks_of_boat (Fleet : Addr) : DP := fun ds μ Q => ∃ a f k c, ds = [.obj a, boatD k.1 c] ∧ FleetAt Fleet a f μ ∧ FleetOk f ∧ k ∈ f.2 ∧ (0 ≤ c ∧ c < 32) ∧ Q (colsD (colsOf k.2.2 c)) μ
def P_are_alike (Fleet BadBoats : Addr) : DPX := fun ds μ Q E => ∃ a f x y, ds = [.obj a, x, y] ∧ FleetAt Fleet a f μ ∧ FleetOk f ∧ BoatV μ x ∧ BoatV μ y ∧ if isBoatB x (namesOf f) = true then (if isBoatB y (namesOf f) = true then
    ∀ k c k2 c2, k ∈ f.2 → k2 ∈ f.2 → x = boatD k.1 c → y = boatD k2.1 c2 → Q (.bl (decide (colsOf k.2.2 c = colsOf k2.2.2 c2))) μ else E BadBoats [] μ) else E BadBoats [] μ
def boatsD (ns : List Str) : List D := (ns.map fun k => (rngD 0 32).map fun c => D.tup [.str k, c]).flatten
def P_all_boats (Fleet : Addr) : DP := fun ds μ Q => ∃ a f, ds = [.obj a] ∧ FleetAt Fleet a f μ ∧ Few f ∧ f.2.length ≤ 6 ∧ ∀ p, μ p = none → Q (.obj p) (put μ p (.lst (boatsD (namesOf f))))
def P__law_boats_of : DP := fun ds μ Q => ∃ f, ds = [fleetD f] ∧ f.2.length ≤ 6 ∧ Q (.lst (boatsD (namesOf f))) μ
def P__law_more : DP := fun ds μ Q => ∃ m dg cs ks n f, ds = [.obj m, fleetD f] ∧ MOk m dg (restD cs ks) n μ ∧ n < 2^27 ∧ GoodNames cs ∧ GoodNames ks ∧ GoodFleet cs ks f ∧
  ∀ f' k1 k2 far μ', FleetOk f' → k1 ∈ f'.2 → k2 ∈ f'.2 → (0 ≤ far ∧ far < 32) → (∀ b, colOf k2.2.2 b = colOf k1.2.2 ((b - far) % 32)) → MOk m dg (restD cs ks) (n + 2) μ' → Fr m dg μ μ' → Q (.tup [fleetD f', .str k1.1, .str k2.1, .int far]) μ'
def P__law_due : DP := fun ds μ Q => ∃ f k c k2 c2, ds = [fleetD f, boatD k.1 c, boatD k2.1 c2] ∧ FleetOk f ∧ k ∈ f.2 ∧ k2 ∈ f.2 ∧ Q (.bl (decide (colsOf k.2.2 c = colsOf k2.2.2 c2))) μ
def P__law_refused_right (T : List (Addr × Str)) (Fleet : Addr) : DP := fun ds μ Q => ∃ m dg rest n a f k, ds = [.obj m, .obj a, .str k] ∧ MOk m dg rest n μ ∧ n < 2^28 ∧ FleetAt Fleet a f μ ∧ FleetOk f ∧ k ∈ f.2.map (·.1) ∧ (a ≠ m ∧ a ≠ dg) ∧ TabsAre T μ ∧ ∀ μ', MOk m dg rest (n + 2) μ' → Fr m dg μ μ' → Q (.bl true) μ'
def P_law (T : List (Addr × Str)) : DP := fun ds μ Q => ∃ ns : List Int, ds = [.scr (ns.map .int)] ∧ ns.length ≤ 63 ∧ TabsAre T μ ∧ Q (.bl true) μ
/-! comparing columns -/
theorem eqv_strs : ∀ (xs ys : List Str), PyData.eqvAll (xs.map PyData.str) (ys.map PyData.str) = decide (xs = ys)
  | [], [] => by simp [PyData.eqvAll]
  | [], y :: ys => by simp [PyData.eqvAll]
  | x :: xs, [] => by simp [PyData.eqvAll]
  | x :: xs, y :: ys => by
    rw [List.map_cons, List.map_cons]
    simp only [PyData.eqvAll, PyData.eqv, eqv_strs xs ys]
    by_cases e : x = y
    · subst e; simp
    · simp [e]
theorem eqv_tups : ∀ (xs ys : List (List Str)), PyData.eqvAll (xs.map fun ns => .tuple (ns.map PyData.str)) (ys.map fun ns => .tuple (ns.map PyData.str)) = decide (xs = ys)
  | [], [] => by simp [PyData.eqvAll]
  | [], y :: ys => by simp [PyData.eqvAll]
  | x :: xs, [] => by simp [PyData.eqvAll]
  | x :: xs, y :: ys => by
    rw [List.map_cons, List.map_cons]
    simp only [PyData.eqvAll, PyData.eqv, eqv_strs, eqv_tups xs ys]
    by_cases e : x = y
    · subst e; simp
    · simp [e]
end DL.K22
set_option Elab.async false
set_option linter.all false
set_option maxRecDepth 100000
set_option maxHeartbeats 4000001
namespace DL.K22
open PySem L2 K20
def td_is_boat (isa : Value → Value → Option Bool)  : DS :=
  (dSeq (dIfS (dOrT (dNotT (dTru (dCB (dIsi isa) (dConsA (dVar 0) (dConsA (dC (.ty "tuple")) dNilA))))) (dTest (dOp (dEqn true) (dCB dLen (dConsA (dVar 0) dNilA)) (dC (.int 2))))) (dRet (dC (.bl false))) dNext)
    (dSeq (dAsg (dVar 0) (dgTup [2, 3]))
    (dRet (dAndV (dCall P_is_name_of (dConsA (dVar 2) (dConsA (dVar 1) dNilA))) (dCall P_is_point (dConsA (dVar 3) dNilA))))))
def td_check_boat (Fleet : Addr) (BadBoats : Addr) : DSX :=
  (xIf (dNotT (dTru (dCall P_is_boat (dConsA (dVar 1) (dConsA (dMeth Fleet "kinds" (P_Fleet_kinds Fleet) (dVar 0) dNilA) dNilA))))) (xOwn BadBoats (dFs3 "the " " boat is none of the fleet" (dVar 2))) (xLift dNext))
def td_looks_of_boat (Fleet : Addr) (NoKind : Addr) (BadPoint : Addr) : DS :=
  (dSeq (dAsg (dVar 1) (dgTup [2, 3]))
    (dRet (dLc false (diRng1 (dConsA (dC (.int 32)) dNilA)) (dgName 4) dYes (dCall (quiet (P_seen Fleet NoKind BadPoint)) (dConsA (dVar 0) (dConsA (dVar 2) (dConsA (dVar 3) (dConsA (dVar 4) dNilA))))) [4])))
def td_are_alike (Fleet : Addr) (BadBoats : Addr) : DSX :=
  (xSeq (xDrop (xCall (P_check_boat Fleet BadBoats) (dConsA (dVar 0) (dConsA (dVar 1) (dConsA (dC (.str "one")) dNilA)))))
    (xSeq (xDrop (xCall (P_check_boat Fleet BadBoats) (dConsA (dVar 0) (dConsA (dVar 2) (dConsA (dC (.str "other")) dNilA)))))
    (xLift (dRet (dOp (dEqn false) (dCall (P_looks_of_boat Fleet) (dConsA (dVar 0) (dConsA (dVar 1) dNilA))) (dCall (P_looks_of_boat Fleet) (dConsA (dVar 0) (dConsA (dVar 2) dNilA))))))))
def td_all_boats (Fleet : Addr) : DS :=
  (dRet (dLc2 true (diSeq (dMeth Fleet "kinds" (P_Fleet_kinds Fleet) (dVar 0) dNilA)) (dgName 1) dYes (diRng1 (dConsA (dC (.int 32)) dNilA)) (dgName 2) dYes (dTup (dConsA (dVar 1) (dConsA (dVar 2) dNilA))) [1, 2] [2]))
def td__law_boats_of  : DS :=
  (dSeq (dAsg (dLst false dNilA) (dgName 1))
    (dSeq (dFor (diSeq (dOp dIx (dVar 0) (dC (.int 1)))) (dgTup [2, 3, 4]) (dAsg (dOp (dAdd false) (dVar 1) (dLc false (diRng1 (dConsA (dC (.int 32)) dNilA)) (dgName 5) dYes (dTup (dConsA (dVar 2) (dConsA (dVar 5) dNilA))) [5])) (dgName 1)))
    (dRet (dVar 1))))
def td__law_lost_ret (BadText : Addr) (NoKind : Addr) (BadPoint : Addr) (BadSight : Addr) (Full : Addr) (BadMoment : Addr) (BadBoats : Addr) (BadMany : Addr) (NoFoe : Addr) : DS :=
  (dRet (dIf (dTest (dOp (dIsN false) (dVar 1) (dC .non))) (dC (.str "")) (dCall (P__law_word BadText NoKind BadPoint BadSight Full BadMoment BadBoats BadMany NoFoe) (dConsA (dVar 1) dNilA))))
def td__law_more  : DS :=
  (dSeq (dAsg (dOp dIx (dOp dIx (dVar 1) (dC (.int 1))) (dCall P__law_draw (dConsA (dVar 0) (dConsA (dCB dLen (dConsA (dOp dIx (dVar 1) (dC (.int 1))) dNilA)) dNilA)))) (dgTup [2, 3, 4]))
    (dSeq (dAsg (dCall P__law_draw (dConsA (dVar 0) (dConsA (dC (.int 32)) dNilA))) (dgName 5))
    (dSeq (dAsg (dCB dTupOf (dConsA (dLc false (diSeq (dVar 4)) (dgTup [7, 8, 9]) dYes (dTup (dConsA (dVar 7) (dConsA (dOp dMod (dOp (dAdd false) (dVar 8) (dVar 5)) (dC (.int 32))) (dConsA (dOp dMod (dOp (dAdd false) (dVar 9) (dVar 5)) (dC (.int 32))) dNilA)))) [7, 8, 9]) dNilA)) (dgName 6))
    (dSeq (dIfS (dTest (dOp (dEqn false) (dCB dLen (dConsA (dOp dIx (dVar 1) (dC (.int 1))) dNilA)) (dC (.int 6)))) (dRet (dTup (dConsA (dVar 1) (dConsA (dVar 2) (dConsA (dVar 2) (dConsA (dC (.int 0)) dNilA)))))) dNext)
    (dSeq (dAsg (dOp dIx (dDGet (dVar 0) (dC (.str "kinds"))) (dCB dLen (dConsA (dOp dIx (dVar 1) (dC (.int 1))) dNilA))) (dgName 10))
    (dRet (dTup (dConsA (dTup (dConsA (dOp dIx (dVar 1) (dC (.int 0))) (dConsA (dOp (dAdd false) (dOp dIx (dVar 1) (dC (.int 1))) (dTup (dConsA (dTup (dConsA (dVar 10) (dConsA (dVar 3) (dConsA (dVar 6) dNilA)))) dNilA))) dNilA))) (dConsA (dVar 2) (dConsA (dVar 10) (dConsA (dVar 5) dNilA)))))))))))
def td__law_due  : DS :=
  (dSeq (dFor (diRng1 (dConsA (dC (.int 32)) dNilA)) (dgName 3) (dIfS (dTest (dOp (dEqn true) (dCall P__law_column (dConsA (dVar 0) (dConsA (dVar 1) (dConsA (dVar 3) dNilA)))) (dCall P__law_column (dConsA (dVar 0) (dConsA (dVar 2) (dConsA (dVar 3) dNilA)))))) (dRet (dC (.bl false))) dNext))
    (dRet (dC (.bl true))))
def td__law_refused_right (cat : Addr → Option Bool) (Fleet : Addr) (BadBoats : Addr) (BadText : Addr) (NoKind : Addr) (BadPoint : Addr) (BadSight : Addr) (Full : Addr) (BadMoment : Addr) (BadMany : Addr) (NoFoe : Addr) (T : List (Addr × Str)) : DS :=
  (dSeq (dAsg (dLst false (dConsA (dC .non) (dConsA (dC (.int 5)) (dConsA (dVar 2) (dConsA (dTup (dConsA (dVar 2) dNilA)) (dConsA (dTup (dConsA (dVar 2) (dConsA (dC (.int 32)) dNilA))) (dConsA (dTup (dConsA (dVar 2) (dConsA (dNeg (dC (.int 1))) dNilA))) (dConsA (dTup (dConsA (dVar 2) (dConsA (dC (.bl true)) dNilA))) (dConsA (dLst false (dConsA (dVar 2) (dConsA (dC (.int 0)) dNilA))) (dConsA (dTup (dConsA (dVar 2) (dConsA (dC (.int 0)) (dConsA (dC (.int 0)) dNilA)))) (dConsA (dTup (dConsA (dC (.str "zzzzzzz")) (dConsA (dC (.int 0)) dNilA))) dNilA))))))))))) (dgName 3))
    (dSeq (dAsg (dOp (dAdd false) (dVar 3) (dLst false (dConsA (dTup (dConsA (dC .non) (dConsA (dC (.int 0)) dNilA))) (dConsA (dTup (dConsA (dLst false (dConsA (dVar 2) dNilA)) (dConsA (dC (.int 0)) dNilA))) (dConsA dDNew (dConsA (dTup (dConsA (dVar 2) (dConsA (dC (.str "0")) dNilA))) (dConsA (dTup dNilA) (dConsA (dTup (dConsA (dC (.int 0)) (dConsA (dVar 2) dNilA))) (dConsA (dTup (dConsA (dVar 2) (dConsA (dOp (dAdd false) (dC (.int 32)) (dCall P__law_draw (dConsA (dVar 0) (dConsA (dC (.int 1000)) dNilA)))) dNilA))) dNilA))))))))) (dgName 3))
    (dSeq (dAsg (dOp dIx (dVar 3) (dCall P__law_draw (dConsA (dVar 0) (dConsA (dC (.int 17)) dNilA)))) (dgName 4))
    (dSeq (dAsg (dLst true (dConsA (dLost T cat (xCall (P_are_alike Fleet BadBoats) (dConsA (dVar 1) (dConsA (dVar 4) (dConsA (dTup (dConsA (dVar 2) (dConsA (dC (.int 0)) dNilA))) dNilA)))) (td__law_lost_ret BadText NoKind BadPoint BadSight Full BadMoment BadBoats BadMany NoFoe)) dNilA)) (dgName 5))
    (dSeq (dDrop (dBML dAppend (dVar 5) (dConsA (dLost T cat (xCall (P_are_alike Fleet BadBoats) (dConsA (dVar 1) (dConsA (dTup (dConsA (dVar 2) (dConsA (dC (.int 31)) dNilA))) (dConsA (dVar 4) dNilA)))) (td__law_lost_ret BadText NoKind BadPoint BadSight Full BadMoment BadBoats BadMany NoFoe)) dNilA)))
    (dSeq (dDrop (dBML dAppend (dVar 5) (dConsA (dLost T cat (xCall (P_are_alike Fleet BadBoats) (dConsA (dVar 1) (dConsA (dVar 4) (dConsA (dVar 4) dNilA)))) (td__law_lost_ret BadText NoKind BadPoint BadSight Full BadMoment BadBoats BadMany NoFoe)) dNilA)))
    (dRet (dOp (dEqn false) (dVar 5) (dOp (dMul false) (dLst false (dConsA (dC (.str "boats")) dNilA)) (dC (.int 3)))))))))))
def td_law (isa : Value → Value → Option Bool) (Fleet : Addr) (BadBoats : Addr) (T : List (Addr × Str)) : DS :=
  (dSeq (dAsg (dCall P__law_begun (dConsA (dVar 0) dNilA)) (dgName 1))
    (dSeq (dAsg (dCall P__law_more (dConsA (dVar 1) (dConsA (dCall P__law_fleet (dConsA (dVar 1) dNilA)) dNilA))) (dgTup [2, 3, 4, 5]))
    (dSeq (dAsg (dMake Fleet (P_Fleet___init__ Fleet) (dConsA (dVar 2) dNilA)) (dgName 6))
    (dSeq (dAsg (dCall P__law_boats_of (dConsA (dVar 2) dNilA)) (dgName 7))
    (dSeq (dFor (diRng1 (dConsA (dC (.int 2)) dNilA)) (dgName 8) (dSeq (dAsg (dCall (P_all_boats Fleet) (dConsA (dVar 6) dNilA)) (dgName 9))
    (dSeq (dIfS (dOrT (dNotT (dTru (dCB (dIsi isa) (dConsA (dVar 9) (dConsA (dC (.ty "list")) dNilA))))) (dTest (dOp (dEqn true) (dCB dRepr (dConsA (dVar 9) dNilA)) (dCB dRepr (dConsA (dVar 7) dNilA))))) (dRet (dC (.bl false))) dNext)
    (dDrop (dBML dAppend (dVar 9) (dConsA (dC .non) dNilA))))))
    (dSeq (dFor (diRng1 (dConsA (dC (.int 12)) dNilA)) (dgName 8) (dSeq (dAsg (dOp dIx (dVar 7) (dCall P__law_draw (dConsA (dVar 1) (dConsA (dCB dLen (dConsA (dVar 7) dNilA)) dNilA)))) (dgName 10))
    (dSeq (dAsg (dOp dIx (dVar 7) (dCall P__law_draw (dConsA (dVar 1) (dConsA (dCB dLen (dConsA (dVar 7) dNilA)) dNilA)))) (dgName 11))
    (dSeq (dIfS (dTest (dOp (dEqn false) (dOp dMod (dVar 8) (dC (.int 3))) (dC (.int 0)))) (dSeq (dAsg (dTup (dConsA (dVar 3) (dConsA (dCall P__law_draw (dConsA (dVar 1) (dConsA (dC (.int 32)) dNilA))) dNilA))) (dgName 10))
    (dAsg (dTup (dConsA (dVar 4) (dConsA (dOp dMod (dOp dSub (dOp dIx (dVar 10) (dC (.int 1))) (dVar 5)) (dC (.int 32))) dNilA))) (dgName 11))) dNext)
    (dSeq (dAsg (dOrV (dCall P__law_due (dConsA (dVar 2) (dConsA (dVar 10) (dConsA (dVar 11) dNilA)))) (dOp (dEqn false) (dOp dMod (dVar 8) (dC (.int 3))) (dC (.int 0)))) (dgName 12))
    (dSeq (dAsg (dLst false (dConsA (dCall (quiet (P_are_alike Fleet BadBoats)) (dConsA (dVar 6) (dConsA (dVar 10) (dConsA (dVar 11) dNilA)))) (dConsA (dCall (quiet (P_are_alike Fleet BadBoats)) (dConsA (dVar 6) (dConsA (dVar 11) (dConsA (dVar 10) dNilA)))) dNilA))) (dgName 13))
    (dSeq (dIfS (dTest (dOp (dEqn true) (dCB dRepr (dConsA (dVar 13) dNilA)) (dCB dRepr (dConsA (dLst false (dConsA (dVar 12) (dConsA (dVar 12) dNilA))) dNilA)))) (dRet (dC (.bl false))) dNext)
    (dIfS (dOrT (dTest (dOp dNotB (dCall (quiet (P_are_alike Fleet BadBoats)) (dConsA (dVar 6) (dConsA (dVar 10) (dConsA (dVar 10) dNilA)))) (dC (.bl true)))) (dNotT (dTru (dCall (P__law_refused_right T Fleet) (dConsA (dVar 1) (dConsA (dVar 6) (dConsA (dOp dIx (dVar 10) (dC (.int 0))) dNilA))))))) (dRet (dC (.bl false))) dNext))))))))
    (dRet (dOp (dEqn false) (dCB dRepr (dConsA (dMeth Fleet "plain" (P_Fleet_plain Fleet) (dVar 6) dNilA) dNilA)) (dCB dRepr (dConsA (dVar 2) dNilA))))))))))

abbrev N_is_number : List Str := ["value", "most"]
abbrev N_is_point : List Str := ["value"]
abbrev N_is_name_of : List Str := ["value", "names"]
abbrev N_is_boat : List Str := ["value", "kinds", "kind", "course"]
abbrev N_check_point : List Str := ["value", "called"]
abbrev N_shows : List Str := ["first", "last", "bearing"]
abbrev N_colours_at : List Str := ["lamps", "bearing", "colour", "first", "last"]
abbrev N_kind_row : List Str := ["row", "kind", "turn", "lamps", "lamp"]
abbrev N_Fleet___init__ : List Str := ["self", "plain", "colours", "kinds", "row"]
abbrev N_Fleet_plain : List Str := ["self"]
abbrev N_Fleet_kinds : List Str := ["self", "row"]
abbrev N_Fleet__row : List Str := ["self", "kind", "kinds"]
abbrev N_Fleet_lamps : List Str := ["self", "kind"]
abbrev N_check_boat : List Str := ["fleet", "value", "called"]
abbrev N_seen : List Str := ["fleet", "kind", "course", "side", "lamps"]
abbrev N_looks_of_boat : List Str := ["fleet", "boat", "kind", "course", "side"]
abbrev N_are_alike : List Str := ["fleet", "one", "other"]
abbrev N_all_boats : List Str := ["fleet", "kind", "course"]
abbrev N__law_mixed : List Str := ["_law_cell", "_law_k", "_law_number"]
abbrev N__law_folded : List Str := ["_law_script", "_law_found", "_law_k", "_law_cell"]
abbrev N__law_draw : List Str := ["_law_m", "_law_many", "_law_k", "_law_at", "_law_cell"]
abbrev N__law_names : List Str := ["_law_cell", "_law_many", "_law_letters", "_law_k", "_law_size", "_law_at", "_law_row", "_law_j", "_law_found", "_law_sign", "_law_bars", "_law_name"]
abbrev N__law_lamp : List Str := ["_law_m", "_law_colours", "_law_first", "_law_wide"]
abbrev N__law_lamps : List Str := ["_law_m", "_law_colours", "_law_rows", "_law_k", "_law_lamps_here", "_law_at", "_law_way", "_law_colour", "_law_first", "_law_last"]
abbrev N__law_fleet : List Str := ["_law_m", "_law_great", "_law_colours", "_law_rows", "_law_name", "_law_turn"]
abbrev N__law_column : List Str := ["_law_fleet_here", "_law_boat", "_law_side", "_law_bearing", "_law_found", "_law_kind", "_law_turn", "_law_lamps_here", "_law_colour", "_law_first", "_law_last"]
abbrev N__law_boats_of : List Str := ["_law_fleet_here", "_law_found", "_law_kind", "_law_turn", "_law_lamps_here", "_law_course"]
abbrev N__law_begun : List Str := ["_law_script", "_law_m", "_law_seeds", "_law_k"]
abbrev N__law_word : List Str := ["_law_e", "_law_some", "_law_found", "_law_word_here", "_law_is_it"]
abbrev N__law_lost : List Str := ["_law_deed", "_law_caught", "_law_e"]
abbrev N__law_more : List Str := ["_law_m", "_law_plain", "_law_name", "_law_turn", "_law_lamps_here", "_law_far", "_law_turned", "_law_colour", "_law_first", "_law_last", "_law_other"]
abbrev N__law_due : List Str := ["_law_plain", "_law_one", "_law_other", "_law_side"]
abbrev N__law_refused_right : List Str := ["_law_m", "_law_fleet_here", "_law_kind", "_law_odd", "_law_one", "_law_words"]
abbrev N_law : List Str := ["_law_script", "_law_m", "_law_plain", "_law_name", "_law_other", "_law_far", "_law_fleet_here", "_law_boats", "_law_turn", "_law_found", "_law_one", "_law_two", "_law_due_here", "_law_told"]
end DL.K22
set_option Elab.async false
set_option linter.all false
set_option maxRecDepth 100000
set_option maxHeartbeats 4000001
namespace DL.K22
open PySem L2 TL PyProof.Rows DL.K20
local macro_rules | `(tactic| walk_at "dd") => `(tactic| try simp only [dSeq, dAsg, dgName, dgTup, dgSub, dOp, dVar, dC, dAdd, dSub, dMul, dMod, dFDiv, dPow, dCmp, dNeg, dEqn, dIsN, dIx, dTup, dLst, dConsA, dNilA, dCB, dCall, dRet, dRetN, dDrop, dIfS, dNext, dBreak, dCont, dTest, dTru, dAndT, dOrT, dNotT, dAndV, dOrV, dNotV, dIf, dChain, dDGet, dDPut, dM1, dM0, dJoin, dSplit, dUpper, dBML, dAppend, dInsert, dPopAt, dLen, dInt, dStr, dTupOf, dListOf, dMax2, dSum, dAll, dSl, dPart, dNoPart, newLst, keyD, dFor, dLc, diSeq, diRng1, diRng2, diEnum, diEnumS, diStr,
  startD, setAll, wipeD, List.map_cons, List.map_nil, List.length_cons, List.length_nil, List.replicate, List.cons_append, List.nil_append, List.getElem?_cons_zero, List.getElem?_cons_succ, List.set_cons_zero, List.set_cons_succ, Nat.reduceAdd, Nat.reduceSub, Bool.false_eq_true, if_true, if_false, ite_true, ite_false, reduceIte])
local macro_rules | `(tactic| walk_at "cm") => `(tactic| first | exact .inl ⟨by omega, by omega⟩ | exact .inr ⟨by omega, by omega⟩ | exact ⟨by omega, by omega⟩ | omega | decide)
local macro_rules | `(tactic| walk_at "dx") => `(tactic| try simp only [xSeq, xIf, xLift, xRet, xDrop, xSet, xCall, xMeth, xOp, xCB1, xOwn, dFs3, quiet])
theorem ty_tup {μ : Mu} {x : D} {t : String} (h : TyD μ x (.type t)) : (t = "tuple" ∧ ∃ xs, x = .tup xs) ∨ (t ≠ "tuple" ∧ ∀ ns, isBoatB x ns = false) := by
  generalize e : Value.type t = v at h
  cases h <;> cases e
  all_goals first | exact .inl ⟨rfl, _, rfl⟩ | exact .inr ⟨by decide, fun _ => rfl⟩
theorem rd_is_boat {isa : Value → Value → Option Bool} (ok : IsaP isa) : ∀ ds μ Q, P_is_boat ds μ Q → td_is_boat isa { nx := fun _ μ' => GhQ Q .non μ', rt := GhQ Q } (startD N_is_boat ds) μ := by
  rintro ds μ Q ⟨x, y, ns, rfl, ⟨⟨t, ht, hm⟩, hp⟩, hs, q⟩
  have q' : GhQ Q _ μ := .self q
  unfold td_is_boat N_is_boat
  walk_at "dd"
  refine isi_any ok ht hm (by decide) ⟨trivial, ?_⟩
  rcases ty_tup ht with ⟨rfl, xs, rfl⟩ | ⟨ne, no⟩
  · rw [show kitB "tuple" "tuple" = true from by decide]
    show ∃ ys, SeqD μ (.tup xs) ys ∧ _
    refine ⟨xs, rfl, ?_⟩
    show if (!decide (((xs.length : Nat) : Int) = 2)) = true then _ else _
    by_cases e : xs.length = 2
    · obtain ⟨a, b, rfl⟩ : ∃ a b, xs = [a, b] := by
        match xs, e with
        | [a, b], _ => exact ⟨a, b, rfl⟩
      obtain ⟨ha, hb⟩ := hp a b rfl
      rw [if_neg (by simp)]
      refine ⟨rfl, ?_⟩
      show P_is_name_of [a, y] μ _
      refine ⟨a, y, ns, rfl, ha, hs, ?_⟩
      have q2 : GhQ Q (.bl (isNameOf a ns && isNumB b 31)) μ := q'
      show if isNameOf a ns = true then _ else _
      by_cases e1 : isNameOf a ns = true
      · rw [e1, Bool.true_and] at q2
        rw [if_pos e1]
        exact ⟨b, rfl, hb, q2⟩
      · have e1' : isNameOf a ns = false := by simpa using e1
        rw [e1', Bool.false_and] at q2
        rw [if_neg e1]
        exact q2
    · have e2 : isBoatB (.tup xs) ns = false := by
        match xs, e with
        | [], _ => rfl
        | [_], _ => rfl
        | [_, _], e => exact absurd rfl e
        | _ :: _ :: _ :: _, _ => rfl
      rw [e2] at q'
      have ne : ¬ ((xs.length : Nat) : Int) = 2 := fun z => e (by omega)
      rw [decide_eq_false ne, if_pos (by rfl)]
      exact q'
  · have e : kitB t "tuple" = false := by
      unfold kitB
      rw [decide_eq_false ne, decide_eq_false (p := "tuple" = "int") (by decide), Bool.and_false]
      rfl
    rw [e]
    rw [no ns] at q'
    exact q'
theorem boat_fr {μ : Mu} {x : D} {p : Addr} {o : MO} (h : BoatV μ x) (hp : μ p = none) : BoatV (put μ p o) x := ⟨any_fr h.1 hp, fun a b e => ⟨any_fr (h.2 a b e).1 hp, any_fr (h.2 a b e).2 hp⟩⟩
theorem rd_check_boat {Fleet BadBoats : Addr} : ∀ ds μ Q E, P_check_boat Fleet BadBoats ds μ Q E → td_check_boat Fleet BadBoats (fun C fs _ μ' => GhE E C fs μ') { nx := fun _ μ' => GhQ Q .non μ', rt := GhQ Q } (startD N_check_boat ds) μ := by
  rintro ds μ Q E ⟨a, f, x, c, rfl, ha, few, hx, hc, q⟩
  unfold td_check_boat N_check_boat
  walk_at "dx"
  walk_at "dd"
  unfold dMeth
  walk_at "dd"
  refine ⟨⟨_, ha, fl_no (by decide +kernel) (by decide +kernel)⟩, a, f, rfl, ha, few, fun p hp => ?_⟩
  have sub : SubM μ (put μ p (.lst ((f.2.map (·.1)).map .str))) := SubM.new hp
  refine ⟨x, .obj p, namesOf f, rfl, boat_fr hx hp, put_same, trivial, ?_⟩
  by_cases e : isBoatB x (namesOf f) = true
  · rw [if_pos e] at q
    rw [e]
    exact .sub sub q
  · have e' : isBoatB x (namesOf f) = false := by simpa using e
    rw [if_neg e] at q
    rw [e']
    exact ⟨_, rfl, by omega, μ, sub, q⟩
theorem colsD_rng (ls : List Lamp) (c : Int) : D.lst ((rngD 0 32).map (colF ls c)) = colsD (colsOf ls c) := by
  unfold colsD colsOf rngD
  rw [List.map_map, List.map_map]
  refine congrArg D.lst (List.map_congr_left fun s _ => ?_)
  show D.tup ((colOf ls ((0 + ((s : Nat) : Int) - c) % 32)).map .str) = D.tup ((colOf ls ((((s : Nat) : Int) - c) % 32)).map .str)
  rw [Int.zero_add]
theorem rd_looks_of_boat {Fleet NoKind BadPoint : Addr} : ∀ ds μ Q, P_looks_of_boat Fleet ds μ Q → td_looks_of_boat Fleet NoKind BadPoint { nx := fun _ μ' => GhQ Q .non μ', rt := GhQ Q } (startD N_looks_of_boat ds) μ := by
  rintro ds μ Q ⟨a, f, k, c, rfl, ha, ok, hk, hc, q⟩
  unfold td_looks_of_boat N_looks_of_boat boatD
  walk_at "dd"
  refine ⟨trivial, ⟨by decide, by decide⟩, LcB.pure (colF k.2.2 c) trivial (by decide) (fun j d Qd hd y => ?_) ?_⟩
  · obtain ⟨hj, rfl⟩ := rngD_get hd
    walk_at "dd"
    refine ⟨a, f, _, _, _, rfl, ha, few_ok ok, any_str _, any_int _, any_int _, ?_⟩
    rw [kind_of ok hk]
    dsimp only
    rw [if_pos (num_ok hc), if_pos (num_ok ⟨by omega, by omega⟩)]
    intro c' s hc' hs
    cases hc'
    cases hs
    exact y
  · refine newLst_f ?_
    show GhQ Q (D.lst ((rngD 0 32).map (colF k.2.2 c))) μ
    rw [colsD_rng]
    exact .self q
theorem cols_asc {f : Flt} {k : Kind} (ok : FleetOk f) (hk : k ∈ f.2) (c : Int) : ∀ ns ∈ colsOf k.2.2 c, ∀ s ∈ ns, Asc s := by
  obtain ⟨_, _, l1, l6, g⟩ := ok.kg k hk
  intro ns hn s hs
  obtain ⟨i, _, rfl⟩ := List.mem_map.mp hn
  unfold colOf at hs
  obtain ⟨l, hl, rfl⟩ := List.mem_map.mp hs
  exact (name_asc (ok.cn _ (g l (List.mem_filter.mp hl).1).1)).2
theorem lay_tups : ∀ {xs : List (List Str)}, (∀ ns ∈ xs, ∀ s ∈ ns, Asc s) → PyData.canLayAll0 (xs.map fun ns => .tuple (ns.map PyData.str)) = true ∧ PyData.depthAll (xs.map fun ns => .tuple (ns.map PyData.str)) ≤ 1
  | [], _ => by simp [PyData.canLayAll0, PyData.depthAll]
  | x :: xs, h => by
    obtain ⟨h1, h2⟩ := lay_tups (xs := xs) fun ns hn => h ns (List.mem_cons_of_mem _ hn)
    rw [List.map_cons, PyData.canLayAll0, PyData.depthAll, h1]
    rw [PyData.canLay0, lay_strs x (h x List.mem_cons_self), PyData.depth, dep_strs]
    exact ⟨rfl, by omega⟩
theorem shaped_cols {xs : List (List Str)} (h : ∀ ns ∈ xs, ∀ s ∈ ns, Asc s) : SeqAt.shaped (.list (xs.map fun ns => .tuple (ns.map PyData.str))) = true := by
  obtain ⟨h1, h2⟩ := lay_tups h
  unfold SeqAt.shaped
  rw [PyData.canLay0, h1, PyData.depth]
  simp
  omega
theorem pd_colsL : ∀ (xs : List (List Str)), pdL (xs.map fun ns => D.tup (ns.map .str)) = some (xs.map fun ns => .tuple (ns.map PyData.str))
  | [] => by simp [pdL]
  | x :: xs => by rw [List.map_cons, pdL, pd, pdL_strs, pd_colsL xs] <;> rfl
theorem pd_cols (xs : List (List Str)) {μ : Mu} : pdM μ (colsD xs) = some (.list (xs.map fun ns => .tuple (ns.map PyData.str))) := by
  show pd (.lst _) = _
  rw [pd, pd_colsL]; rfl
theorem eq_cols {xs ys : List (List Str)} {μ : Mu} {Q : DK} (h1 : ∀ ns ∈ xs, ∀ s ∈ ns, Asc s) (h2 : ∀ ns ∈ ys, ∀ s ∈ ns, Asc s) (q : Q (.bl (decide (xs = ys))) μ) : dEqn false (colsD xs) (colsD ys) μ Q := by
  refine ⟨_, _, pd_cols xs, pd_cols ys, shaped_cols h1, shaped_cols h2, ?_⟩
  have e : PyData.eqv (.list (xs.map fun ns => .tuple (ns.map PyData.str))) (.list (ys.map fun ns => .tuple (ns.map PyData.str))) = decide (xs = ys) := eqv_tups xs ys
  rw [e]
  exact q
theorem boat_is {f : Flt} {x : D} (h : isBoatB x (namesOf f) = true) : ∃ k c, k ∈ f.2 ∧ x = boatD k.1 c ∧ 0 ≤ c ∧ c < 32 := by
  obtain ⟨a, b, rfl⟩ : ∃ a b, x = .tup [a, b] := by
    unfold isBoatB at h
    split at h
    · exact ⟨_, _, rfl⟩
    · cases h
  have h' : (isNameOf a (namesOf f) && isNumB b 31) = true := h
  rw [Bool.and_eq_true] at h'
  obtain ⟨h1, h2⟩ := h'
  obtain ⟨c, rfl⟩ := num_int h2
  have h3 : (decide (0 ≤ c) && decide (c ≤ 31)) = true := h2
  simp only [Bool.and_eq_true, decide_eq_true_eq] at h3
  obtain ⟨s, rfl⟩ : ∃ s, a = .str s := by
    cases a <;> first | exact ⟨_, rfl⟩ | cases h1
  have h4 : s ∈ namesOf f := of_decide_eq_true (show decide (s ∈ namesOf f) = true from h1)
  obtain ⟨k, hk, rfl⟩ := List.mem_map.mp h4
  exact ⟨k, c, hk, rfl, h3.1, by omega⟩
theorem rd_are_alike {Fleet BadBoats : Addr} : ∀ ds μ Q E, P_are_alike Fleet BadBoats ds μ Q E → td_are_alike Fleet BadBoats (fun C fs _ μ' => GhE E C fs μ') { nx := fun _ μ' => GhQ Q .non μ', rt := GhQ Q } (startD N_are_alike ds) μ := by
  rintro ds μ Q E ⟨a, f, x, y, rfl, ha, ok, hx, hy, q⟩
  unfold td_are_alike N_are_alike
  walk_at "dx"
  walk_at "dd"
  refine ⟨a, f, x, "one", rfl, ha, few_ok ok, hx, by decide +kernel, ?_⟩
  by_cases e1 : isBoatB x (namesOf f) = true
  · rw [if_pos e1] at q ⊢
    walk_at "dd"
    refine ⟨a, f, y, "other", rfl, ha, few_ok ok, hy, by decide +kernel, ?_⟩
    by_cases e2 : isBoatB y (namesOf f) = true
    · rw [if_pos e2] at q ⊢
      obtain ⟨k, c, hk, rfl, c0, c1⟩ := boat_is e1
      obtain ⟨k2, c2, hk2, rfl, d0, d1⟩ := boat_is e2
      walk_at "dd"
      refine ⟨a, f, k, c, rfl, ha, ok, hk, ⟨c0, c1⟩, a, f, k2, c2, rfl, ha, ok, hk2, ⟨d0, d1⟩, ?_⟩
      exact eq_cols (Q := GhQ Q) (cols_asc ok hk c) (cols_asc ok hk2 c2) (.self (q k c k2 c2 hk hk2 rfl rfl))
    · rw [if_neg e2] at q ⊢
      exact ⟨μ, (fun _ _ h => h), q⟩
  · rw [if_neg e1] at q ⊢
    exact ⟨μ, (fun _ _ h => h), q⟩
theorem boats_snoc (ns : List Str) (k : Str) : boatsD (ns ++ [k]) = boatsD ns ++ (rngD 0 32).map fun c => D.tup [.str k, c] := by
  unfold boatsD
  rw [List.map_append, List.flatten_append]
  simp
theorem boats_len (ns : List Str) : (boatsD ns).length = 32 * ns.length := by
  unfold boatsD
  induction ns with
  | nil => rfl
  | cons k ns ih => rw [List.map_cons, List.flatten_cons, List.length_append, ih, List.length_map, rngD_len, List.length_cons]; omega
theorem rd_all_boats {Fleet : Addr} : ∀ ds μ Q, P_all_boats Fleet ds μ Q → td_all_boats Fleet { nx := fun _ μ' => GhQ Q .non μ', rt := GhQ Q } (startD N_all_boats ds) μ := by
  rintro ds μ Q ⟨a, f, rfl, ha, few, l6, q⟩
  unfold td_all_boats N_all_boats dMeth
  walk_at "dd"
  refine ⟨⟨_, ha, fl_no (by decide +kernel) (by decide +kernel)⟩, a, f, rfl, ha, few, fun p0 hp0 => ⟨_, put_same, ?_⟩⟩
  have nl : (namesOf f).length = f.2.length := by unfold namesOf; rw [List.length_map]
  refine ⟨fun i acc ν => acc = boatsD ((namesOf f).take i) ∧ ν = put μ p0 (.lst ((namesOf f).map .str)), ⟨rfl, rfl⟩, fun i acc ν _ h => by rw [h.2]; exact put_same, fun i d acc ν hd hI => ?_, fun acc ν hI => ?_⟩
  · obtain ⟨rfl, rfl⟩ := hI
    obtain ⟨k, hk, rfl⟩ := map_get hd
    have hi : i < (namesOf f).length := (List.getElem?_eq_some_iff.mp hk).1
    walk_at "dd"
    refine ⟨⟨by decide, by decide⟩, fun j acc ν => acc = boatsD ((namesOf f).take i) ++ ((rngD 0 32).take j).map (fun c => D.tup [.str k, c]) ∧ ν = put μ p0 (.lst ((namesOf f).map .str)), ⟨by simp, rfl⟩, fun _ _ _ _ _ => trivial, fun j d1 acc1 ν hd1 hJ => ?_, fun acc1 ν hJ => ?_⟩
    · obtain ⟨rfl, rfl⟩ := hJ
      have hj : j < 32 := (rngD_get hd1).1
      refine ⟨small ?_, ?_⟩
      · rw [List.length_append, boats_len, List.length_map, List.length_take, List.length_take]; omega
      walk_at "dd"
      refine ⟨by show 2 ≤ sizeLine; decide, ?_, rfl⟩
      have hd2 : (rngD 0 32)[j]? = some d1 := hd1
      rw [List.take_add_one, hd2, List.map_append, List.append_assoc]
      rfl
    · obtain ⟨rfl, rfl⟩ := hJ
      refine ⟨?_, rfl⟩
      have hk' : (namesOf f)[i]? = some k := hk
      rw [take_snoc hk', boats_snoc]
      congr 2
  · obtain ⟨rfl, rfl⟩ := hI
    intro p hp
    have e : (namesOf f).take ((namesOf f).map D.str).length = namesOf f := by rw [List.length_map, List.take_length]
    have hp' : μ p = none := by
      cases z : μ p with
      | none => rfl
      | some o => rw [put_ne fun w => by rw [w, hp0] at z; cases z] at hp; rw [z] at hp; cases hp
    refine GhQ.sub (μ' := put μ p (.lst (boatsD (namesOf f)))) (fun b o z => ?_) (q p hp')
    show put (put μ p0 _) p (.lst (boatsD ((namesOf f).take ((namesOf f).map D.str).length))) b = some o
    rw [e]
    by_cases h : b = p
    · subst h; rw [put_same] at z ⊢; exact z
    · rw [put_ne h] at z ⊢
      rw [put_ne fun w => by rw [w, hp0] at z; cases z]; exact z
end DL.K22
set_option Elab.async false
set_option linter.all false
set_option maxRecDepth 100000
set_option maxHeartbeats 4000001
namespace DL.K22
open PySem L2 TL PyProof.Rows DL.K20
local macro_rules | `(tactic| walk_at "dd") => `(tactic| try simp only [dSeq, dAsg, dgName, dgTup, dgSub, dOp, dVar, dC, dAdd, dSub, dMul, dMod, dFDiv, dPow, dCmp, dNeg, dEqn, dIsN, dIx, dTup, dLst, dConsA, dNilA, dCB, dCall, dRet, dRetN, dDrop, dIfS, dNext, dBreak, dCont, dTest, dTru, dAndT, dOrT, dNotT, dAndV, dOrV, dNotV, dIf, dChain, dDGet, dDPut, dM1, dM0, dJoin, dSplit, dUpper, dBML, dAppend, dInsert, dPopAt, dLen, dInt, dStr, dTupOf, dListOf, dMax2, dSum, dAll, dSl, dPart, dNoPart, newLst, keyD, dFor, dLc, diSeq, diRng1, diRng2, diEnum, diEnumS, diStr,
  startD, setAll, wipeD, List.map_cons, List.map_nil, List.length_cons, List.length_nil, List.replicate, List.cons_append, List.nil_append, List.getElem?_cons_zero, List.getElem?_cons_succ, List.set_cons_zero, List.set_cons_succ, Nat.reduceAdd, Nat.reduceSub, Bool.false_eq_true, if_true, if_false, ite_true, ite_false, reduceIte])
local macro_rules | `(tactic| walk_at "cm") => `(tactic| first | exact .inl ⟨by omega, by omega⟩ | exact .inr ⟨by omega, by omega⟩ | exact ⟨by omega, by omega⟩ | omega | decide)
theorem take_names {f : Flt} {i : Nat} {k : Kind} (h : f.2[i]? = some k) : (namesOf f).take (i + 1) = (namesOf f).take i ++ [k.1] := by
  have : (namesOf f)[i]? = some k.1 := by unfold namesOf; rw [List.getElem?_map, h]; rfl
  exact take_snoc this
theorem rd__law_boats_of : ∀ ds μ Q, P__law_boats_of ds μ Q → td__law_boats_of { nx := fun _ μ' => GhQ Q .non μ', rt := GhQ Q } (startD N__law_boats_of ds) μ := by
  rintro ds μ Q ⟨f, rfl, l6, q⟩
  unfold td__law_boats_of N__law_boats_of
  walk_at "dd"
  have nl : (namesOf f).length = f.2.length := by unfold namesOf; rw [List.length_map]
  refine ⟨Nat.zero_le _, _, _, rfl, rfl, _, rfl, fun i ds ν => ν = μ ∧ ∃ x2 x3 x4, ds = [some (fleetD f), some (.lst (boatsD ((namesOf f).take i))), x2, x3, x4, none], ⟨rfl, _, _, _, rfl⟩, fun _ _ _ _ _ => trivial, fun j d ds ν hd hI => ?_, fun ds ν hI => ?_⟩
  · obtain ⟨rfl, x2, x3, x4, rfl⟩ := hI
    obtain ⟨k, hk, rfl⟩ := map_get hd
    have hj : j < f.2.length := (List.getElem?_eq_some_iff.mp hk).1
    unfold kindD
    walk_at "dd"
    refine ⟨trivial, ⟨by decide, by decide⟩, LcB.pure (fun c => D.tup [.str k.1, c]) trivial (by decide) (fun j d Qd hd y => ?_) ?_⟩
    · walk_at "dd"
      exact ⟨by show 2 ≤ sizeLine; decide, y⟩
    · refine newLst_f ?_
      show ∃ xs ys, _ ∧ _
      refine ⟨_, _, rfl, rfl, ?_, ?_⟩
      · rw [boats_len, List.length_take, List.length_map, rngD_len]
        exact smallE (by omega)
      · refine ⟨rfl, some (.str k.1), some (.int k.2.1), some (.tup (k.2.2.map lampD)), ?_⟩
        rw [take_names hk, boats_snoc]
        rfl
  · obtain ⟨rfl, x2, x3, x4, rfl⟩ := hI
    walk_at "dd"
    have e : (namesOf f).take (f.2.map kindD).length = namesOf f := by rw [List.length_map, ← nl, List.take_length]
    rw [e]
    exact .self q
theorem col_nil {rows : List Kind} {k : Str} {b : Int} (h : k ∉ rows.map (·.1)) : (rows.map fun x => if x.1 = k then colOf x.2.2 b else []).flatten = [] := by
  induction rows with
  | nil => rfl
  | cons x rows ih =>
    rw [List.map_cons, List.mem_cons, not_or] at h
    rw [List.map_cons, List.flatten_cons, if_neg (fun e => h.1 e.symm), ih h.2]; rfl
theorem col_one {rows : List Kind} {k : Kind} {b : Int} (hk : k ∈ rows) (nd : (rows.map (·.1)).Nodup) : (rows.map fun x => if x.1 = k.1 then colOf x.2.2 b else []).flatten = colOf k.2.2 b := by
  induction rows with
  | nil => cases hk
  | cons x rows ih =>
    rw [List.map_cons, List.nodup_cons] at nd
    rw [List.map_cons, List.flatten_cons]
    rcases List.mem_cons.mp hk with rfl | hk
    · rw [if_pos rfl, col_nil nd.1, List.append_nil]
    · have ne : x.1 ≠ k.1 := fun e => nd.1 (List.mem_map.mpr ⟨k, hk, e.symm⟩)
      rw [if_neg ne, List.nil_append]
      exact ih hk nd.2
theorem column_one {f : Flt} {k : Kind} (ok : FleetOk f) (hk : k ∈ f.2) (c s : Int) : columnOf f k.1 c s = colOf k.2.2 ((s - c) % 32) := col_one hk ok.kd
theorem col_at (ls : List Lamp) (c : Int) {j : Nat} (h : j < 32) : (colsOf ls c)[j]? = some (colOf ls (((j : Nat) - c) % 32)) := by
  unfold colsOf
  rw [List.getElem?_map, List.getElem?_range h]
  rfl
theorem rd__law_due : ∀ ds μ Q, P__law_due ds μ Q → td__law_due { nx := fun _ μ' => GhQ Q .non μ', rt := GhQ Q } (startD N__law_due ds) μ := by
  rintro ds μ Q ⟨f, k, c, k2, c2, rfl, ok, hk, hk2, q⟩
  unfold td__law_due N__law_due boatD
  walk_at "dd"
  have few : ∀ x ∈ f.2, x.2.2.length ≤ 6 := fun x hx => (ok.kg x hx).2.2.2.1
  refine ⟨⟨by decide, by decide⟩, fun i ds ν => ν = μ ∧ (∀ s : Nat, s < i → colOf k.2.2 (((s : Nat) - c) % 32) = colOf k2.2.2 (((s : Nat) - c2) % 32)) ∧ ∃ x3, ds = [some (fleetD f), some (.tup [.str k.1, .int c]), some (.tup [.str k2.1, .int c2]), x3], ⟨rfl, (fun _ h => absurd h (Nat.not_lt_zero _)), _, rfl⟩, fun _ _ _ _ _ => trivial, fun j d ds ν hd hI => ?_, fun ds ν hI => ?_⟩
  · obtain ⟨rfl, hs, x3, rfl⟩ := hI
    obtain ⟨hj, rfl⟩ := rngD_get hd
    have hj : j < 32 := hj
    walk_at "dd"
    refine ⟨f, k.1, c, _, rfl, few, ok.k6, f, k2.1, c2, _, rfl, few, ok.k6, ?_⟩
    rw [column_one ok hk, column_one ok hk2]
    have e0 : (0 + (j : Int)) = (j : Int) := by omega
    rw [e0]
    have a1 : ∀ s ∈ colOf k.2.2 ((j - c) % 32), Asc s := cols_asc ok hk c _ (List.mem_of_getElem? (col_at _ _ hj))
    have a2 : ∀ s ∈ colOf k2.2.2 ((j - c2) % 32), Asc s := cols_asc ok hk2 c2 _ (List.mem_of_getElem? (col_at _ _ hj))
    refine ⟨_, _, by show pd (.tup _) = _; rw [pd, pdL_strs]; rfl, by show pd (.tup _) = _; rw [pd, pdL_strs]; rfl, shaped_tstrs a1, shaped_tstrs a2, ?_⟩
    have ev : PyData.eqv (.tuple ((colOf k.2.2 ((j - c) % 32)).map .str)) (.tuple ((colOf k2.2.2 ((j - c2) % 32)).map .str)) = decide (colOf k.2.2 ((j - c) % 32) = colOf k2.2.2 ((j - c2) % 32)) := eqv_strs _ _
    rw [ev]
    show if (!decide _) = true then _ else _
    by_cases e : colOf k.2.2 ((j - c) % 32) = colOf k2.2.2 ((j - c2) % 32)
    · rw [if_neg (by simp [e])]
      refine ⟨rfl, fun s hs' => ?_, _, rfl⟩
      by_cases z : s = j
      · subst z; exact e
      · exact hs s (by omega)
    · rw [if_pos (by simp [e])]
      have : ¬ colsOf k.2.2 c = colsOf k2.2.2 c2 := fun z => e (by
        have h1 := col_at k.2.2 c hj
        have h2 := col_at k2.2.2 c2 hj
        rw [z, h2] at h1
        exact (Option.some.inj h1).symm)
      rw [decide_eq_false this] at q
      exact .self q
  · obtain ⟨rfl, hs, x3, rfl⟩ := hI
    have : colsOf k.2.2 c = colsOf k2.2.2 c2 := by
      unfold colsOf
      refine List.map_congr_left fun s hs' => hs s ?_
      rw [List.mem_range] at hs'
      exact hs'
    rw [decide_eq_true this] at q
    walk_at "dd"
    exact .self q
end DL.K22
set_option Elab.async false
set_option linter.all false
set_option maxRecDepth 100000
set_option maxHeartbeats 4000001
/-! enumerate of a tuple. -/
namespace DL
open PySem PySem.Spec PyProof.Rows L2
open Sem (wp)
theorem meets_enum1 {v : Value} {o : Obj} {H : Heap → Prop} (B : Begins v o H) :
    Meets (Builtin.«enumerate.__new__» ⟨[.type "enumerate", v], []⟩) (fun _ R s => H s.heap ∧
      R (.ok (.ret (.ref (s.heap.push o).objs.size))) { s with heap := (s.heap.push o).push { cls := .type "enumerate", data := .fields #[.none, .bool false, .ref s.heap.objs.size, rawInt 0, .none, .none] } }) :=
  .of_wp fun prog w A R s h => by
    obtain ⟨hp, g, d, tk, os⟩ := s; obtain ⟨h1, h⟩ := h
    have hsub := sub_enumerate
    have q1 : ∀ {A' : Around} {E : Value → Shared → Prop} {Q : Value → Shared → Prop}, Q (.ref hp.objs.size) ⟨hp.push o, g, d, tk, os⟩ → wpAny (model prog w) A' (pyIter v) Q E ⟨hp, g, d, tk, os⟩ :=
      fun q => B.iter prog w _ _ ⟨hp, g, d, tk, os⟩ _ h1 q
    wp_walk using q1
    refine wpAny_stack_any fun st => wpAny_pure ?_
    split
    · rename_i c _ _ _ _ _
      cases (c == Value.type "enumerate")
      · wp_walk using q1
        exact ⟨_, rfl, h⟩
      · wp_walk using q1
        exact ⟨_, rfl, h⟩
    · wp_walk using q1
      exact ⟨_, rfl, h⟩
theorem enum_begins1 {prog : Program} {w : World} {A : Around} {E : Value → Shared → Prop} {s : Shared} {v : Value} {o : Obj} {H : Heap → Prop} {Q : Value → Shared → Prop} (B : Begins v o H) (h1 : H s.heap)
    (h : ∀ h', IsEnum h' (s.heap.objs.size + 1) s.heap.objs.size 0 .none → h'.get? s.heap.objs.size = some o → h'.objs.size = s.heap.objs.size + 2 →
      (∀ b o, s.heap.get? b = some o → h'.get? b = some o) → Q (.ref (s.heap.objs.size + 1)) { s with heap := h' }) :
    wpAny (model prog w) A (call (.type "enumerate") [v]) Q E s := by
  refine callType_new F.called_enumerate (by decide) (F.typeCall_enumerate_1 _) (F.newCall_enumerate_1 _) (fun obj => F.args_object_init_2 obj _) F.entry_enumerate_new
    (meets_enum1 B) ⟨h1, ?_⟩
  have hz : (s.heap.push o).objs.size = s.heap.objs.size + 1 := Heap.size_push ..
  show _ ∧ _
  rw [hz]
  have he : IsEnum ((s.heap.push o).push { cls := .type "enumerate", data := .fields #[.none, .bool false, .ref s.heap.objs.size, rawInt 0, .none, .none] }) (s.heap.objs.size + 1) s.heap.objs.size 0 .none := by
    have := Heap.get?_push_size (s.heap.push o) (o := { cls := .type "enumerate", data := .fields #[.none, .bool false, .ref s.heap.objs.size, rawInt 0, .none, .none] }) rfl
    rw [hz] at this; exact this
  refine ⟨⟨_, he, rfl⟩, h _ he (Heap.get?_push_of_some _ (Heap.get?_push_size _ B.free)) (by rw [Heap.size_push, hz]) fun b o x => Heap.get?_push_of_some _ (Heap.get?_push_of_some _ x)⟩
/-- the tuple at a, each item in a new pair -/
def IteT (K : PySem.W.Frag) (a : Addr) : It :=
  ⟨fun i H => ∃ (xs : List V) (x : V), SqT K H a xs ∧ xs[i]? = some x, fun i H v H' => ∃ T x, v = .ref T ∧ H T = none ∧ H' = upd H T (.tup [.int (i : Nat), x]) ∧ ∀ xs, SqT K H a xs → xs[i]? = some x, fun i H => ∃ xs : List V, SqT K H a xs ∧ xs.length ≤ i⟩
theorem turn_enumT {P : Program} {w : World} {K : PySem.W.Frag} {elts : List Expr} {kk : Nat} {tpos : Pos} (a e it : Addr) (hai : a ≠ it) (hae : e ≠ a) :
    Turn P w K (.Tuple elts kk tpos) (IteT K a) [e, it] e (fun i h => (∃ old, IsEnum h e it ((i : Nat) : Int) old) ∧ h.IsTupleIter it a i ∧ e ≠ it) where
  mem := by simp
  obj := fun i h st b hb => by
    obtain ⟨⟨old, he⟩, ⟨o, ho, hc, hd⟩, _⟩ := st
    have e' : b = e ∨ b = it := by simpa using hb
    rcases e' with z | z
    · rw [z]; exact ⟨_, he, fun v q => nomatch q⟩
    · rw [z]; exact ⟨o, ho, fun v q => by rw [hd] at q; cases q⟩
  keep := fun i h h' st k => let ⟨⟨old, he⟩, hi, hne⟩ := st; ⟨⟨old, k e (by simp) _ he⟩, hi.at fun o q => k it (by simp) o q, hne⟩
  item := by
    intro X hP hw hK hc i pins s σ H E I hf st hg
    subst hP hw hK
    obtain ⟨⟨old, he⟩, hit, hne⟩ := st
    obtain ⟨xs, x, hq, hx⟩ := hg
    obtain ⟨its, rv, p, hz⟩ := I.tuple hq
    obtain ⟨u, hu, ru⟩ := rv.get hx
    have hel : e < s.heap.objs.size := Heap.lt_size he
    have hil : it < s.heap.objs.size := by obtain ⟨_, q, _⟩ := hit; exact Heap.lt_size q
    have pt : s.heap.IsTuple a its.toArray := p
    have hi : i < its.toArray.size := by
      have := (List.getElem?_eq_some_iff.mp hu).1
      simpa using this
    have hh1 : X.A.in1.handled = none := I.ok.hd hc
    refine wpAny_pyNext_enum_itemD (Draws.tuple hh1 it a hai its.toArray) he ⟨hit, pt⟩ hi hne (by simp [hne, hae]) fun y h' tk hy ho hst' hT hsz hk => ?_
    obtain ⟨hit', pt'⟩ := hst'
    have ey : y = u := by
      have e1 : its.toArray[i]? = some u := by simpa using hu
      rw [e1] at hy
      exact (Option.some.inj hy).symm
    subst ey
    refine ⟨_, rfl, wpAny_letOwnedTupleGo_enum (s := { s with heap := h', toks := tk + 1 }) ho fun h'' he' sb => ?_⟩
    have hT2 : h''.get? s.heap.objs.size = some { cls := .type "tuple", data := .seq #[.int i tk, y] } := (sb.2 _ (Nat.ne_of_gt hel)).trans hT
    have new : ObjOk X.prog X.w (upd H s.heap.objs.size (.tup [.int (i : Nat), x])) h'' s.heap.objs.size (.tup [.int (i : Nat), x]) :=
      ⟨by show 2 ≤ sizeLine; decide, [.int i tk, y], .cons ⟨_, rfl⟩ (.cons ru .nil), ⟨_, hT2, rfl, _, rfl⟩⟩
    have I1 : Inv X pins σ (upd H s.heap.objs.size (.tup [.int (i : Nat), x])) { s with heap := h'', toks := tk + 1 } :=
      I.turnedNew (ch := [e, it]) (fun b ob hb q => (sb.2 b (fun z => hb (by simp [z]))).trans (hk b ob (fun z => hb (by simp [z])) (fun z => hb (by simp [z])) q)) hf (Nat.le_refl _) new
    refine ⟨.ref s.heap.objs.size, _, I1, rfl, ⟨_, x, rfl, I.hok.fresh (Nat.le_refl _), rfl, fun ys hy => by rw [I.tuple_inj hy hq]; exact hx⟩, ⟨⟨y, ?_⟩, hit'.at fun o q => (sb.2 it (Ne.symm hne)).trans q, hne⟩, fun b hb => ?_⟩
    · have e1 : ((i + 1 : Nat) : Int) = (i : Int) + 1 := by omega
      rw [e1]; exact he'
    · have hb' : b < s.heap.objs.size := by
        have e' : b = e ∨ b = it := by simpa using hb
        rcases e' with z | z
        · rw [z]; exact hel
        · rw [z]; exact hil
      rw [upd_ne (Nat.ne_of_lt hb')]
      exact (hf b hb).1
  done := by
    intro X hP hw hK hc i pins s σ H E I hf st hg
    subst hP hw hK
    obtain ⟨⟨old, he⟩, hit, hne⟩ := st
    obtain ⟨xs, hq, hx⟩ := hg
    obtain ⟨its, rv, p, hz⟩ := I.tuple hq
    have pt : s.heap.IsTuple a its.toArray := p
    obtain ⟨f0, f1, f2, f3, f4, f5⟩ := hf it (by simp)
    have hl := rv.length
    have hh1 : X.A.in1.handled = none := I.ok.hd hc
    have hT : s.TypeIs (.ref e) "enumerate" := ⟨_, he, rfl⟩
    unfold pyNext
    refine wpAny_bind (wpAny_attempt (wpAny_callSpecial?_slot (name := Str.ofString "__next__") hT F.slot_enumerate_next
      (wpAny_call_entry F.slot_enumerate_next hT F.entry_enumerate_next ?_ (F.args_enumerate_next_1 _))))
    show wpAny _ _ (field (.ref e) 2 >>= _) _ _ _
    refine wpAny_bind (wpAny_field he rfl (x := .ref it) rfl ?_)
    refine wpAny_bind (wpAny_nextOf_tuple_end hh1 hit pt (by simp; omega) fun h' x he' hx' => ?_)
    obtain ⟨o, ho, hc⟩ := hx'
    refine wpAny_bind (wpAny_isInstance (T := "StopIteration") (b := true) ⟨o, ho, hc⟩ isSubtype_stop ?_)
    exact wpAny_pure ⟨rfl, I.turned (t' := s.toks) (fun b o hb q => he' b o hb q) f0 f1 f3 f4 f5⟩
  self := fun A i s Q E st h => let ⟨⟨_, he⟩, _⟩ := st; wpAny_pyIter_enum he h
def iEnumT (K : PySem.W.Frag) (ta : TA) : TI := fun σ H R => ta σ H fun vs H1 => ∃ a xs, vs = [.ref a] ∧ SqT K H1 a xs ∧ R (IteT K a) H1
theorem pi_enumT {X : Cx} {e : Expr} {ta : TA} {p pos tpos : Pos} {elts : List Expr} {kk : Nat} (hg : Gl X "enumerate") (hm : X.mg "enumerate" = none) (ha : PA X [e] ta) (hs : starEach [e] X.env = [(false, eval e X.env)] := by rfl) :
    PI X (.Tuple elts kk tpos) (.Call (.Name "enumerate" p) [e] [] pos) (iEnumT X.K ta) := by
  refine ⟨fun pins s σ H R I h => ?_⟩
  refine Call_ (ld_blt I hg hm boot_enumerate (PyProof.Rows.callWith_type1 (thn (ha.run pos pins s σ H _ I h) fun us s1 ⟨vs, H1, I1, r1, q1⟩ => ?_) hs rfl))
  obtain ⟨a, xs, ex, hq, q⟩ := q1
  subst ex
  cases r1 with
  | cons r rr =>
    cases rr
    cases r
    obtain ⟨its, rv, p', hz⟩ := I1.tuple hq
    have pt : s1.heap.IsTuple a its.toArray := p'
    have al : a < s1.heap.objs.size := by obtain ⟨o, ho, _⟩ := pt; exact Heap.lt_size ho
    refine enum_begins1 (begins_tuple a its.toArray) pt fun h' he hit hsz hk => wpAny_pyIter_enum he ?_
    have I2 : Inv X pins σ H1 { s1 with heap := h' } := I1.kept (t' := s1.toks) hk
    refine ⟨s1.heap.objs.size + 1, [s1.heap.objs.size + 1, s1.heap.objs.size], _, _, H1, rfl, I2, turn_enumT a (s1.heap.objs.size + 1) s1.heap.objs.size (Nat.ne_of_lt al) (Nat.ne_of_gt (Nat.lt_succ_of_lt al)), ⟨⟨.none, he⟩, ⟨_, hit, rfl, rfl⟩, Nat.succ_ne_self _⟩, fun b hb => ?_, q⟩
    have e' : b = s1.heap.objs.size + 1 ∨ b = s1.heap.objs.size := by simpa using hb
    have hle : s1.heap.objs.size ≤ b := by
      rcases e' with z | z
      · rw [z]; exact Nat.le_add_right _ _
      · rw [z]; exact Nat.le_refl _
    exact I1.fpOk hle (I1.hok.fresh hle)
theorem itd_eT {K : PySem.W.Frag} {G : Hp} {a : Addr} {items : List D} {keep : Mu → Prop} (h : ∀ F G' μ H, Ex G G' → Wd K G' F μ H → keep μ → ∃ vs, SqT K H a vs ∧ RpL K G' items vs) : ItD K G (IteT K a) (enumD 0 items) keep := fun i F G' μ H e w k => by
  obtain ⟨vs, h1, h2⟩ := h F G' μ H e w k
  have hl : (enumD 0 items).length = items.length := by unfold enumD; simp
  rw [hl]
  refine ⟨fun hi => ?_, fun hi => ⟨vs, h1, by rw [h2.len]; exact hi⟩⟩
  obtain ⟨v, hv, rv⟩ := h2.get (i := i) (d := items[i]) (by simp [hi])
  refine ⟨⟨vs, v, h1, hv⟩, fun u H' y => ?_⟩
  obtain ⟨T, x, rfl, hT, rfl, y⟩ := y
  have := y vs h1
  rw [hv] at this
  cases this
  have ex : Ex G' (upd G' T (.tup [.int (i : Nat), v])) := Ex.new (w.noG hT)
  refine ⟨upd G' T (.tup [.int (i : Nat), v]), .tup [.int (0 + (i : Nat)), items[i]], ex, w.newG hT, ⟨T, _, rfl, SqT.of upd_same, ⟨_, _, rfl, ?_, _, _, rfl, Rp.mono ex _ _ rv, rfl⟩⟩, ?_, fun _ _ _ _ _ => trivial⟩
  · show V.int (i : Nat) = V.int (0 + (i : Nat))
    rw [Int.zero_add]
  · unfold enumD; simp [hi]
def diEnumT (t : TAd) : DI := fun ds μ R => t ds μ fun xs μ1 => match xs with
  | [.tup ys] => R (enumD 0 ys) (fun _ => True) μ1
  | _ => False
theorem ri_enumT {K : PySem.W.Frag} {t : TA} {dt : TAd} (h1 : RA K t dt) : RI K (iEnumT K t) (diEnumT dt) := fun σ ds G F μ H R Rd hs hw h k =>
  h1 σ ds G F μ H _ _ hs hw h fun vs xs G1 μ1 H1 e1 w1 r q => by
    split at q
    · obtain ⟨v, rfl, rv⟩ := rpl1 r
      obtain ⟨a, us, rfl, h2, h3⟩ := rv
      exact ⟨a, us, rfl, w1.g.t h2, k _ _ _ G1 μ1 H1 e1 w1 (itd_eT fun F G' μ H e w _ => ⟨us, w.g.t (e.t h2), RpL.mono e _ _ h3⟩) q⟩
    · exact q.elim
theorem id_enumT {X : Cx} {e : Expr} {dt : TAd} {p pos : Pos} {elts : List Expr} {kk : Nat} {tpos : Pos} (hm : X.mg "enumerate" = none) (ha : PAD X [e] dt) (hg : Gl X "enumerate" := by rfl) (hs : starEach [e] X.env = [(false, eval e X.env)] := by rfl) : PID X (.Tuple elts kk tpos) (.Call (.Name "enumerate" p) [e] [] pos) (diEnumT dt) := .mk' (pi_enumT hg hm ha.pe hs) (ri_enumT ha.re)
end DL
set_option Elab.async false
set_option linter.all false
set_option maxRecDepth 100000
set_option maxHeartbeats 4000001
namespace DL.K30
open PySem L2 TL PyProof.Rows DL.K20 DL.K22
/-! ## hidden lamps: promises -/
def rw30 : List Str := ["kind", "point", "sight"]
abbrev P__law_word (BadText NoKind BadPoint BadSight Full BadMoment BadBoats BadMany NoFoe : Addr) : DP := P_lw rw30 BadText NoKind BadPoint BadSight Full BadMoment BadBoats BadMany NoFoe
def isColB : D → List Str → Bool
  | .tup xs, cs => decide (xs.length ≤ 6) && xs.all fun x => isNameOf x cs
  | _, _ => false
def isSightB : D → List Str → Bool
  | .tup [m, s, c], cs => isNumB m 99 && (isNumB s 31 && isColB c cs)
  | _, _ => false
/-- any plain value; of a tuple the parts too -/
def ColV (μ : Mu) (x : D) : Prop := Any μ x ∧ ∀ xs, x = .tup xs → xs.length ≤ 1000 ∧ ∀ y ∈ xs, Any μ y
def SightV (μ : Mu) (x : D) : Prop := Any μ x ∧ (∀ xs, x = .tup xs → xs.length ≤ 1000) ∧ ∀ m s c, x = .tup [m, s, c] → Any μ m ∧ Any μ s ∧ ColV μ c
def P_is_column : DP := fun ds μ Q => ∃ x y cs, ds = [x, y] ∧ ColV μ x ∧ SeqD μ y (cs.map .str) ∧ Q (.bl (isColB x cs)) μ
def P_is_sight : DP := fun ds μ Q => ∃ x y cs, ds = [x, y] ∧ SightV μ x ∧ SeqD μ y (cs.map .str) ∧ Q (.bl (isSightB x cs)) μ
def P_check_sight (Fleet BadSight : Addr) : DPX := fun ds μ Q E => ∃ (a : Addr) (f : Flt) (x : D), ds = [.obj a, x] ∧ FleetAt Fleet a f μ ∧ SightV μ x ∧ if isSightB x f.1 = true then Q .non μ else E BadSight [] μ
/-- the one comes of the other by leaving some out -/
def subB : List Str → List Str → Bool
  | [], _ => true
  | _ :: _, [] => false
  | a :: s, b :: w => if a = b then subB s w else subB (a :: s) w
def leftOut (s w : List Str) : Option Int := if subB s w = true then some ((w.length : Int) - (s.length : Int)) else none
def optI : Option Int → D
  | some i => .int i
  | none => .non
def strsD (cs : List Str) : D := .tup (cs.map .str)
def P_left_out : DP := fun ds μ Q => ∃ s w : List Str, ds = [strsD s, strsD w] ∧ s.length ≤ 1000 ∧ w.length ≤ 1000 ∧ Q (optI (leftOut s w)) μ
def P_hides (Fleet NoKind BadPoint BadSight : Addr) : DPX := fun ds μ Q E => ∃ a f x y z, ds = [.obj a, x, y, z] ∧ FleetAt Fleet a f μ ∧ Few f ∧ Any μ x ∧ Any μ y ∧ SightV μ z ∧ match kindIn f x with
  | some k => if isNumB y 31 = true then (if isSightB z f.1 = true then ∀ c m s ns, y = .int c → z = .tup [.int m, .int s, strsD ns] → Q (optI (leftOut ns (colOf k.2.2 ((s - c) % 32)))) μ else E BadSight [] μ) else E BadPoint [] μ
  | none => E NoKind [] μ
def P__law_whole : DP := fun ds μ Q => ∃ i : Int, ds = [.int i] ∧ Q (.bl true) μ
def P__law_hidden : DP := fun ds μ Q => ∃ w s : List Str, ds = [strsD w, strsD s] ∧ w.length ≤ 6 ∧ s.length ≤ 6 ∧ (∀ c ∈ w, Asc c) ∧ (∀ c ∈ s, Asc c) ∧ Q (optI (leftOut s w)) μ
/-- all but the table and its digits stays -/
def Kp (m dg : Addr) (μ ν : Mu) : Prop := ∀ b o, b ≠ m → b ≠ dg → μ b = some o → ν b = some o
def Names (cs : List Str) : Prop := ∀ c ∈ cs, IsName c
def P__law_strange : DP := fun ds μ Q => ∃ m dg rest n, ds = [.obj m] ∧ MOk m dg rest n μ ∧ n < 2^28 ∧ ∀ x μ', (∀ ρ, Kp m dg μ' ρ → Any ρ x) → (∀ cs, Names cs → isNameOf x cs = false) → MOk m dg rest (n + 1) μ' → Kp m dg μ μ' → Q x μ'
def P__law_no_point : DP := fun ds μ Q => ∃ m dg rest n, ds = [.obj m] ∧ MOk m dg rest n μ ∧ n < 2^28 ∧ ∀ x μ', (∀ ρ, Kp m dg μ' ρ → Any ρ x) → isNumB x 31 = false → MOk m dg rest (n + 2) μ' → Kp m dg μ μ' → Q x μ'
def P__law_no_sight : DP := fun ds μ Q => ∃ m dg rest n cs s, ds = [.obj m, sightD s] ∧ MOk m dg rest n μ ∧ n < 2^28 ∧ Names cs ∧ GoodSight cs s ∧ ∀ x μ', (∀ ρ, Kp m dg μ' ρ → SightV ρ x) → (∀ cs, Names cs → isSightB x cs = false) → MOk m dg rest (n + 3) μ' → Kp m dg μ μ' → Q x μ'
def P__law_bent : DP := fun ds μ Q => ∃ m dg rest n cs w, ds = [.obj m, strsD cs, strsD w] ∧ MOk m dg rest n μ ∧ n < 2^28 ∧ 1 ≤ cs.length ∧ cs.length ≤ 6 ∧ w.length ≤ 6 ∧ (∀ c ∈ w, c ∈ cs) ∧
  ∀ ns μ', ns.length ≤ 6 → (∀ c ∈ ns, c ∈ cs) → MOk m dg rest (n + 10) μ' → Kp m dg μ μ' → Q (strsD ns) μ'
def refWord (f : Flt) (x y z : D) : Str := if kindIn f x = none then "kind" else if isNumB y 31 = false then "point" else if isSightB z f.1 = false then "sight" else ""
def P__law_refused (Fleet : Addr) : DP := fun ds μ Q => ∃ a f x y z, ds = [.obj a, x, y, z] ∧ FleetAt Fleet a f μ ∧ Few f ∧ Any μ x ∧ Any μ y ∧ SightV μ z ∧ Q (.str (refWord f x y z)) μ
def P__law_refuses (Fleet : Addr) : DP := fun ds μ Q => ∃ m dg rest n a f k s, ds = [.obj m, .obj a, .str k, sightD s] ∧ MOk m dg rest n μ ∧ n < 2^27 ∧ FleetAt Fleet a f μ ∧ FleetOk f ∧ k ∈ f.2.map (·.1) ∧ GoodSight f.1 s ∧ (a ≠ m ∧ a ≠ dg) ∧ ∀ μ', MOk m dg rest (n + 20) μ' → Kp m dg μ μ' → Q (.bl true) μ'
def P_law : DP := fun ds μ Q => ∃ ns : List Int, ds = [.scr (ns.map .int)] ∧ ns.length ≤ 63 ∧ Q (.bl true) μ
theorem subB_iff : ∀ (s w : List Str), subB s w = true ↔ s.Sublist w
  | [], w => by simp [subB]
  | a :: s, [] => by simp [subB]
  | a :: s, b :: w => by
    unfold subB
    by_cases e : a = b
    · subst e
      rw [if_pos rfl, subB_iff s w]
      exact ⟨fun h => h.cons_cons _, fun h => (List.cons_sublist_cons).mp h⟩
    · rw [if_neg e, subB_iff (a :: s) w]
      refine ⟨fun h => h.cons _, fun h => ?_⟩
      cases h with
      | cons _ h => exact h
      | cons_cons _ h => exact absurd rfl e
end DL.K30
set_option Elab.async false
set_option linter.all false
set_option maxRecDepth 100000
set_option maxHeartbeats 4000001
namespace DL.K30
open PySem L2 K20 K22
def td_is_column (isa : Value → Value → Option Bool)  : DS :=
  (dSeq (dIfS (dOrT (dNotT (dTru (dCB (dIsi isa) (dConsA (dVar 0) (dConsA (dC (.ty "tuple")) dNilA))))) (dTest (dOp (dCmp fun i j => decide (j < i)) (dCB dLen (dConsA (dVar 0) dNilA)) (dC (.int 6))))) (dRet (dC (.bl false))) dNext)
    (dRet (dCB dAll (dConsA (dLc false (diSeq (dVar 0)) (dgName 2) dYes (dCall P_is_name_of (dConsA (dVar 2) (dConsA (dVar 1) dNilA))) [2]) dNilA))))
def td_is_sight (isa : Value → Value → Option Bool)  : DS :=
  (dSeq (dIfS (dOrT (dNotT (dTru (dCB (dIsi isa) (dConsA (dVar 0) (dConsA (dC (.ty "tuple")) dNilA))))) (dTest (dOp (dEqn true) (dCB dLen (dConsA (dVar 0) dNilA)) (dC (.int 3))))) (dRet (dC (.bl false))) dNext)
    (dSeq (dAsg (dVar 0) (dgTup [2, 3, 4]))
    (dRet (dAndV (dCall P_is_number (dConsA (dVar 2) (dConsA (dC (.int 99)) dNilA))) (dAndV (dCall P_is_point (dConsA (dVar 3) dNilA)) (dCall P_is_column (dConsA (dVar 4) (dConsA (dVar 1) dNilA))))))))
def td_check_sight (Fleet : Addr) (BadSight : Addr) : DSX :=
  (xIf (dNotT (dTru (dCall P_is_sight (dConsA (dVar 1) (dConsA (dOp dIx (dMeth Fleet "plain" (P_Fleet_plain Fleet) (dVar 0) dNilA) (dC (.int 0))) dNilA))))) (xOwn BadSight (dC (.str "no sight of the fleet's colours"))) (xLift dNext))
def td_left_out  : DS :=
  (dSeq (dAsg (dC (.int 0)) (dgName 2))
    (dSeq (dFor (diSeq (dVar 1)) (dgName 3) (dIfS (dAndT (dTest (dOp (dCmp fun i j => decide (i < j)) (dVar 2) (dCB dLen (dConsA (dVar 0) dNilA)))) (dTest (dOp (dEqn false) (dOp dIx (dVar 0) (dVar 2)) (dVar 3)))) (dAug 2 dAddI (dC (.int 1))) dNext))
    (dSeq (dIfS (dTest (dOp (dCmp fun i j => decide (i < j)) (dVar 2) (dCB dLen (dConsA (dVar 0) dNilA)))) (dRet (dC .non)) dNext)
    (dRet (dOp dSub (dCB dLen (dConsA (dVar 1) dNilA)) (dCB dLen (dConsA (dVar 0) dNilA)))))))
def td_hides (Fleet : Addr) (NoKind : Addr) (BadPoint : Addr) (BadSight : Addr) : DSX :=
  (xSeq (xSet 4 (xMeth Fleet "lamps" (P_Fleet_lamps Fleet NoKind) (dVar 0) (dConsA (dVar 1) dNilA)))
    (xSeq (xDrop (xCall (P_check_point BadPoint) (dConsA (dVar 2) (dConsA (dC (.str "course")) dNilA))))
    (xSeq (xDrop (xCall (P_check_sight Fleet BadSight) (dConsA (dVar 0) (dConsA (dVar 3) dNilA))))
    (xSeq (xLift (dAsg (dVar 3) (dgTup [5, 6, 7])))
    (xLift (dRet (dCall P_left_out (dConsA (dVar 7) (dConsA (dCall P_colours_at (dConsA (dVar 4) (dConsA (dOp dMod (dOp dSub (dVar 6) (dVar 2)) (dC (.int 32))) dNilA))) dNilA)))))))))
def td__law_whole (isa : Value → Value → Option Bool)  : DS :=
  (dRet (dAndV (dCB (dIsi isa) (dConsA (dVar 0) (dConsA (dC (.ty "int")) dNilA))) (dNotV (dCB (dIsi isa) (dConsA (dVar 0) (dConsA (dC (.ty "bool")) dNilA))))))
def td__law_hidden  : DS :=
  (dSeq (dFor (diRng1 (dConsA (dOp dShl (dC (.int 1)) (dCB dLen (dConsA (dVar 0) dNilA))) dNilA)) (dgName 2) (dSeq (dAsg (dLc false (diEnumT (dConsA (dVar 0) dNilA)) (dgTup [4, 5]) (dTest (dOp (dEqn false) (dOp dOdd (dOp dShr (dVar 2) (dVar 4)) (dC (.int 1))) (dC (.int 1)))) (dVar 5) [4, 5]) (dgName 3))
    (dIfS (dTest (dOp (dEqn false) (dCB dTupOf (dConsA (dVar 3) dNilA)) (dVar 1))) (dRet (dOp dSub (dCB dLen (dConsA (dVar 0) dNilA)) (dCB dLen (dConsA (dVar 1) dNilA)))) dNext)))
    (dRet (dC .non)))
def td__law_word (isa : Value → Value → Option Bool) (BadPoint : Addr) (NoKind : Addr) (BadText : Addr) (BadSight : Addr) (BadMoment : Addr) (Full : Addr) (BadMany : Addr) (BadBoats : Addr) (NoFoe : Addr) : DS :=
  (dSeq (dAsg (dLst false (dConsA (dTup (dConsA (dC (.str "kind")) (dConsA (dCB (dIsi isa) (dConsA (dVar 0) (dConsA (dC (.obj NoKind)) dNilA))) dNilA))) (dConsA (dTup (dConsA (dC (.str "point")) (dConsA (dCB (dIsi isa) (dConsA (dVar 0) (dConsA (dC (.obj BadPoint)) dNilA))) dNilA))) dNilA))) (dgName 1))
    (dSeq (dAsg (dOp (dAdd false) (dVar 1) (dLst false (dConsA (dTup (dConsA (dC (.str "sight")) (dConsA (dCB (dIsi isa) (dConsA (dVar 0) (dConsA (dC (.obj BadSight)) dNilA))) dNilA))) (dConsA (dTup (dConsA (dC (.str "text")) (dConsA (dCB (dIsi isa) (dConsA (dVar 0) (dConsA (dC (.obj BadText)) dNilA))) dNilA))) dNilA)))) (dgName 1))
    (dSeq (dAsg (dOp (dAdd false) (dVar 1) (dLst false (dConsA (dTup (dConsA (dC (.str "full")) (dConsA (dCB (dIsi isa) (dConsA (dVar 0) (dConsA (dC (.obj Full)) dNilA))) dNilA))) (dConsA (dTup (dConsA (dC (.str "moment")) (dConsA (dCB (dIsi isa) (dConsA (dVar 0) (dConsA (dC (.obj BadMoment)) dNilA))) dNilA))) dNilA)))) (dgName 1))
    (dSeq (dAsg (dOp (dAdd false) (dVar 1) (dLst false (dConsA (dTup (dConsA (dC (.str "boats")) (dConsA (dCB (dIsi isa) (dConsA (dVar 0) (dConsA (dC (.obj BadBoats)) dNilA))) dNilA))) (dConsA (dTup (dConsA (dC (.str "many")) (dConsA (dCB (dIsi isa) (dConsA (dVar 0) (dConsA (dC (.obj BadMany)) dNilA))) dNilA))) dNilA)))) (dgName 1))
    (dSeq (dAsg (dOp (dAdd false) (dVar 1) (dLst false (dConsA (dTup (dConsA (dC (.str "foe")) (dConsA (dCB (dIsi isa) (dConsA (dVar 0) (dConsA (dC (.obj NoFoe)) dNilA))) dNilA))) (dConsA (dTup (dConsA (dC (.str "other")) (dConsA (dNotV (dCB (dIsi isa) (dConsA (dVar 0) (dConsA (dC (.ty "ValueError")) dNilA)))) dNilA))) dNilA)))) (dgName 1))
    (dRet (dM1 dJoin (dC (.str " ")) (dLc false (diSeq (dVar 1)) (dgTup [2, 3]) (dTru (dVar 3)) (dVar 2) [2, 3]))))))))
def td__law_strange  : DS :=
  (dRet (dOp dIx (dLst false (dConsA (dC .non) (dConsA (dC (.int 5)) (dConsA (dC (.str "")) (dConsA (dC (.str "A")) (dConsA (dLst false (dConsA (dC (.str "a")) dNilA)) (dConsA (dTup (dConsA (dC (.str "a")) dNilA)) (dConsA dDNew (dConsA (dC (.bl true)) (dConsA (dC (.str "abcdefg")) (dConsA (dC (.str "zzzzzzz")) dNilA))))))))))) (dCall P__law_draw (dConsA (dVar 0) (dConsA (dC (.int 10)) dNilA)))))
def td__law_bent  : DS :=
  (dSeq (dAsg (dCB (dListOf true) (dConsA (dVar 2) dNilA)) (dgName 2))
    (dSeq (dAsg (dCall P__law_draw (dConsA (dVar 0) (dConsA (dC (.int 6)) dNilA))) (dgName 3))
    (dSeq (dAsg (dCall P__law_draw (dConsA (dVar 0) (dConsA (dOp (dAdd false) (dCB dLen (dConsA (dVar 2) dNilA)) (dC (.int 1))) dNilA))) (dgName 4))
    (dSeq (dAsg (dOp dIx (dVar 1) (dCall P__law_draw (dConsA (dVar 0) (dConsA (dCB dLen (dConsA (dVar 1) dNilA)) dNilA)))) (dgName 5))
    (dSeq (dIfS (dTest (dOp (dEqn false) (dVar 3) (dC (.int 1)))) (dAsg (dLc true (diSeq (dVar 2)) (dgName 6) (dTest (dOp (dCmp fun i j => decide (j < i)) (dCall P__law_draw (dConsA (dVar 0) (dConsA (dC (.int 3)) dNilA))) (dC (.int 0)))) (dVar 6) [6]) (dgName 2)) (dIfS (dTest (dOp (dEqn false) (dVar 3) (dC (.int 2)))) (dAsg (dOp (dAdd true) (dOp (dAdd false) (dSl false (dVar 2) dNoPart (dPart (dVar 4))) (dLst false (dConsA (dVar 5) dNilA))) (dSl false (dVar 2) (dPart (dOp (dAdd false) (dVar 4) (dC (.int 1)))) dNoPart)) (dgName 2)) (dIfS (dTest (dOp (dEqn false) (dVar 3) (dC (.int 3)))) (dAsg (dOp (dAdd true) (dOp (dAdd false) (dSl false (dVar 2) dNoPart (dPart (dVar 4))) (dSl false (dVar 2) (dPart (dVar 4)) (dPart (dOp (dAdd false) (dVar 4) (dC (.int 1)))))) (dSl false (dVar 2) (dPart (dVar 4)) dNoPart)) (dgName 2)) (dIfS (dTest (dOp (dEqn false) (dVar 3) (dC (.int 4)))) (dDrop (dBML0 dReverse (dVar 2))) (dIfS (dTest (dOp (dEqn false) (dVar 3) (dC (.int 5)))) (dDrop (dBML dInsert (dVar 2) (dConsA (dVar 4) (dConsA (dVar 5) dNilA)))) dNext)))))
    (dRet (dCB dTupOf (dConsA (dSl false (dVar 2) dNoPart (dPart (dC (.int 6)))) dNilA))))))))
def td__law_refused (cat : Addr → Option Bool) (Fleet : Addr) (NoKind : Addr) (BadPoint : Addr) (BadSight : Addr) (BadText : Addr) (Full : Addr) (BadMoment : Addr) (BadBoats : Addr) (BadMany : Addr) (NoFoe : Addr) : DS :=
  (dSeq (dAsg (dC .non) (dgName 4))
    (dSeq (xTryKeep cat 5 4 (xDrop (xCall (P_hides Fleet NoKind BadPoint BadSight) (dConsA (dVar 0) (dConsA (dVar 1) (dConsA (dVar 2) (dConsA (dVar 3) dNilA)))))) fun _ _ _ _ => False)
    (dRet (dIf (dTest (dOp (dIsN false) (dVar 4) (dC .non))) (dC (.str "")) (dCall (P__law_word BadText NoKind BadPoint BadSight Full BadMoment BadBoats BadMany NoFoe) (dConsA (dVar 4) dNilA))))))
def td__law_no_point  : DS :=
  (dSeq (dAsg (dCall P__law_draw (dConsA (dVar 0) (dConsA (dOp dPow (dC (.int 10)) (dC (.int 6))) dNilA))) (dgName 1))
    (dRet (dOp dIx (dLst false (dConsA (dC .non) (dConsA (dC (.bl true)) (dConsA (dNeg (dC (.int 1))) (dConsA (dC (.int 32)) (dConsA (dC (.str "0")) (dConsA (dLst false (dConsA (dC (.int 0)) dNilA)) (dConsA (dTup (dConsA (dC (.int 0)) dNilA)) (dConsA dDNew (dConsA (dOp (dAdd false) (dC (.int 32)) (dVar 1)) (dConsA (dOp dSub (dNeg (dC (.int 1))) (dVar 1)) dNilA))))))))))) (dCall P__law_draw (dConsA (dVar 0) (dConsA (dC (.int 10)) dNilA))))))
def td__law_no_sight  : DS :=
  (dSeq (dAsg (dVar 1) (dgTup [2, 3, 4]))
    (dSeq (dAsg (dCall P__law_no_point (dConsA (dVar 0) dNilA)) (dgName 5))
    (dSeq (dAsg (dLst false (dConsA (dC .non) (dConsA (dC (.int 5)) (dConsA (dLst false dNilA) (dConsA (dTup dNilA) (dConsA (dCB (dListOf false) (dConsA (dVar 1) dNilA)) (dConsA (dSl false (dVar 1) dNoPart (dPart (dC (.int 2)))) (dConsA (dOp (dAdd false) (dVar 1) (dTup (dConsA (dC (.int 1)) dNilA))) (dConsA (dTup (dConsA (dNeg (dC (.int 1))) (dConsA (dVar 3) (dConsA (dVar 4) dNilA)))) (dConsA (dTup (dConsA (dC (.int 100)) (dConsA (dVar 3) (dConsA (dVar 4) dNilA)))) dNilA)))))))))) (dgName 6))
    (dSeq (dAsg (dOp (dAdd false) (dVar 6) (dLst false (dConsA (dTup (dConsA (dC (.bl true)) (dConsA (dVar 3) (dConsA (dVar 4) dNilA)))) (dConsA (dTup (dConsA (dC .non) (dConsA (dVar 3) (dConsA (dVar 4) dNilA)))) (dConsA (dTup (dConsA (dC (.str "0")) (dConsA (dVar 3) (dConsA (dVar 4) dNilA)))) (dConsA (dTup (dConsA (dVar 2) (dConsA (dVar 5) (dConsA (dVar 4) dNilA)))) dNilA)))))) (dgName 6))
    (dSeq (dAsg (dOp (dAdd false) (dVar 6) (dLst false (dConsA (dTup (dConsA (dVar 2) (dConsA (dVar 3) (dConsA (dCB (dListOf false) (dConsA (dVar 4) dNilA)) dNilA)))) (dConsA (dTup (dConsA (dVar 2) (dConsA (dVar 3) (dConsA (dC .non) dNilA)))) (dConsA (dTup (dConsA (dVar 2) (dConsA (dVar 3) (dConsA (dTup (dConsA (dC (.str "zzzzzzz")) dNilA)) dNilA)))) dNilA))))) (dgName 6))
    (dSeq (dAsg (dOp (dAdd false) (dVar 6) (dLst false (dConsA (dTup (dConsA (dVar 2) (dConsA (dVar 3) (dConsA (dOp (dAdd false) (dSl false (dVar 4) dNoPart (dPart (dC (.int 5)))) (dTup (dConsA (dC (.int 5)) dNilA))) dNilA)))) (dConsA (dTup (dConsA (dVar 2) (dConsA (dVar 3) (dConsA (dOp (dAdd false) (dSl false (dVar 4) dNoPart (dPart (dC (.int 5)))) (dTup (dConsA (dLst false (dConsA (dC (.str "a")) dNilA)) dNilA))) dNilA)))) (dConsA (dTup (dConsA (dVar 2) (dConsA (dVar 3) (dConsA (dC (.str "abc")) dNilA)))) dNilA))))) (dgName 6))
    (dRet (dOp dIx (dOp (dAdd false) (dVar 6) (dLst false (dConsA (dTup (dConsA (dVar 2) (dConsA (dVar 3) (dConsA (dOp (dAdd false) (dSl false (dVar 4) dNoPart (dPart (dC (.int 5)))) (dTup (dConsA (dC .non) dNilA))) dNilA)))) (dConsA dDNew dNilA)))) (dCall P__law_draw (dConsA (dVar 0) (dConsA (dC (.int 21)) dNilA)))))))))))
def td__law_refuses (Fleet : Addr) : DS :=
  (dSeq (dPar3 4 5 6 (dConsA (dCall P__law_strange (dConsA (dVar 0) dNilA)) (dConsA (dCall P__law_no_point (dConsA (dVar 0) dNilA)) (dConsA (dCall P__law_no_sight (dConsA (dVar 0) (dConsA (dVar 3) dNilA))) dNilA))))
    (dSeq (dIfS (dTest (dOp (dEqn true) (dCall (P__law_refused Fleet) (dConsA (dVar 1) (dConsA (dVar 4) (dConsA (dOp dIx (dLst false (dConsA (dC (.int 0)) (dConsA (dVar 5) dNilA))) (dCall P__law_draw (dConsA (dVar 0) (dConsA (dC (.int 2)) dNilA)))) (dConsA (dOp dIx (dLst false (dConsA (dVar 3) (dConsA (dVar 6) dNilA))) (dCall P__law_draw (dConsA (dVar 0) (dConsA (dC (.int 2)) dNilA)))) dNilA))))) (dC (.str "kind")))) (dRet (dC (.bl false))) dNext)
    (dSeq (dIfS (dTest (dOp (dEqn true) (dCall (P__law_refused Fleet) (dConsA (dVar 1) (dConsA (dVar 2) (dConsA (dVar 5) (dConsA (dOp dIx (dLst false (dConsA (dVar 3) (dConsA (dVar 6) dNilA))) (dCall P__law_draw (dConsA (dVar 0) (dConsA (dC (.int 2)) dNilA)))) dNilA))))) (dC (.str "point")))) (dRet (dC (.bl false))) dNext)
    (dSeq (dAsg (dTup (dConsA (dOp dIx (dVar 3) (dC (.int 0))) (dConsA (dOp dIx (dVar 3) (dC (.int 1))) (dConsA (dOp dMulT (dSl false (dOp dIx (dMeth Fleet "plain" (P_Fleet_plain Fleet) (dVar 1) dNilA) (dC (.int 0))) dNoPart (dPart (dC (.int 1)))) (dC (.int 7))) dNilA)))) (dgName 7))
    (dRet (dAndV (dOp (dEqn false) (dCall (P__law_refused Fleet) (dConsA (dVar 1) (dConsA (dVar 2) (dConsA (dC (.int 0)) (dConsA (dVar 6) dNilA))))) (dC (.str "sight"))) (dOp (dEqn false) (dCall (P__law_refused Fleet) (dConsA (dVar 1) (dConsA (dVar 2) (dConsA (dC (.int 31)) (dConsA (dVar 7) dNilA))))) (dC (.str "sight")))))))))
def td_law (Fleet : Addr) (NoKind : Addr) (BadPoint : Addr) (BadSight : Addr) : DS :=
  (dSeq (dAsg (dCall P__law_begun (dConsA (dVar 0) dNilA)) (dgName 1))
    (dSeq (dAsg (dCall P__law_fleet (dConsA (dVar 1) dNilA)) (dgName 2))
    (dSeq (dAsg (dMake Fleet (P_Fleet___init__ Fleet) (dConsA (dVar 2) dNilA)) (dgName 3))
    (dSeq (dFor (diRng1 (dConsA (dC (.int 40)) dNilA)) (dgName 4) (dSeq (dAsg (dOp dIx (dOp dIx (dOp dIx (dVar 2) (dC (.int 1))) (dCall P__law_draw (dConsA (dVar 1) (dConsA (dCB dLen (dConsA (dOp dIx (dVar 2) (dC (.int 1))) dNilA)) dNilA)))) (dC (.int 0))) (dgName 5))
    (dSeq (dPar 6 7 (dConsA (dCall P__law_draw (dConsA (dVar 1) (dConsA (dC (.int 32)) dNilA))) (dConsA (dCall P__law_draw (dConsA (dVar 1) (dConsA (dC (.int 32)) dNilA))) dNilA)))
    (dSeq (dAsg (dCall P__law_column (dConsA (dVar 2) (dConsA (dTup (dConsA (dVar 5) (dConsA (dVar 6) dNilA))) (dConsA (dVar 7) dNilA)))) (dgName 8))
    (dSeq (dAsg (dTup (dConsA (dCall P__law_draw (dConsA (dVar 1) (dConsA (dC (.int 100)) dNilA))) (dConsA (dVar 7) (dConsA (dCall P__law_bent (dConsA (dVar 1) (dConsA (dOp dIx (dVar 2) (dC (.int 0))) (dConsA (dVar 8) dNilA)))) dNilA)))) (dgName 9))
    (dSeq (dAsg (dCall P__law_hidden (dConsA (dVar 8) (dConsA (dOp dIx (dVar 9) (dC (.int 2))) dNilA))) (dgName 10))
    (dSeq (dFor (diRng1 (dConsA (dC (.int 2)) dNilA)) (dgName 11) (dSeq (dAsg (dCall (quiet (P_hides Fleet NoKind BadPoint BadSight)) (dConsA (dVar 3) (dConsA (dVar 5) (dConsA (dVar 6) (dConsA (dVar 9) dNilA))))) (dgName 12))
    (dIfS (dOrT (dTest (dOp (dEqn true) (dVar 12) (dVar 10))) (dAndT (dTest (dOp (dIsN true) (dVar 12) (dC .non))) (dNotT (dTru (dCall P__law_whole (dConsA (dVar 12) dNilA)))))) (dRet (dC (.bl false))) dNext)))
    (dIfS (dNotT (dTru (dCall (P__law_refuses Fleet) (dConsA (dVar 1) (dConsA (dVar 3) (dConsA (dVar 5) (dConsA (dVar 9) dNilA))))))) (dRet (dC (.bl false))) dNext))))))))
    (dRet (dOp (dEqn false) (dMeth Fleet "plain" (P_Fleet_plain Fleet) (dVar 3) dNilA) (dVar 2)))))))

abbrev N_is_number : List Str := ["value", "most"]
abbrev N_is_point : List Str := ["value"]
abbrev N_is_name_of : List Str := ["value", "names"]
abbrev N_is_column : List Str := ["value", "colours", "colour"]
abbrev N_is_sight : List Str := ["value", "colours", "moment", "side", "colours_seen"]
abbrev N_check_point : List Str := ["value", "called"]
abbrev N_shows : List Str := ["first", "last", "bearing"]
abbrev N_colours_at : List Str := ["lamps", "bearing", "colour", "first", "last"]
abbrev N_kind_row : List Str := ["row", "kind", "turn", "lamps", "lamp"]
abbrev N_Fleet___init__ : List Str := ["self", "plain", "colours", "kinds", "row"]
abbrev N_Fleet_plain : List Str := ["self"]
abbrev N_Fleet_kinds : List Str := ["self", "row"]
abbrev N_Fleet__row : List Str := ["self", "kind", "kinds"]
abbrev N_Fleet_lamps : List Str := ["self", "kind"]
abbrev N_check_sight : List Str := ["fleet", "value"]
abbrev N_left_out : List Str := ["some", "whole", "found", "colour"]
abbrev N_hides : List Str := ["fleet", "kind", "course", "sight", "lamps", "_", "side", "colours"]
abbrev N__law_mixed : List Str := ["_law_cell", "_law_k", "_law_number"]
abbrev N__law_folded : List Str := ["_law_script", "_law_found", "_law_k", "_law_cell"]
abbrev N__law_draw : List Str := ["_law_m", "_law_many", "_law_k", "_law_at", "_law_cell"]
abbrev N__law_names : List Str := ["_law_cell", "_law_many", "_law_letters", "_law_k", "_law_size", "_law_at", "_law_row", "_law_j", "_law_found", "_law_sign", "_law_bars", "_law_name"]
abbrev N__law_lamp : List Str := ["_law_m", "_law_colours", "_law_first", "_law_wide"]
abbrev N__law_lamps : List Str := ["_law_m", "_law_colours", "_law_rows", "_law_k", "_law_lamps_here", "_law_at", "_law_way", "_law_colour", "_law_first", "_law_last"]
abbrev N__law_fleet : List Str := ["_law_m", "_law_great", "_law_colours", "_law_rows", "_law_name", "_law_turn"]
abbrev N__law_column : List Str := ["_law_fleet_here", "_law_boat", "_law_side", "_law_bearing", "_law_found", "_law_kind", "_law_turn", "_law_lamps_here", "_law_colour", "_law_first", "_law_last"]
abbrev N__law_begun : List Str := ["_law_script", "_law_m", "_law_seeds", "_law_k"]
abbrev N__law_whole : List Str := ["_law_thing"]
abbrev N__law_hidden : List Str := ["_law_whole_here", "_law_part", "_law_bits", "_law_left", "_law_k", "_law_colour"]
abbrev N__law_word : List Str := ["_law_error", "_law_some", "_law_word_here", "_law_good"]
abbrev N__law_strange : List Str := ["_law_m"]
abbrev N__law_bent : List Str := ["_law_m", "_law_colours", "_law_part", "_law_way", "_law_at", "_law_colour", "_law_one"]
abbrev N__law_refused : List Str := ["_law_ships", "_law_kind", "_law_course", "_law_sight", "_law_error", "e"]
abbrev N__law_no_point : List Str := ["_law_m", "_law_far"]
abbrev N__law_no_sight : List Str := ["_law_m", "_law_sight", "_law_moment", "_law_side", "_law_part", "_law_bad", "_law_some"]
abbrev N__law_refuses : List Str := ["_law_m", "_law_ships", "_law_kind", "_law_sight", "_law_strange_here", "_law_bad", "_law_odd", "_law_seven"]
abbrev N_law : List Str := ["_law_script", "_law_m", "_law_fleet_here", "_law_ships", "_law_turn", "_law_kind", "_law_course", "_law_side", "_law_whole_here", "_law_sight", "_law_due", "_law_again", "_law_found"]
end DL.K30
set_option Elab.async false
set_option linter.all false
set_option maxRecDepth 100000
set_option maxHeartbeats 4000001
namespace DL.K30
open PySem L2 TL PyProof.Rows DL.K20 DL.K22
local macro_rules | `(tactic| walk_at "dd") => `(tactic| try simp only [dSeq, dAsg, dgName, dgTup, dgSub, dOp, dVar, dC, dAdd, dSub, dMul, dMod, dFDiv, dPow, dCmp, dNeg, dEqn, dIsN, dIx, dTup, dLst, dConsA, dNilA, dCB, dCall, dRet, dRetN, dDrop, dIfS, dNext, dBreak, dCont, dTest, dTru, dAndT, dOrT, dNotT, dAndV, dOrV, dNotV, dIf, dChain, dDGet, dDPut, dM1, dM0, dJoin, dSplit, dUpper, dBML, dAppend, dInsert, dPopAt, dLen, dInt, dStr, dTupOf, dListOf, dMax2, dSum, dAll, dSl, dPart, dNoPart, newLst, keyD, dFor, dLc, diSeq, diRng1, diRng2, diEnum, diEnumS, diStr,
  startD, setAll, wipeD, List.map_cons, List.map_nil, List.length_cons, List.length_nil, List.replicate, List.cons_append, List.nil_append, List.getElem?_cons_zero, List.getElem?_cons_succ, List.set_cons_zero, List.set_cons_succ, Nat.reduceAdd, Nat.reduceSub, Bool.false_eq_true, if_true, if_false, ite_true, ite_false, reduceIte])
local macro_rules | `(tactic| walk_at "cm") => `(tactic| first | exact .inl ⟨by omega, by omega⟩ | exact .inr ⟨by omega, by omega⟩ | exact ⟨by omega, by omega⟩ | omega | decide)
local macro_rules | `(tactic| walk_at "dx") => `(tactic| try simp only [xSeq, xIf, xLift, xRet, xDrop, xSet, xCall, xMeth, xOp, xCB1, xOwn, dFs3, quiet])
theorem ty_tupC {μ : Mu} {x : D} {t : String} (h : TyD μ x (.type t)) : (t = "tuple" ∧ ∃ xs, x = .tup xs) ∨ (t ≠ "tuple" ∧ (∀ ns, isColB x ns = false) ∧ ∀ ns, isSightB x ns = false) := by
  generalize e : Value.type t = v at h
  cases h <;> cases e
  all_goals first | exact .inl ⟨rfl, _, rfl⟩ | exact .inr ⟨by decide, fun _ => rfl, fun _ => rfl⟩
theorem kit_tup {t : String} (ne : t ≠ "tuple") : kitB t "tuple" = false := by
  unfold kitB
  rw [decide_eq_false ne, decide_eq_false (p := "tuple" = "int") (by decide), Bool.and_false]
  rfl
theorem rd_is_column {isa : Value → Value → Option Bool} (ok : IsaP isa) : ∀ ds μ Q, P_is_column ds μ Q → td_is_column isa { nx := fun _ μ' => GhQ Q .non μ', rt := GhQ Q } (startD N_is_column ds) μ := by
  rintro ds μ Q ⟨x, y, cs, rfl, ⟨⟨t, ht, hm⟩, hp⟩, hs, q⟩
  have q' : GhQ Q _ μ := .self q
  unfold td_is_column N_is_column
  walk_at "dd"
  refine isi_any ok ht hm (by decide) ⟨trivial, ?_⟩
  rcases ty_tupC ht with ⟨rfl, xs, rfl⟩ | ⟨ne, no, _⟩
  · obtain ⟨hl, hp⟩ := hp xs rfl
    rw [show kitB "tuple" "tuple" = true from by decide]
    show ∃ ys, SeqD μ (.tup xs) ys ∧ _
    refine ⟨xs, rfl, ?_⟩
    show if decide ((6 : Int) < ((xs.length : Nat) : Int)) = true then _ else _
    by_cases e : xs.length ≤ 6
    · rw [if_neg (by simp; omega)]
      refine ⟨xs, rfl, ?_⟩
      refine LcB.pure (fun x => .bl (isNameOf x cs)) (keep_seq rfl) (by omega) (fun j d Qd hd z => ?_) ?_
      · walk_at "dd"
        exact ⟨d, y, cs, rfl, hp d (List.mem_of_getElem? hd), hs, z⟩
      · refine newLst_f ?_
        refine ⟨xs.map (fun x => isNameOf x cs), ?_, ?_⟩
        · show List.map (fun x => D.bl (isNameOf x cs)) xs = _
          rw [List.map_map]; rfl
        · have e2 : isColB (.tup xs) cs = (xs.map fun x => isNameOf x cs).all id := by
            show (decide (xs.length ≤ 6) && xs.all fun x => isNameOf x cs) = _
            rw [decide_eq_true e, Bool.true_and, List.all_map]; rfl
          rw [e2] at q'
          exact q'
    · have e2 : isColB (.tup xs) cs = false := by
        show (decide (xs.length ≤ 6) && xs.all fun x => isNameOf x cs) = _
        rw [decide_eq_false e]; rfl
      rw [e2] at q'
      rw [if_pos (by simp; omega)]
      exact q'
  · rw [kit_tup ne]
    rw [no cs] at q'
    exact q'
theorem rd_is_sight {isa : Value → Value → Option Bool} (ok : IsaP isa) : ∀ ds μ Q, P_is_sight ds μ Q → td_is_sight isa { nx := fun _ μ' => GhQ Q .non μ', rt := GhQ Q } (startD N_is_sight ds) μ := by
  rintro ds μ Q ⟨x, y, cs, rfl, ⟨⟨t, ht, hm⟩, _, hp⟩, hs, q⟩
  have q' : GhQ Q _ μ := .self q
  unfold td_is_sight N_is_sight
  walk_at "dd"
  refine isi_any ok ht hm (by decide) ⟨trivial, ?_⟩
  rcases ty_tupC ht with ⟨rfl, xs, rfl⟩ | ⟨ne, _, no⟩
  · rw [show kitB "tuple" "tuple" = true from by decide]
    show ∃ ys, SeqD μ (.tup xs) ys ∧ _
    refine ⟨xs, rfl, ?_⟩
    show if (!decide (((xs.length : Nat) : Int) = 3)) = true then _ else _
    by_cases e : xs.length = 3
    · obtain ⟨a, b, c, rfl⟩ : ∃ a b c, xs = [a, b, c] := by
        match xs, e with
        | [a, b, c], _ => exact ⟨a, b, c, rfl⟩
      obtain ⟨ha, hb, hc⟩ := hp a b c rfl
      rw [if_neg (by simp)]
      refine ⟨rfl, ?_⟩
      show P_is_number [a, .int 99] μ _
      refine ⟨a, 99, rfl, ha, ?_⟩
      have q2 : GhQ Q (.bl (isNumB a 99 && (isNumB b 31 && isColB c cs))) μ := q'
      show if isNumB a 99 = true then _ else _
      by_cases e1 : isNumB a 99 = true
      · rw [e1, Bool.true_and] at q2
        rw [if_pos e1]
        refine ⟨b, rfl, hb, ?_⟩
        show if isNumB b 31 = true then _ else _
        by_cases e2 : isNumB b 31 = true
        · rw [e2, Bool.true_and] at q2
          rw [if_pos e2]
          exact ⟨c, y, cs, rfl, hc, hs, q2⟩
        · have e2' : isNumB b 31 = false := by simpa using e2
          rw [e2', Bool.false_and] at q2
          rw [if_neg e2]
          exact q2
      · have e1' : isNumB a 99 = false := by simpa using e1
        rw [e1', Bool.false_and] at q2
        rw [if_neg e1]
        exact q2
    · have e2 : isSightB (.tup xs) cs = false := by
        match xs, e with
        | [], _ => rfl
        | [_], _ => rfl
        | [_, _], _ => rfl
        | [_, _, _], e => exact absurd rfl e
        | _ :: _ :: _ :: _ :: _, _ => rfl
      rw [e2] at q'
      have ne : ¬ ((xs.length : Nat) : Int) = 3 := fun z => e (by omega)
      rw [decide_eq_false ne, if_pos (by rfl)]
      exact q'
  · rw [kit_tup ne]
    rw [no cs] at q'
    exact q'
theorem rd_check_sight {Fleet BadSight : Addr} : ∀ ds μ Q E, P_check_sight Fleet BadSight ds μ Q E → td_check_sight Fleet BadSight (fun C fs _ μ' => GhE E C fs μ') { nx := fun _ μ' => GhQ Q .non μ', rt := GhQ Q } (startD N_check_sight ds) μ := by
  rintro ds μ Q E ⟨a, f, x, rfl, ha, hx, q⟩
  unfold td_check_sight N_check_sight
  walk_at "dx"
  walk_at "dd"
  unfold dMeth
  walk_at "dd"
  refine ⟨⟨_, ha, fl_no (by decide +kernel) (by decide +kernel)⟩, a, f, rfl, ha, ?_⟩
  show ∃ xs d, SeqD μ (fleetD f) xs ∧ atI xs 0 = some d ∧ _
  refine ⟨_, _, rfl, rfl, ?_⟩
  refine ⟨x, _, f.1, rfl, hx, rfl, trivial, ?_⟩
  by_cases e : isSightB x f.1 = true
  · rw [if_pos e] at q
    rw [e]
    exact .self q
  · have e' : isSightB x f.1 = false := by simpa using e
    rw [if_neg e] at q
    rw [e']
    exact ⟨μ, (fun _ _ h => h), q⟩
/-- where the walk stands -/
theorem sub_step {s w : List Str} {i j : Nat} {c : Str} (hi : i ≤ s.length) (hc : w[j]? = some c) : subB (s.drop i) (w.drop j) = if h : i < s.length then (if s[i] = c then subB (s.drop (i + 1)) (w.drop (j + 1)) else subB (s.drop i) (w.drop (j + 1))) else subB (s.drop i) (w.drop (j + 1)) := by
  have hw : w.drop j = c :: w.drop (j + 1) := by
    obtain ⟨hj, rfl⟩ := List.getElem?_eq_some_iff.mp hc
    exact List.drop_eq_getElem_cons hj
  by_cases h : i < s.length
  · rw [dif_pos h, hw, List.drop_eq_getElem_cons h]
    conv => lhs; unfold subB
  · rw [dif_neg h, List.drop_eq_nil_of_le (by omega)]
    unfold subB
    rfl
theorem rd_left_out : ∀ ds μ Q, P_left_out ds μ Q → td_left_out { nx := fun _ μ' => GhQ Q .non μ', rt := GhQ Q } (startD N_left_out ds) μ := by
  rintro ds μ Q ⟨s, w, rfl, l1, l2, q⟩
  unfold td_left_out N_left_out strsD
  walk_at "dd"
  refine ⟨_, rfl, fun j ds ν => ν = μ ∧ ∃ (i : Nat) (x3 : Option D), i ≤ s.length ∧ subB s w = subB (s.drop i) (w.drop j) ∧ ds = [some (strsD s), some (strsD w), some (.int (i : Nat)), x3], ⟨rfl, 0, none, Nat.zero_le _, rfl, rfl⟩, fun j ds ν _ h => by obtain ⟨rfl, _⟩ := h; exact keep_seq rfl, fun j d ds ν hd hI => ?_, fun ds ν hI => ?_⟩
  · obtain ⟨rfl, i, x3, hi, hsub, rfl⟩ := hI
    obtain ⟨c, hc, rfl⟩ := map_get hd
    have st := sub_step hi hc
    walk_at "dd"
    refine ⟨_, rfl, ?_⟩
    show if decide (((i : Nat) : Int) < (((s.map D.str).length : Nat) : Int)) = true then _ else _
    rw [List.length_map]
    by_cases h : i < s.length
    · rw [if_pos (by simpa using h)]
      rw [dif_pos h] at st
      show ∃ xs d, _
      refine ⟨_, _, rfl, atI_some (i := (i : Nat)) (by omega) (by rw [Int.toNat_natCast, List.getElem?_map, List.getElem?_eq_getElem h]; rfl), ?_⟩
      show if decide (s[i] = c) = true then _ else _
      by_cases e : s[i] = c
      · rw [if_pos e] at st
        rw [if_pos (decide_eq_true e)]
        unfold dAug dAddI
        walk_at "dd"
        refine ⟨trivial, i + 1, some (.str c), by omega, hsub.trans st, ?_⟩
        simp [strsD]
      · rw [if_neg e] at st
        rw [if_neg (by simpa using e)]
        exact ⟨rfl, i, _, hi, hsub.trans st, rfl⟩
    · rw [dif_neg h] at st
      rw [if_neg (by simpa using h)]
      exact ⟨rfl, i, _, hi, hsub.trans st, rfl⟩
  · obtain ⟨rfl, i, x3, hi, hsub, rfl⟩ := hI
    rw [List.length_map, List.drop_eq_nil_of_le (Nat.le_refl _)] at hsub
    unfold strsD
    walk_at "dd"
    refine ⟨_, rfl, ?_⟩
    rw [List.length_map]
    have q' : GhQ Q _ ν := .self q
    unfold leftOut at q'
    rw [hsub] at q'
    by_cases h : i < s.length
    · rw [if_pos (by simpa using h)]
      have e : subB (s.drop i) [] = false := by
        rw [List.drop_eq_getElem_cons h]; rfl
      rw [e] at q'
      exact q'
    · rw [if_neg (by simpa using h)]
      have e : subB (s.drop i) [] = true := by
        rw [List.drop_eq_nil_of_le (by omega)]; rfl
      rw [e] at q'
      refine ⟨_, rfl, _, rfl, ?_⟩
      rw [List.length_map, List.length_map]
      exact q'
theorem all_strs {cs : List Str} : ∀ {xs : List D}, (∀ x ∈ xs, isNameOf x cs = true) → ∃ ns : List Str, xs = ns.map D.str
  | [], _ => ⟨[], rfl⟩
  | x :: xs, h => by
    obtain ⟨ns, rfl⟩ := all_strs fun y hy => h y (List.mem_cons_of_mem _ hy)
    have hx := h x List.mem_cons_self
    cases x with
    | str s => exact ⟨s :: ns, rfl⟩
    | _ => cases hx
theorem col_strs {c : D} {cs : List Str} (h : isColB c cs = true) : ∃ ns : List Str, c = strsD ns ∧ ns.length ≤ 6 := by
  cases c with
  | tup xs =>
    have h : (decide (xs.length ≤ 6) && xs.all fun x => isNameOf x cs) = true := h
    simp only [Bool.and_eq_true, decide_eq_true_eq, List.all_eq_true] at h
    obtain ⟨l6, h⟩ := h
    obtain ⟨ns, rfl⟩ := all_strs h
    exact ⟨ns, rfl, by rw [List.length_map] at l6; exact l6⟩
  | _ => cases h
theorem rd_hides {Fleet NoKind BadPoint BadSight : Addr} : ∀ ds μ Q E, P_hides Fleet NoKind BadPoint BadSight ds μ Q E → td_hides Fleet NoKind BadPoint BadSight (fun C fs _ μ' => GhE E C fs μ') { nx := fun _ μ' => GhQ Q .non μ', rt := GhQ Q } (startD N_hides ds) μ := by
  rintro ds μ Q E ⟨a, f, x, y, z, rfl, ha, few, hx, hy, hz, q⟩
  unfold td_hides N_hides
  walk_at "dx"
  walk_at "dd"
  refine ⟨⟨_, ha, fl_no (by decide +kernel) (by decide +kernel)⟩, a, f, x, rfl, ha, few, hx, ?_⟩
  cases ek : kindIn f x with
  | none => rw [ek] at q; exact ⟨μ, (fun _ _ h => h), q⟩
  | some k =>
    rw [ek] at q
    dsimp only at q ⊢
    refine ⟨y, "course", rfl, hy, by decide +kernel, ?_⟩
    by_cases e1 : isNumB y 31 = true
    · rw [if_pos e1] at q ⊢
      refine ⟨a, f, z, rfl, ha, hz, ?_⟩
      by_cases e2 : isSightB z f.1 = true
      · rw [if_pos e2] at q ⊢
        obtain ⟨m, s, c, rfl⟩ : ∃ m s c, z = .tup [m, s, c] := by
          unfold isSightB at e2
          split at e2
          · exact ⟨_, _, _, rfl⟩
          · cases e2
        have e3 : (isNumB m 99 && (isNumB s 31 && isColB c f.1)) = true := e2
        simp only [Bool.and_eq_true] at e3
        obtain ⟨e4, e5, e6⟩ := e3
        obtain ⟨cc, rfl⟩ := num_int e1
        obtain ⟨mm, rfl⟩ := num_int e4
        obtain ⟨ss, rfl⟩ := num_int e5
        obtain ⟨ns, rfl, hl⟩ := col_strs e6
        have few_k := few_kind few ek
        walk_at "dd"
        refine ⟨trivial, ?_⟩
        walk_at "dd"
        refine ⟨by decide, ?_⟩
        refine ⟨_, _, _, rfl, rfl, few_k, ?_⟩
        refine ⟨ns, colOf k.2.2 ((ss - cc) % 32), rfl, by omega, Nat.le_trans (colOf_len _ _) few_k, ?_⟩
        exact .self (q cc mm ss ns rfl rfl)
      · rw [if_neg e2] at q ⊢
        exact ⟨μ, (fun _ _ h => h), q⟩
    · rw [if_neg e1] at q ⊢
      exact ⟨μ, (fun _ _ h => h), q⟩
end DL.K30
set_option Elab.async false
set_option linter.all false
set_option maxRecDepth 100000
set_option maxHeartbeats 4000001
namespace DL.K30
open PySem L2 TL PyProof.Rows DL.K20 DL.K22
local macro_rules | `(tactic| walk_at "dd") => `(tactic| try simp only [dSeq, dAsg, dgName, dgTup, dgSub, dOp, dVar, dC, dAdd, dSub, dMul, dMod, dFDiv, dPow, dCmp, dNeg, dEqn, dIsN, dIx, dTup, dLst, dConsA, dNilA, dCB, dCall, dRet, dRetN, dDrop, dIfS, dNext, dBreak, dCont, dTest, dTru, dAndT, dOrT, dNotT, dAndV, dOrV, dNotV, dIf, dChain, dDGet, dDPut, dM1, dM0, dJoin, dSplit, dUpper, dBML, dAppend, dInsert, dPopAt, dLen, dInt, dStr, dTupOf, dListOf, dMax2, dSum, dAll, dSl, dPart, dNoPart, newLst, keyD, dFor, dLc, diSeq, diRng1, diRng2, diEnum, diEnumS, diStr,
  startD, setAll, wipeD, List.map_cons, List.map_nil, List.length_cons, List.length_nil, List.replicate, List.cons_append, List.nil_append, List.getElem?_cons_zero, List.getElem?_cons_succ, List.set_cons_zero, List.set_cons_succ, Nat.reduceAdd, Nat.reduceSub, Bool.false_eq_true, if_true, if_false, ite_true, ite_false, reduceIte])
local macro_rules | `(tactic| walk_at "cm") => `(tactic| first | exact .inl ⟨by omega, by omega⟩ | exact .inr ⟨by omega, by omega⟩ | exact ⟨by omega, by omega⟩ | omega | decide)
theorem rd__law_whole {isa : Value → Value → Option Bool} (ok : IsaP isa) : ∀ ds μ Q, P__law_whole ds μ Q → td__law_whole isa { nx := fun _ μ' => GhQ Q .non μ', rt := GhQ Q } (startD N__law_whole ds) μ := by
  rintro ds μ Q ⟨i, rfl, q⟩
  unfold td__law_whole N__law_whole
  walk_at "dd"
  refine isi_any ok (u := "int") (.int i) (by decide) (by decide) ?_
  rw [show kitB "int" "int" = true from by decide]
  show if true = true then _ else _
  rw [if_pos rfl]
  refine isi_any ok (u := "bool") (.int i) (by decide) (by decide) ?_
  rw [show kitB "int" "bool" = false from by decide]
  exact ⟨trivial, .self q⟩
/-- the colours at the bits that are set -/
def mask : List Str → Nat → List Str
  | [], _ => []
  | c :: w, b => if b % 2 = 1 then c :: mask w (b / 2) else mask w (b / 2)
theorem mask_sub : ∀ (w : List Str) (b : Nat), (mask w b).Sublist w
  | [], _ => by unfold mask; exact .slnil
  | c :: w, b => by
    unfold mask
    split
    · exact (mask_sub w _).cons_cons _
    · exact (mask_sub w _).cons _
theorem mask_all : ∀ {s w : List Str}, s.Sublist w → ∃ b, b < 2 ^ w.length ∧ mask w b = s
  | _, _, .slnil => ⟨0, by decide, rfl⟩
  | _, _, .cons (l₂ := w) c h => by
    obtain ⟨b, hb, e⟩ := mask_all h
    refine ⟨2 * b, by rw [List.length_cons, Nat.pow_succ]; omega, ?_⟩
    unfold mask
    rw [if_neg (by omega), show 2 * b / 2 = b by omega]
    exact e
  | _, _, .cons_cons (l₂ := w) c h => by
    obtain ⟨b, hb, e⟩ := mask_all h
    refine ⟨2 * b + 1, by rw [List.length_cons, Nat.pow_succ]; omega, ?_⟩
    unfold mask
    rw [if_pos (by omega), show (2 * b + 1) / 2 = b by omega, e]
theorem mask_step {w : List Str} {j : Nat} {c : Str} (b : Nat) (hc : w[j]? = some c) : mask (w.drop j) b = (if b % 2 = 1 then [c] else []) ++ mask (w.drop (j + 1)) (b / 2) := by
  obtain ⟨hj, rfl⟩ := List.getElem?_eq_some_iff.mp hc
  rw [List.drop_eq_getElem_cons hj]
  conv => lhs; unfold mask
  split <;> rfl
theorem lay_strs2 {xs : List Str} (h : ∀ s ∈ xs, Asc s) : SeqAt.shaped (.tuple (xs.map PyData.str)) = true := by
  unfold SeqAt.shaped
  rw [PyData.canLay0, lay_strs xs h, PyData.depth, dep_strs]
  rfl
theorem eq_strsT {xs ys : List Str} {neg : Bool} {μ : Mu} {Q : DK} (h1 : ∀ s ∈ xs, Asc s) (h2 : ∀ s ∈ ys, Asc s) (q : Q (.bl (if neg then !decide (xs = ys) else decide (xs = ys))) μ) : dEqn neg (strsD xs) (strsD ys) μ Q := by
  refine ⟨.tuple (xs.map .str), .tuple (ys.map .str), ?_, ?_, lay_strs2 h1, lay_strs2 h2, ?_⟩
  · show pd (.tup _) = _
    rw [pd, pdL_strs]; rfl
  · show pd (.tup _) = _
    rw [pd, pdL_strs]; rfl
  · have e : PyData.eqv (.tuple (xs.map .str)) (.tuple (ys.map .str)) = decide (xs = ys) := eqv_strs xs ys
    rw [e]
    exact q
theorem odd_bit (b j : Nat) : (((b : Int) / 2 ^ j) % 2 = 1) ↔ (b / 2 ^ j) % 2 = 1 := by
  have e : ((b : Int) / 2 ^ j) = ((b / 2 ^ j : Nat) : Int) := by
    rw [Int.natCast_ediv, Int.natCast_pow]
    rfl
  rw [e]
  omega
theorem rd__law_hidden : ∀ ds μ Q, P__law_hidden ds μ Q → td__law_hidden { nx := fun _ μ' => GhQ Q .non μ', rt := GhQ Q } (startD N__law_hidden ds) μ := by
  rintro ds μ Q ⟨w, s, rfl, l1, l2, a1, a2, q⟩
  unfold td__law_hidden N__law_hidden strsD
  walk_at "dd"
  refine ⟨_, rfl, ?_⟩
  unfold dShl
  dsimp only
  rw [List.length_map]
  refine ⟨rfl, by omega, by omega, ?_⟩
  rw [Int.toNat_natCast]
  have p64 : (2 : Int) ^ w.length ≤ 64 := by
    have : (2 : Nat) ^ w.length ≤ 2 ^ 6 := Nat.pow_le_pow_right (by decide) l1
    have h2 : ((2 ^ w.length : Nat) : Int) ≤ ((2 ^ 6 : Nat) : Int) := by exact_mod_cast this
    rw [Int.natCast_pow] at h2
    exact h2
  have p0 : (0 : Int) < (2 : Int) ^ w.length := Int.pow_pos (by decide)
  refine ⟨⟨by omega, by omega⟩, fun i ds ν => ν = μ ∧ (∀ b < i, mask w b ≠ s) ∧ ∃ x2 x3, ds = [some (strsD w), some (strsD s), x2, x3, none, none], ⟨rfl, fun _ h => absurd h (Nat.not_lt_zero _), none, none, rfl⟩, fun _ _ _ _ _ => trivial, fun i d ds ν hd hI => ?_, fun ds ν hI => ?_⟩
  · obtain ⟨rfl, no, x2, x3, rfl⟩ := hI
    obtain ⟨hi, rfl⟩ := rngD_get hd
    unfold strsD diEnumT
    walk_at "dd"
    refine ⟨fun j acc ν' => ν' = ν ∧ ∃ cs : List Str, acc = cs.map D.str ∧ cs.length ≤ j ∧ cs ++ mask (w.drop j) (i / 2 ^ j) = mask w i, ⟨rfl, [], rfl, Nat.le_refl _, by simp⟩, fun _ _ _ _ _ => trivial, fun j d acc ν' hd hJ => ?_, fun acc ν' hJ => ?_⟩
    · obtain ⟨rfl, cs, rfl, hl, hm⟩ := hJ
      obtain ⟨x, hx, rfl⟩ := enumD_get hd
      obtain ⟨c, hc, rfl⟩ := map_get hx
      have hj : j < w.length := (List.getElem?_eq_some_iff.mp hc).1
      refine ⟨small (by rw [List.length_map]; omega), ?_⟩
      walk_at "dd"
      refine ⟨trivial, ?_⟩
      walk_at "dd"
      unfold dShr dOdd
      dsimp only
      refine ⟨by omega, ?_⟩
      have e0 : (0 + ((j : Nat) : Int)).toNat = j := by omega
      rw [e0]
      rw [show (0 : Int) + ((i : Nat) : Int) = (i : Nat) by omega]
      refine ⟨Int.ediv_nonneg (by omega) (Int.pow_nonneg (by decide)), rfl, ?_⟩
      have st := mask_step (i / 2 ^ j) hc
      have e2 : i / 2 ^ j / 2 = i / 2 ^ (j + 1) := by rw [Nat.div_div_eq_div_mul, Nat.pow_succ]
      rw [e2] at st
      by_cases e : (i / 2 ^ j) % 2 = 1
      · rw [if_pos (decide_eq_true ((odd_bit i j).mpr e))]
        rw [if_pos e] at st
        refine ⟨rfl, cs ++ [c], by rw [List.map_append]; rfl, by rw [List.length_append]; exact Nat.succ_le_succ hl, ?_⟩
        rw [← hm, st, List.append_assoc]
      · rw [if_neg (fun z => e ((odd_bit i j).mp (of_decide_eq_true z)))]
        rw [if_neg e] at st
        refine ⟨rfl, cs, rfl, by omega, ?_⟩
        rw [← hm, st]; rfl
    · obtain ⟨rfl, cs, rfl, hl, hm⟩ := hJ
      rw [enumD_len, List.length_map, List.drop_eq_nil_of_le (Nat.le_refl _)] at hm
      have hm : cs = mask w i := by
        rw [← hm]; unfold mask; rw [List.append_nil]
      subst hm
      refine newLst_f ?_
      refine ⟨_, rfl, ?_⟩
      have am : ∀ c ∈ mask w i, Asc c := fun c hc => a1 c ((mask_sub w i).subset hc)
      refine ⟨.tuple ((mask w i).map .str), .tuple (s.map .str), ?_, ?_, lay_strs2 am, lay_strs2 a2, ?_⟩
      · show pd (.tup _) = _
        rw [pd, pdL_strs]; rfl
      · show pd (.tup _) = _
        rw [pd, pdL_strs]; rfl
      rw [show PyData.eqv (.tuple ((mask w i).map .str)) (.tuple (s.map .str)) = decide (mask w i = s) from eqv_strs _ _]
      by_cases e : mask w i = s
      · rw [decide_eq_true e, if_pos rfl]
        refine ⟨_, rfl, _, rfl, ?_⟩
        rw [List.length_map, List.length_map]
        have hs : subB s w = true := (subB_iff s w).mpr (e ▸ mask_sub w i)
        unfold leftOut at q
        rw [if_pos hs] at q
        exact .self q
      · rw [decide_eq_false e, if_neg Bool.false_ne_true]
        refine ⟨rfl, fun b hb => ?_, _, _, rfl⟩
        rcases Nat.lt_succ_iff_lt_or_eq.mp hb with h | rfl
        · exact no b h
        · exact e
  · obtain ⟨rfl, no, x2, x3, rfl⟩ := hI
    rw [rngD_len] at no
    walk_at "dd"
    have hs : ¬ subB s w = true := fun h => by
      obtain ⟨b, hb, e⟩ := mask_all ((subB_iff s w).mp h)
      refine no b ?_ e
      have : ((2 : Int) ^ w.length).toNat = 2 ^ w.length := by
        have h2 : (2 : Int) ^ w.length = ((2 ^ w.length : Nat) : Int) := by rw [Int.natCast_pow]; rfl
        rw [h2, Int.toNat_natCast]
      first | (rw [this]; exact hb) | (rw [Int.sub_zero, this]; exact hb)
    unfold leftOut at q
    rw [if_neg hs] at q
    exact .self q
def words9b : List Str := ["kind", "point", "sight", "text", "full", "moment", "boats", "many", "foe", "other"]
theorem words_oneb : ∀ w ∈ words9, words9b.filter (fun x => decide (w = x)) = [w] := by decide +kernel
theorem words_oth : ∀ w ∈ words9, ¬ w = Str.ofString "other" := by decide +kernel
theorem rd__law_word {R : List Str} {isa : Value → Value → Option Bool} {BadText NoKind BadPoint BadSight Full BadMoment BadBoats BadMany NoFoe : Addr} (ok : ErrIsa R isa ⟨BadText, NoKind, BadPoint, BadSight, Full, BadMoment, BadBoats, BadMany, NoFoe⟩) : ∀ ds μ Q, P_lw R BadText NoKind BadPoint BadSight Full BadMoment BadBoats BadMany NoFoe ds μ Q →
    td__law_word isa BadPoint NoKind BadText BadSight BadMoment Full BadMany BadBoats NoFoe { nx := fun _ μ' => GhQ Q .non μ', rt := GhQ Q } (startD N__law_word ds) μ := by
  rintro ds μ Q ⟨C, fs, wd, rfl, hm, hrw, q⟩
  unfold td__law_word N__law_word
  have hw : wd ∈ words9 := by rw [← row_words ⟨BadText, NoKind, BadPoint, BadSight, Full, BadMoment, BadBoats, BadMany, NoFoe⟩]; exact List.mem_map.mpr ⟨_, hm, rfl⟩
  have M : ∀ {D : Addr} {w2 : Str} {Q : DK} {ν : Mu}, (D, w2) ∈ (Er.row ⟨BadText, NoKind, BadPoint, BadSight, Full, BadMoment, BadBoats, BadMany, NoFoe⟩) → Q (.bl (decide (wd = w2))) ν → dIsi isa [.exc C fs, .obj D] ν Q := fun h q => isi_err ok hm hrw h q
  walk_at "dd"
  refine M (w2 := "kind") (.tail _ (.head _)) ⟨by show 2 ≤ sizeLine; decide, ?_⟩
  refine M (w2 := "point") (.tail _ (.tail _ (.head _))) ⟨by show 2 ≤ sizeLine; decide, by show 2 ≤ sizeLine; decide, ?_⟩
  walk_at "dd"
  refine M (w2 := "sight") (.tail _ (.tail _ (.tail _ (.head _)))) ⟨by show 2 ≤ sizeLine; decide, ?_⟩
  refine M (w2 := "text") (.head _) ⟨by show 2 ≤ sizeLine; decide, by show 2 ≤ sizeLine; decide, ?_⟩
  walk_at "dd"
  refine ⟨_, _, rfl, rfl, by show 4 ≤ sizeLine; decide, ?_⟩
  walk_at "dd"
  refine M (w2 := "full") (.tail _ (.tail _ (.tail _ (.tail _ (.head _))))) ⟨by show 2 ≤ sizeLine; decide, ?_⟩
  refine M (w2 := "moment") (.tail _ (.tail _ (.tail _ (.tail _ (.tail _ (.head _)))))) ⟨by show 2 ≤ sizeLine; decide, by show 2 ≤ sizeLine; decide, ?_⟩
  walk_at "dd"
  refine ⟨_, _, rfl, rfl, by show 6 ≤ sizeLine; decide, ?_⟩
  walk_at "dd"
  refine M (w2 := "boats") (.tail _ (.tail _ (.tail _ (.tail _ (.tail _ (.tail _ (.head _))))))) ⟨by show 2 ≤ sizeLine; decide, ?_⟩
  refine M (w2 := "many") (.tail _ (.tail _ (.tail _ (.tail _ (.tail _ (.tail _ (.tail _ (.head _)))))))) ⟨by show 2 ≤ sizeLine; decide, by show 2 ≤ sizeLine; decide, ?_⟩
  walk_at "dd"
  refine ⟨_, _, rfl, rfl, by show 8 ≤ sizeLine; decide, ?_⟩
  walk_at "dd"
  refine M (w2 := "foe") (.tail _ (.tail _ (.tail _ (.tail _ (.tail _ (.tail _ (.tail _ (.tail _ (.head _))))))))) ⟨by show 2 ≤ sizeLine; decide, ?_⟩
  refine ⟨_, _, _, _, rfl, .ty _, .inr ⟨C, fs, rfl, ok.val _ hm hrw⟩, trivial, by show 2 ≤ sizeLine; decide, by show 2 ≤ sizeLine; decide, ?_⟩
  walk_at "dd"
  refine ⟨_, _, rfl, rfl, by show 10 ≤ sizeLine; decide, ?_⟩
  walk_at "dd"
  refine ⟨⟨_, rfl⟩, words9b.map (wPair wd), ?_, ?_⟩
  · show _ = words9b.map (wPair wd)
    unfold words9b wPair
    simp only [List.map_cons, List.map_nil, decide_eq_false (words_oth wd hw)]
    rfl
  refine LcB.filtG sndB headOf trivial (by rw [List.length_map]; decide) (fun j d Y N hd hy hn => ?_) ?_
  · obtain ⟨x, hx, rfl⟩ := map_get hd
    unfold wPair
    walk_at "dd"
    refine ⟨trivial, trivial, ?_⟩
    show if decide (wd = x) = true then _ else _
    by_cases e : decide (wd = x) = true
    · rw [if_pos e]; exact hy e
    · rw [if_neg e]; exact hn (show decide (wd = x) = false by simpa using e)
  · rw [filt_words, words_oneb wd hw]
    refine ⟨[wd], rfl, ?_, ?_⟩
    · have : ∀ w ∈ words9, ((([w] : List Str).map (·.length)).sum + ([w] : List Str).length * (Str.ofString " ").length ≤ 16777216) := by decide +kernel
      exact this wd hw
    · rw [join_one]
      exact .self q
end DL.K30
set_option Elab.async false
set_option linter.all false
set_option maxRecDepth 100000
set_option maxHeartbeats 4000001
namespace DL.K30
open PySem L2 TL PyProof.Rows DL.K20 DL.K22
local macro_rules | `(tactic| walk_at "dd") => `(tactic| try simp only [dSeq, dAsg, dgName, dgTup, dgSub, dOp, dVar, dC, dAdd, dSub, dMul, dMod, dFDiv, dPow, dCmp, dNeg, dEqn, dIsN, dIx, dTup, dLst, dConsA, dNilA, dCB, dCall, dRet, dRetN, dDrop, dIfS, dNext, dBreak, dCont, dTest, dTru, dAndT, dOrT, dNotT, dAndV, dOrV, dNotV, dIf, dChain, dDGet, dDPut, dM1, dM0, dJoin, dSplit, dUpper, dBML, dAppend, dInsert, dPopAt, dLen, dInt, dStr, dTupOf, dListOf, dMax2, dSum, dAll, dSl, dPart, dNoPart, newLst, keyD, dFor, dLc, diSeq, diRng1, diRng2, diEnum, diEnumS, diStr,
  startD, setAll, wipeD, List.map_cons, List.map_nil, List.length_cons, List.length_nil, List.replicate, List.cons_append, List.nil_append, List.getElem?_cons_zero, List.getElem?_cons_succ, List.set_cons_zero, List.set_cons_succ, Nat.reduceAdd, Nat.reduceSub, Bool.false_eq_true, if_true, if_false, ite_true, ite_false, reduceIte])
local macro_rules | `(tactic| walk_at "cm") => `(tactic| first | exact .inl ⟨by omega, by omega⟩ | exact .inr ⟨by omega, by omega⟩ | exact ⟨by omega, by omega⟩ | omega | decide)
section
variable {m dg : Addr} {rest : List (Key × D)} {n k : Nat} {μ ν ρ : Mu}
theorem Kp.refl (μ : Mu) : Kp m dg μ μ := fun _ _ _ _ h => h
theorem Kp.trans (a : Kp m dg μ ν) (b : Kp m dg ν ρ) : Kp m dg μ ρ := fun x o h1 h2 h => b x o h1 h2 (a x o h1 h2 h)
theorem Kp.of (F : Fr m dg μ ν) : Kp m dg μ ν := fun b o h1 h2 h => (F b h1 h2).trans h
theorem Kp.putN {p : Addr} {o : MO} (a : Kp m dg μ ν) (hp : ν p = none) : Kp m dg μ (put ν p o) := fun b o' h1 h2 h => by
  have := a b o' h1 h2 h
  rw [put_ne fun e => by rw [e, hp] at this; cases this]
  exact this
theorem Kp.putO {p : Addr} {o : MO} (a : Kp m dg μ ν) (hp : μ p = none) : Kp m dg μ (put ν p o) := fun b o' h1 h2 h => by
  rw [put_ne fun e => by rw [e, hp] at h; cases h]
  exact a b o' h1 h2 h
theorem Kp.fleet {Fleet a : Addr} {f : Flt} (h : Kp m dg μ ν) (am : a ≠ m) (ad : a ≠ dg) (A : FleetAt Fleet a f μ) : FleetAt Fleet a f ν := h a _ am ad A
theorem any_kp {x : D} (h : Kp m dg μ ν) (M : MOk m dg rest n μ) (hx : Any μ x) (no : x ≠ .obj m ∧ x ≠ .obj dg) : Any ν x := by
  obtain ⟨t, ht, hm⟩ := hx
  refine ⟨t, ?_, hm⟩
  generalize e : Value.type t = v at ht ⊢
  cases ht
  case objL a xs h0 => exact .objL (h a _ (fun z => no.1 (by rw [z])) (fun z => no.2 (by rw [z])) h0)
  case objD a xs h0 => exact .objD (h a _ (fun z => no.1 (by rw [z])) (fun z => no.2 (by rw [z])) h0)
  all_goals constructor
end
theorem not_name {s : Str} {cs : List Str} (h : Names cs) (no : ¬ IsName s) : isNameOf (.str s) cs = false := by
  show decide (s ∈ cs) = false
  exact decide_eq_false fun z => no (h s z)
theorem nn0 : ¬ IsName (Str.ofString "") := fun h => absurd h.1 (by decide +kernel)
theorem nn1 : ¬ IsName (Str.ofString "A") := fun h => absurd (h.2.2.1 65 (by decide +kernel)) (by decide)
theorem nn2 : ¬ IsName (Str.ofString "abcdefg") := fun h => absurd h.2.1 (by decide +kernel)
theorem nn3 : ¬ IsName (Str.ofString "zzzzzzz") := fun h => absurd h.2.1 (by decide +kernel)
theorem rd__law_strange : ∀ ds μ Q, P__law_strange ds μ Q → td__law_strange { nx := fun _ μ' => GhQ Q .non μ', rt := GhQ Q } (startD N__law_strange ds) μ := by
  rintro ds μ Q ⟨m, dg, rest, n, rfl, M, hn, q⟩
  unfold td__law_strange N__law_strange
  walk_at "dd"
  refine ⟨by show 1 ≤ sizeLine; decide, by show 1 ≤ sizeLine; decide, ?_⟩
  unfold dDNew
  intro p hp
  refine ⟨by show 10 ≤ sizeLine; decide, ?_⟩
  refine ⟨m, dg, rest, n, 10, rfl, M.putO (M.neM hp) (M.neD hp), by omega, by decide, by decide, fun r ν r0 r1 M1 F1 => ?_⟩
  have e1 : ν p = some (.dK []) := by rw [F1 p (M.neM hp) (M.neD hp)]; exact put_same
  obtain ⟨x, hx0, hxm, _⟩ := atI_ex (xs := [D.non, .int 5, .str (Str.ofString ""), .str (Str.ofString "A"), .lst [.str (Str.ofString "a")], .tup [.str (Str.ofString "a")], .obj p, .bl true, .str (Str.ofString "abcdefg"), .str (Str.ofString "zzzzzzz")]) r0 r1
  refine ⟨_, x, rfl, hx0, .self (q x ν ?_ ?_ M1 ((Kp.refl μ).putN hp |>.trans (Kp.of F1)))⟩
  · intro ρ hρ
    have e1 : ρ p = some (.dK []) := hρ p _ (M.neM hp) (M.neD hp) e1
    simp only [List.mem_cons, List.not_mem_nil, or_false] at hxm
    rcases hxm with rfl | rfl | rfl | rfl | rfl | rfl | rfl | rfl | rfl | rfl
    · exact ⟨_, .non, by decide⟩
    · exact any_int _
    · exact any_str _
    · exact any_str _
    · exact ⟨_, .lst _, by decide⟩
    · exact ⟨_, .tup _, by decide⟩
    · exact ⟨_, .objD e1, by decide⟩
    · exact ⟨_, .bl _, by decide⟩
    · exact any_str _
    · exact any_str _
  · intro cs hc
    simp only [List.mem_cons, List.not_mem_nil, or_false] at hxm
    rcases hxm with rfl | rfl | rfl | rfl | rfl | rfl | rfl | rfl | rfl | rfl
    · rfl
    · rfl
    · exact not_name hc nn0
    · exact not_name hc nn1
    · rfl
    · rfl
    · rfl
    · rfl
    · exact not_name hc nn2
    · exact not_name hc nn3
theorem num_far {i : Int} (h : i < 0 ∨ 31 < i) : isNumB (.int i) 31 = false := by
  show (decide (0 ≤ i) && decide (i ≤ 31)) = false
  rcases h with h | h
  · rw [decide_eq_false (by omega)]; rfl
  · rw [decide_eq_false (show ¬ i ≤ 31 by omega), Bool.and_false]
theorem rd__law_no_point : ∀ ds μ Q, P__law_no_point ds μ Q → td__law_no_point { nx := fun _ μ' => GhQ Q .non μ', rt := GhQ Q } (startD N__law_no_point ds) μ := by
  rintro ds μ Q ⟨m, dg, rest, n, rfl, M, hn, q⟩
  unfold td__law_no_point N__law_no_point
  walk_at "dd"
  refine ⟨⟨by decide, by decide, by decide⟩, ?_⟩
  refine ⟨m, dg, rest, n, _, rfl, M, by omega, by decide, by decide, fun far ν f0 f1 M1 F1 => ?_⟩
  walk_at "dd"
  refine ⟨by show 1 ≤ sizeLine; decide, by show 1 ≤ sizeLine; decide, ?_⟩
  unfold dDNew
  intro p hp
  have hpμ : μ p = none := (F1 p (M1.neM hp) (M1.neD hp)).symm.trans hp
  refine ⟨by show 10 ≤ sizeLine; decide, ?_⟩
  refine ⟨m, dg, rest, n + 1, 10, rfl, M1.putO (M1.neM hp) (M1.neD hp), by omega, by decide, by decide, fun r ν2 r0 r1 M2 F2 => ?_⟩
  have e1 : ν2 p = some (.dK []) := by rw [F2 p (M1.neM hp) (M1.neD hp)]; exact put_same
  obtain ⟨x, hx0, hxm, _⟩ := atI_ex (xs := [D.non, .bl true, .int (-1), .int 32, .str (Str.ofString "0"), .lst [.int 0], .tup [.int 0], .obj p, .int (32 + far), .int (-1 - far)]) r0 r1
  refine ⟨_, x, rfl, hx0, .self (q x ν2 ?_ ?_ M2 ((Kp.of F1).trans (((Kp.refl ν).putN hp).trans (Kp.of F2))))⟩
  · intro ρ hρ
    have e1 : ρ p = some (.dK []) := hρ p _ (M1.neM hp) (M1.neD hp) e1
    simp only [List.mem_cons, List.not_mem_nil, or_false] at hxm
    rcases hxm with rfl | rfl | rfl | rfl | rfl | rfl | rfl | rfl | rfl | rfl
    · exact ⟨_, .non, by decide⟩
    · exact ⟨_, .bl _, by decide⟩
    · exact any_int _
    · exact any_int _
    · exact any_str _
    · exact ⟨_, .lst _, by decide⟩
    · exact ⟨_, .tup _, by decide⟩
    · exact ⟨_, .objD e1, by decide⟩
    · exact any_int _
    · exact any_int _
  · simp only [List.mem_cons, List.not_mem_nil, or_false] at hxm
    rcases hxm with rfl | rfl | rfl | rfl | rfl | rfl | rfl | rfl | rfl | rfl
    · rfl
    · rfl
    · rfl
    · rfl
    · rfl
    · rfl
    · rfl
    · rfl
    · exact num_far (.inr (by omega))
    · exact num_far (.inl (by omega))
end DL.K30
set_option Elab.async false
set_option linter.all false
set_option maxRecDepth 100000
set_option maxHeartbeats 4000001
namespace DL.K30
open PySem L2 TL PyProof.Rows DL.K20 DL.K22
local macro_rules | `(tactic| walk_at "dd") => `(tactic| try simp only [dSeq, dAsg, dgName, dgTup, dgSub, dOp, dVar, dC, dAdd, dSub, dMul, dMod, dFDiv, dPow, dCmp, dNeg, dEqn, dIsN, dIx, dTup, dLst, dConsA, dNilA, dCB, dCall, dRet, dRetN, dDrop, dIfS, dNext, dBreak, dCont, dTest, dTru, dAndT, dOrT, dNotT, dAndV, dOrV, dNotV, dIf, dChain, dDGet, dDPut, dM1, dM0, dJoin, dSplit, dUpper, dBML, dAppend, dInsert, dPopAt, dLen, dInt, dStr, dTupOf, dListOf, dMax2, dSum, dAll, dSl, dPart, dNoPart, newLst, keyD, dFor, dLc, diSeq, diRng1, diRng2, diEnum, diEnumS, diStr,
  startD, setAll, wipeD, List.map_cons, List.map_nil, List.length_cons, List.length_nil, List.replicate, List.cons_append, List.nil_append, List.getElem?_cons_zero, List.getElem?_cons_succ, List.set_cons_zero, List.set_cons_succ, Nat.reduceAdd, Nat.reduceSub, Bool.false_eq_true, if_true, if_false, ite_true, ite_false, reduceIte])
local macro_rules | `(tactic| walk_at "cm") => `(tactic| first | exact .inl ⟨by omega, by omega⟩ | exact .inr ⟨by omega, by omega⟩ | exact ⟨by omega, by omega⟩ | omega | decide)
/-! what is told whatever the store -/
def Ev (te : TD) (ds : DSl) (x : D) : Prop := ∀ (μ : Mu) (Q : DK), Q x μ → te ds μ Q
def EvA (ta : TAd) (ds : DSl) (xs : List D) : Prop := ∀ (μ : Mu) (Q : List D → Mu → Prop), Q xs μ → ta ds μ Q
section
variable {ds : DSl} {te tf : TD} {ta : TAd} {x y : D} {xs ys : List D}
theorem Ev.c : Ev (dC x) ds x := fun _ _ q => q
theorem Ev.var {i : Nat} (h : ds[i]? = some (some x)) : Ev (dVar i) ds x := fun _ _ q => by unfold dVar; rw [h]; exact q
theorem EvA.nil : EvA dNilA ds [] := fun _ _ q => q
theorem EvA.cons (h1 : Ev te ds x) (h2 : EvA ta ds xs) : EvA (dConsA te ta) ds (x :: xs) := fun μ Q q => h1 μ _ (h2 μ _ q)
theorem Ev.lst (h : EvA ta ds xs) (l : xs.length ≤ sizeLine := by decide) : Ev (dLst false ta) ds (.lst xs) := fun μ Q q => h μ _ ⟨l, q⟩
theorem Ev.tup (h : EvA ta ds xs) (l : xs.length ≤ sizeLine := by decide) : Ev (dTup ta) ds (.tup xs) := fun μ Q q => h μ _ ⟨l, q⟩
theorem Ev.neg {i : Int} (h : Ev te ds (.int i)) : Ev (dNeg te) ds (.int (-i)) := fun μ Q q => h μ _ q
theorem Ev.listOf (h : Ev te ds (.tup xs)) : Ev (dCB (dListOf false) (dConsA te dNilA)) ds (.lst xs) := fun μ Q q => h μ _ ⟨xs, rfl, q⟩
theorem Ev.addT (h1 : Ev te ds (.tup xs)) (h2 : Ev tf ds (.tup ys)) (l : xs.length + ys.length ≤ sizeLine) : Ev (dOp (dAdd false) te tf) ds (.tup (xs ++ ys)) := fun μ Q q => h1 μ _ (h2 μ _ ⟨l, q⟩)
theorem Ev.addL (h1 : Ev te ds (.lst xs)) (h2 : Ev tf ds (.lst ys)) (l : xs.length + ys.length ≤ sizeLine) : Ev (dOp (dAdd false) te tf) ds (.lst (xs ++ ys)) := fun μ Q q => h1 μ _ (h2 μ _ ⟨xs, ys, rfl, rfl, l, q⟩)
theorem Ev.slT {i : Int} (h : Ev te ds (.tup xs)) : Ev (dSl false te dNoPart (dPart (dC (.int i)))) ds (.tup (cutD xs none (some i))) := fun μ Q q => h μ _ q
end
theorem stepA {te : TD} {i : Nat} {tb : DS} {E : DEnds} {ds : DSl} {μ : Mu} (h : te ds μ fun x μ1 => tb E (ds.set i (some x)) μ1) : dSeq (dAsg te (dgName i)) tb E ds μ := h
theorem stepT {te : TD} {g : DG} {tb : DS} {E : DEnds} {ds : DSl} {μ : Mu} (h : te ds μ fun x μ1 => g x ds μ1 fun ds' μ' => tb E ds' μ') : dSeq (dAsg te g) tb E ds μ := h
theorem retA {te : TD} {E : DEnds} {ds : DSl} {μ : Mu} (h : te ds μ E.rt) : dRet te E ds μ := h
theorem opA {r : D → D → Mu → DK → Prop} {ta tb : TD} {ds : DSl} {μ : Mu} {Q : DK} (h : ta ds μ fun x μ1 => tb ds μ1 fun y μ2 => r x y μ2 Q) : dOp r ta tb ds μ Q := h
theorem lstA {m : Bool} {ta : TAd} {ds : DSl} {μ : Mu} {Q : DK} (h : ta ds μ fun xs μ1 => xs.length ≤ sizeLine ∧ newLst m xs μ1 Q) : dLst m ta ds μ Q := h
theorem consA {te : TD} {ta : TAd} {ds : DSl} {μ : Mu} {Q : List D → Mu → Prop} (h : te ds μ fun x μ1 => ta ds μ1 fun xs μ2 => Q (x :: xs) μ2) : dConsA te ta ds μ Q := h
theorem callA {P : DP} {ta : TAd} {ds : DSl} {μ : Mu} {Q : DK} (h : ta ds μ fun xs μ1 => P xs μ1 Q) : dCall P ta ds μ Q := h
theorem Ev.at {te : TD} {ds : DSl} {x : D} {μ : Mu} {Q : DK} (h : Ev te ds x) (q : Q x μ) : te ds μ Q := h μ Q q
theorem EvA.at {ta : TAd} {ds : DSl} {xs : List D} {μ : Mu} {Q : List D → Mu → Prop} (h : EvA ta ds xs) (q : Q xs μ) : ta ds μ Q := h μ Q q
theorem cutD_mem {xs : List D} {lo hi : Option Int} {x : D} (h : x ∈ cutD xs lo hi) : x ∈ xs := by
  unfold cutD at h
  exact List.mem_of_mem_drop (List.mem_of_mem_take h)
theorem cutD_len {xs : List D} {lo hi : Option Int} : (cutD xs lo hi).length ≤ xs.length := by
  unfold cutD
  rw [List.length_take, List.length_drop]
  omega
def c5 (ns : List Str) : List D := cutD (ns.map .str) none (some 5)
theorem c5_len (ns : List Str) : (c5 ns).length ≤ ns.length := by
  have := cutD_len (xs := ns.map D.str) (lo := none) (hi := some 5)
  rw [List.length_map] at this
  exact this
theorem c5_any {ns : List Str} {μ : Mu} : ∀ x ∈ c5 ns, Any μ x := fun x hx => by
  obtain ⟨s, _, rfl⟩ := List.mem_map.mp (cutD_mem hx)
  exact any_str _
theorem z3 : 3 ≤ sizeLine := by decide
def noA (mo si : Int) (ns : List Str) : List D := [.non, .int 5, .lst [], .tup [], .lst [.int mo, .int si, strsD ns], .tup (cutD [.int mo, .int si, strsD ns] none (some 2)), .tup ([.int mo, .int si, strsD ns] ++ [.int 1]), .tup [.int (-1), .int si, strsD ns], .tup [.int 100, .int si, strsD ns]]
def noB (mo si : Int) (ns : List Str) (bad : D) : List D := [.tup [.bl true, .int si, strsD ns], .tup [.non, .int si, strsD ns], .tup [.str "0", .int si, strsD ns], .tup [.int mo, bad, strsD ns]]
def noC (mo si : Int) (ns : List Str) : List D := [.tup [.int mo, .int si, .lst (ns.map .str)], .tup [.int mo, .int si, .non], .tup [.int mo, .int si, .tup [.str "zzzzzzz"]]]
def noD (mo si : Int) (ns : List Str) : List D := [.tup [.int mo, .int si, .tup (c5 ns ++ [.int 5])], .tup [.int mo, .int si, .tup (c5 ns ++ [.lst [.str "a"]])], .tup [.int mo, .int si, .str "abc"]]
def noE (mo si : Int) (ns : List Str) (p : Addr) : List D := [.tup [.int mo, .int si, .tup (c5 ns ++ [.non])], .obj p]
theorem s_np {ν : Mu} {x : D} (h : Any ν x) (l : ∀ xs, x = .tup xs → xs.length ≤ 1000) (n : ∀ a b c, x ≠ .tup [a, b, c]) : SightV ν x ∧ ∀ cs, Names cs → isSightB x cs = false := by
  refine ⟨⟨h, l, fun a b c e => absurd e (n a b c)⟩, fun cs _ => ?_⟩
  unfold isSightB
  split
  · exact absurd rfl (n _ _ _)
  · rfl
theorem s_t3 {ν : Mu} {a b c : D} (ha : Any ν a) (hb : Any ν b) (hc : ColV ν c) (no : isNumB a 99 = false ∨ isNumB b 31 = false ∨ ∀ cs, Names cs → isColB c cs = false) : SightV ν (.tup [a, b, c]) ∧ ∀ cs, Names cs → isSightB (.tup [a, b, c]) cs = false := by
  refine ⟨⟨⟨_, .tup _, by decide⟩, fun xs e => by cases e; show 3 ≤ 1000; decide, fun x y z e => by cases e; exact ⟨ha, hb, hc⟩⟩, fun cs hs => ?_⟩
  show (isNumB a 99 && (isNumB b 31 && isColB c cs)) = false
  rcases no with h | h | h
  · rw [h]; rfl
  · rw [h, Bool.false_and, Bool.and_false]
  · rw [h cs hs, Bool.and_false, Bool.and_false]
theorem col_strsV {ν : Mu} (ns : List Str) (h : ns.length ≤ 6) : ColV ν (strsD ns) := ⟨⟨_, .tup _, by decide⟩, fun xs e => by
  cases e
  exact ⟨by rw [List.length_map]; omega, fun y hy => by obtain ⟨s, _, rfl⟩ := List.mem_map.mp hy; exact any_str _⟩⟩
theorem col_not {ν : Mu} {x : D} (h : Any ν x) (n : ∀ xs, x ≠ .tup xs) : ColV ν x ∧ ∀ cs, Names cs → isColB x cs = false := ⟨⟨h, fun xs e => absurd e (n xs)⟩, fun cs _ => by
  cases x with
  | tup xs => exact absurd rfl (n xs)
  | _ => rfl⟩
theorem col_c5 {ν : Mu} {ns : List Str} {x : D} (hl : ns.length ≤ 6) (hx : Any ν x) (no : ∀ cs, isNameOf x cs = false) : ColV ν (.tup (c5 ns ++ [x])) ∧ ∀ cs, Names cs → isColB (.tup (c5 ns ++ [x])) cs = false := by
  refine ⟨⟨⟨_, .tup _, by decide⟩, fun xs e => ?_⟩, fun cs _ => ?_⟩
  · cases e
    refine ⟨by have := c5_len ns; rw [List.length_append, List.length_singleton]; omega, fun y hy => ?_⟩
    rcases List.mem_append.mp hy with h | h
    · exact c5_any y h
    · rw [List.mem_singleton.mp h]; exact hx
  · show (decide _ && (c5 ns ++ [x]).all fun y => isNameOf y cs) = false
    rw [List.all_append]
    show (decide _ && ((c5 ns).all _ && (isNameOf x cs && true))) = false
    rw [no cs, Bool.false_and, Bool.and_false, Bool.and_false]
theorem no_sights {ν : Mu} {mo si : Int} {ns : List Str} {bad : D} {p : Addr} (hl : ns.length ≤ 6) (hb : Any ν bad) (nb : isNumB bad 31 = false) (e1 : ν p = some (.dK [])) :
    ∀ x ∈ noA mo si ns ++ (noB mo si ns bad ++ (noC mo si ns ++ (noD mo si ns ++ noE mo si ns p))), SightV ν x ∧ ∀ cs, Names cs → isSightB x cs = false := by
  intro x hx
  have cn := col_strsV (ν := ν) ns hl
  rcases List.mem_append.mp hx with h | h
  · unfold noA at h
    simp only [List.mem_cons, List.not_mem_nil, or_false] at h
    rcases h with rfl | rfl | rfl | rfl | rfl | rfl | rfl | rfl | rfl
    · exact s_np ⟨_, .non, by decide⟩ (fun _ e => by cases e) fun _ _ _ e => by cases e
    · exact s_np (any_int _) (fun _ e => by cases e) fun _ _ _ e => by cases e
    · exact s_np ⟨_, .lst _, by decide⟩ (fun _ e => by cases e) fun _ _ _ e => by cases e
    · exact s_np ⟨_, .tup _, by decide⟩ (fun _ e => by cases e; decide) fun _ _ _ e => by cases e
    · exact s_np ⟨_, .lst _, by decide⟩ (fun _ e => by cases e) fun _ _ _ e => by cases e
    · have e2 : cutD [D.int mo, .int si, strsD ns] none (some 2) = [.int mo, .int si] := rfl
      rw [e2]
      exact s_np ⟨_, .tup _, by decide⟩ (fun _ e => by cases e; show 2 ≤ 1000; decide) fun _ _ _ e => by cases e
    · exact s_np ⟨_, .tup _, by decide⟩ (fun _ e => by cases e; show 4 ≤ 1000; decide) fun _ _ _ e => by cases e
    · exact s_t3 (any_int _) (any_int _) cn (.inl rfl)
    · exact s_t3 (any_int _) (any_int _) cn (.inl rfl)
  rcases List.mem_append.mp h with h | h
  · unfold noB at h
    simp only [List.mem_cons, List.not_mem_nil, or_false] at h
    rcases h with rfl | rfl | rfl | rfl
    · exact s_t3 ⟨_, .bl _, by decide⟩ (any_int _) cn (.inl rfl)
    · exact s_t3 ⟨_, .non, by decide⟩ (any_int _) cn (.inl rfl)
    · exact s_t3 (any_str _) (any_int _) cn (.inl rfl)
    · exact s_t3 (any_int _) hb cn (.inr (.inl nb))
  rcases List.mem_append.mp h with h | h
  · unfold noC at h
    simp only [List.mem_cons, List.not_mem_nil, or_false] at h
    rcases h with rfl | rfl | rfl
    · have := col_not (ν := ν) (x := .lst (ns.map .str)) ⟨_, .lst _, by decide⟩ fun _ e => by cases e
      exact s_t3 (any_int _) (any_int _) this.1 (.inr (.inr this.2))
    · have := col_not (ν := ν) (x := .non) ⟨_, .non, by decide⟩ fun _ e => by cases e
      exact s_t3 (any_int _) (any_int _) this.1 (.inr (.inr this.2))
    · refine s_t3 (any_int _) (any_int _) ⟨⟨_, .tup _, by decide⟩, fun xs e => ?_⟩ (.inr (.inr fun cs hs => ?_))
      · cases e
        exact ⟨by decide, fun y hy => by rw [List.mem_singleton.mp hy]; exact any_str _⟩
      · show (decide ([D.str (Str.ofString "zzzzzzz")].length ≤ 6) && ([D.str (Str.ofString "zzzzzzz")].all fun y => isNameOf y cs)) = false
        rw [List.all_cons, not_name hs nn3, Bool.false_and, Bool.and_false]
  rcases List.mem_append.mp h with h | h
  · unfold noD at h
    simp only [List.mem_cons, List.not_mem_nil, or_false] at h
    rcases h with rfl | rfl | rfl
    · have := col_c5 (ν := ν) (x := .int 5) hl (any_int _) fun _ => rfl
      exact s_t3 (any_int _) (any_int _) this.1 (.inr (.inr this.2))
    · have := col_c5 (ν := ν) (x := .lst [.str "a"]) hl ⟨_, .lst _, by decide⟩ fun _ => rfl
      exact s_t3 (any_int _) (any_int _) this.1 (.inr (.inr this.2))
    · have := col_not (ν := ν) (x := .str "abc") (any_str _) fun _ e => by cases e
      exact s_t3 (any_int _) (any_int _) this.1 (.inr (.inr this.2))
  · unfold noE at h
    simp only [List.mem_cons, List.not_mem_nil, or_false] at h
    rcases h with rfl | rfl
    · have := col_c5 (ν := ν) (x := .non) hl ⟨_, .non, by decide⟩ fun _ => rfl
      exact s_t3 (any_int _) (any_int _) this.1 (.inr (.inr this.2))
    · exact s_np ⟨_, .objD e1, by decide⟩ (fun _ e => by cases e) fun _ _ _ e => by cases e
theorem rd__law_no_sight : ∀ ds μ Q, P__law_no_sight ds μ Q → td__law_no_sight { nx := fun _ μ' => GhQ Q .non μ', rt := GhQ Q } (startD N__law_no_sight ds) μ := by
  rintro ds μ Q ⟨m, dg, rest, n, cs, ⟨mo, si, ns⟩, rfl, M, hn, hcs, ⟨_, _, _, _, hl, _⟩, q⟩
  dsimp only at hl
  unfold td__law_no_sight N__law_no_sight sightD
  have lc : (c5 ns).length ≤ 6 := Nat.le_trans (c5_len ns) hl
  have small1 : (c5 ns).length + 1 ≤ sizeLine := Nat.le_trans (Nat.add_le_add_right lc 1) (by decide)
  simp only [startD, List.map_cons, List.map_nil, List.length_cons, List.length_nil, List.replicate, List.cons_append, List.nil_append, Nat.reduceAdd, Nat.reduceSub]
  refine stepT ?_
  refine Ev.at (x := .tup [.int mo, .int si, strsD ns]) (.var rfl) ?_
  refine ⟨rfl, ?_⟩
  refine stepA (callA (consA ?_))
  refine Ev.at (x := .obj m) (.var rfl) ?_
  refine ⟨m, dg, rest, n, rfl, M, hn, fun bad ν hb nb M1 K1 => ?_⟩
  refine stepA ?_
  refine Ev.at (x := .lst (noA mo si ns)) (.lst (.cons .c (.cons .c (.cons (.lst .nil) (.cons (.tup .nil) (.cons (.listOf (.var (i := 1) rfl)) (.cons (.slT (.var (i := 1) rfl)) (.cons (.addT (.var (i := 1) rfl) (.tup (.cons .c .nil)) (by show 4 ≤ sizeLine; decide)) (.cons (.tup (.cons (.neg .c) (.cons (.var (i := 3) rfl) (.cons (.var (i := 4) rfl) .nil))) z3) (.cons (.tup (.cons .c (.cons (.var (i := 3) rfl) (.cons (.var (i := 4) rfl) .nil))) z3) .nil))))))))) (by show 9 ≤ sizeLine; decide)) ?_
  refine stepA ?_
  refine Ev.at (x := .lst (noA mo si ns ++ noB mo si ns bad)) (.addL (.var (i := 6) rfl) (.lst (.cons (.tup (.cons .c (.cons (.var (i := 3) rfl) (.cons (.var (i := 4) rfl) .nil))) z3) (.cons (.tup (.cons .c (.cons (.var (i := 3) rfl) (.cons (.var (i := 4) rfl) .nil))) z3) (.cons (.tup (.cons .c (.cons (.var (i := 3) rfl) (.cons (.var (i := 4) rfl) .nil))) z3) (.cons (.tup (.cons (.var (i := 2) rfl) (.cons (.var (i := 5) rfl) (.cons (.var (i := 4) rfl) .nil))) z3) .nil)))) (by show 4 ≤ sizeLine; decide)) (by show 13 ≤ sizeLine; decide)) ?_
  refine stepA ?_
  refine Ev.at (x := .lst (noA mo si ns ++ noB mo si ns bad ++ noC mo si ns)) (.addL (.var (i := 6) rfl) (.lst (.cons (.tup (.cons (.var (i := 2) rfl) (.cons (.var (i := 3) rfl) (.cons (.listOf (.var (i := 4) rfl)) .nil))) z3) (.cons (.tup (.cons (.var (i := 2) rfl) (.cons (.var (i := 3) rfl) (.cons .c .nil))) z3) (.cons (.tup (.cons (.var (i := 2) rfl) (.cons (.var (i := 3) rfl) (.cons (.tup (.cons .c .nil)) .nil))) z3) .nil))) z3) (by show 16 ≤ sizeLine; decide)) ?_
  refine stepA ?_
  refine Ev.at (x := .lst (noA mo si ns ++ noB mo si ns bad ++ noC mo si ns ++ noD mo si ns)) (.addL (.var (i := 6) rfl) (.lst (.cons (.tup (.cons (.var (i := 2) rfl) (.cons (.var (i := 3) rfl) (.cons (.addT (.slT (.var (i := 4) rfl)) (.tup (.cons .c .nil)) small1) .nil))) z3) (.cons (.tup (.cons (.var (i := 2) rfl) (.cons (.var (i := 3) rfl) (.cons (.addT (.slT (.var (i := 4) rfl)) (.tup (.cons (.lst (.cons .c .nil)) .nil)) small1) .nil))) z3) (.cons (.tup (.cons (.var (i := 2) rfl) (.cons (.var (i := 3) rfl) (.cons .c .nil))) z3) .nil))) z3) (by show 19 ≤ sizeLine; decide)) ?_
  refine retA (opA (opA ?_))
  refine Ev.at (x := .lst (noA mo si ns ++ noB mo si ns bad ++ noC mo si ns ++ noD mo si ns)) (.var (i := 6) rfl) ?_
  refine lstA (consA ?_)
  refine Ev.at (x := .tup [.int mo, .int si, .tup (c5 ns ++ [.non])]) (.tup (.cons (.var (i := 2) rfl) (.cons (.var (i := 3) rfl) (.cons (.addT (.slT (.var (i := 4) rfl)) (.tup (.cons .c .nil)) small1) .nil))) z3) ?_
  refine consA ?_
  intro p hp
  refine ⟨by show 2 ≤ sizeLine; decide, ?_⟩
  refine ⟨noA mo si ns ++ noB mo si ns bad ++ noC mo si ns ++ noD mo si ns, noE mo si ns p, rfl, rfl, by show 21 ≤ sizeLine; decide, ?_⟩
  refine callA (consA ?_)
  refine Ev.at (x := .obj m) (.var (i := 0) rfl) ?_
  refine ⟨m, dg, rest, n + 2, 21, rfl, M1.putO (M1.neM hp) (M1.neD hp), by omega, by decide, by decide, fun r ν2 r0 r1 M2 F2 => ?_⟩
  have e1 : ν2 p = some (.dK []) := by rw [F2 p (M1.neM hp) (M1.neD hp)]; exact put_same
  obtain ⟨x, hx0, hxm, _⟩ := atI_ex (xs := noA mo si ns ++ noB mo si ns bad ++ noC mo si ns ++ noD mo si ns ++ noE mo si ns p) r0 r1
  have K2 : Kp m dg μ ν2 := K1.trans (((Kp.refl ν).putN hp).trans (Kp.of F2))
  have hm2 : x ∈ noA mo si ns ++ (noB mo si ns bad ++ (noC mo si ns ++ (noD mo si ns ++ noE mo si ns p))) := by
    simpa only [List.append_assoc] using hxm
  have s2 := (no_sights hl (hb ν2 (((Kp.refl ν).putN hp).trans (Kp.of F2))) nb e1 x hm2).2
  refine ⟨_, x, rfl, hx0, .self (q x ν2 (fun ρ hρ => ?_) s2 M2 K2)⟩
  exact (no_sights hl (hb ρ ((((Kp.refl ν).putN hp).trans (Kp.of F2)).trans hρ)) nb (hρ p _ (M1.neM hp) (M1.neD hp) e1) x hm2).1
end DL.K30
set_option Elab.async false
set_option linter.all false
set_option maxRecDepth 100000
set_option maxHeartbeats 4000001
namespace DL.K30
open PySem L2 TL PyProof.Rows DL.K20 DL.K22
local macro_rules | `(tactic| walk_at "dd") => `(tactic| try simp only [dSeq, dAsg, dgName, dgTup, dgSub, dOp, dVar, dC, dAdd, dSub, dMul, dMod, dFDiv, dPow, dCmp, dNeg, dEqn, dIsN, dIx, dTup, dLst, dConsA, dNilA, dCB, dCall, dRet, dRetN, dDrop, dIfS, dNext, dBreak, dCont, dTest, dTru, dAndT, dOrT, dNotT, dAndV, dOrV, dNotV, dIf, dChain, dDGet, dDPut, dM1, dM0, dJoin, dSplit, dUpper, dBML, dAppend, dInsert, dPopAt, dLen, dInt, dStr, dTupOf, dListOf, dMax2, dSum, dAll, dSl, dPart, dNoPart, newLst, keyD, dFor, dLc, diSeq, diRng1, diRng2, diEnum, diEnumS, diStr,
  startD, setAll, wipeD, List.map_cons, List.map_nil, List.length_cons, List.length_nil, List.replicate, List.cons_append, List.nil_append, List.getElem?_cons_zero, List.getElem?_cons_succ, List.set_cons_zero, List.set_cons_succ, Nat.reduceAdd, Nat.reduceSub, Bool.false_eq_true, if_true, if_false, ite_true, ite_false, reduceIte])
local macro_rules | `(tactic| walk_at "cm") => `(tactic| first | exact .inl ⟨by omega, by omega⟩ | exact .inr ⟨by omega, by omega⟩ | exact ⟨by omega, by omega⟩ | omega | decide)
local macro_rules | `(tactic| walk_at "dx") => `(tactic| try simp only [xSeq, xIf, xLift, xRet, xDrop, xSet, xCall, xMeth, xOp, xCB1, xOwn, dFs3, quiet, xTryKeep])
theorem rd__law_refused {cat : Addr → Option Bool} {Fleet NoKind BadPoint BadSight BadText Full BadMoment BadBoats BadMany NoFoe : Addr} (c1 : cat NoKind = some true) (c2 : cat BadPoint = some true) (c3 : cat BadSight = some true) : ∀ ds μ Q, P__law_refused Fleet ds μ Q →
    td__law_refused cat Fleet NoKind BadPoint BadSight BadText Full BadMoment BadBoats BadMany NoFoe { nx := fun _ μ' => GhQ Q .non μ', rt := GhQ Q } (startD N__law_refused ds) μ := by
  rintro ds μ Q ⟨a, f, x, y, z, rfl, ha, few, hx, hy, hz, q⟩
  unfold td__law_refused N__law_refused
  walk_at "dx"
  walk_at "dd"
  refine ⟨a, f, x, y, z, rfl, ha, few, hx, hy, hz, ?_⟩
  have q' : GhQ Q _ μ := .self q
  unfold refWord at q'
  have W : ∀ {C : Addr} {w : Str}, (C, w) ∈ Er.row ⟨BadText, NoKind, BadPoint, BadSight, Full, BadMoment, BadBoats, BadMany, NoFoe⟩ → w ∈ rw30 → GhQ Q (.str w) μ → P__law_word BadText NoKind BadPoint BadSight Full BadMoment BadBoats BadMany NoFoe [.exc C []] μ (GhQ Q) := fun h1 h2 h3 => ⟨_, [], _, rfl, h1, h2, h3⟩
  cases ek : kindIn f x with
  | none =>
    rw [ek, if_pos rfl] at q'
    dsimp only
    refine ⟨true, c1, fun _ => ?_, fun h => by cases h⟩
    walk_at "dd"
    rw [if_neg (show ¬ isNon (.exc NoKind []) = true from Bool.false_ne_true)]
    exact W (.tail _ (.head _)) (by decide +kernel) q'
  | some k =>
    rw [ek, if_neg (by simp)] at q'
    dsimp only
    by_cases e1 : isNumB y 31 = true
    · rw [if_pos e1]
      rw [if_neg (by rw [e1]; decide)] at q'
      by_cases e2 : isSightB z f.1 = true
      · rw [if_pos e2]
        rw [if_neg (by rw [e2]; decide)] at q'
        intro c m s ns _ _
        walk_at "dd"
        exact q'
      · rw [if_neg e2]
        have e2' : isSightB z f.1 = false := by simpa using e2
        rw [if_pos e2'] at q'
        refine ⟨true, c3, fun _ => ?_, fun h => by cases h⟩
        walk_at "dd"
        rw [if_neg (show ¬ isNon (.exc BadSight []) = true from Bool.false_ne_true)]
        exact W (.tail _ (.tail _ (.tail _ (.head _)))) (by decide +kernel) q'
    · rw [if_neg e1]
      have e1' : isNumB y 31 = false := by simpa using e1
      rw [if_pos e1'] at q'
      refine ⟨true, c2, fun _ => ?_, fun h => by cases h⟩
      walk_at "dd"
      rw [if_neg (show ¬ isNon (.exc BadPoint []) = true from Bool.false_ne_true)]
      exact W (.tail _ (.tail _ (.head _))) (by decide +kernel) q'
theorem cbA {r : List D → Mu → DK → Prop} {ta : TAd} {ds : DSl} {μ : Mu} {Q : DK} (h : ta ds μ fun xs μ1 => r xs μ1 Q) : dCB r ta ds μ Q := h
theorem cut_strs (vs : List Str) (lo hi : Option Int) : ∃ ys : List Str, cutD (vs.map D.str) lo hi = ys.map D.str ∧ (∀ c ∈ ys, c ∈ vs) ∧ ys.length ≤ vs.length := by
  unfold cutD
  refine ⟨(vs.drop (HT.sIx (vs.map D.str).length 0 lo)).take (HT.sIx (vs.map D.str).length (vs.map D.str).length hi - HT.sIx (vs.map D.str).length 0 lo), by rw [List.map_take, List.map_drop], fun c hc => List.mem_of_mem_drop (List.mem_of_mem_take hc), ?_⟩
  rw [List.length_take, List.length_drop]
  omega
theorem cut6 (vs : List Str) : ∃ ys : List Str, cutD (vs.map D.str) none (some 6) = ys.map D.str ∧ (∀ c ∈ ys, c ∈ vs) ∧ ys.length ≤ 6 := by
  unfold cutD
  refine ⟨(vs.drop (HT.sIx (vs.map D.str).length 0 none)).take (HT.sIx (vs.map D.str).length (vs.map D.str).length (some 6) - HT.sIx (vs.map D.str).length 0 none), by rw [List.map_take, List.map_drop], fun c hc => List.mem_of_mem_drop (List.mem_of_mem_take hc), ?_⟩
  have e : HT.sIx (vs.map D.str).length (vs.map D.str).length (some 6) ≤ 6 := by
    rw [show (6 : Int) = ((6 : Nat) : Int) from rfl, HT.sIx_nat]
    exact Nat.min_le_left _ _
  rw [List.length_take]
  omega
def bentIf : DS := (dIfS (dTest (dOp (dEqn false) (dVar 3) (dC (.int 1)))) (dAsg (dLc true (diSeq (dVar 2)) (dgName 6) (dTest (dOp (dCmp fun i j => decide (j < i)) (dCall P__law_draw (dConsA (dVar 0) (dConsA (dC (.int 3)) dNilA))) (dC (.int 0)))) (dVar 6) [6]) (dgName 2)) (dIfS (dTest (dOp (dEqn false) (dVar 3) (dC (.int 2)))) (dAsg (dOp (dAdd true) (dOp (dAdd false) (dSl false (dVar 2) dNoPart (dPart (dVar 4))) (dLst false (dConsA (dVar 5) dNilA))) (dSl false (dVar 2) (dPart (dOp (dAdd false) (dVar 4) (dC (.int 1)))) dNoPart)) (dgName 2)) (dIfS (dTest (dOp (dEqn false) (dVar 3) (dC (.int 3)))) (dAsg (dOp (dAdd true) (dOp (dAdd false) (dSl false (dVar 2) dNoPart (dPart (dVar 4))) (dSl false (dVar 2) (dPart (dVar 4)) (dPart (dOp (dAdd false) (dVar 4) (dC (.int 1)))))) (dSl false (dVar 2) (dPart (dVar 4)) dNoPart)) (dgName 2)) (dIfS (dTest (dOp (dEqn false) (dVar 3) (dC (.int 4)))) (dDrop (dBML0 dReverse (dVar 2))) (dIfS (dTest (dOp (dEqn false) (dVar 3) (dC (.int 5)))) (dDrop (dBML dInsert (dVar 2) (dConsA (dVar 4) (dConsA (dVar 5) dNilA)))) dNext)))))
theorem bent_if {m dg p : Addr} {rest : List (Key × D)} {n : Nat} {cs w : List Str} {c : Str} {way at_ : Int} {E : DEnds} {μ ν : Mu} (M : MOk m dg rest (n + 3) ν) (hn : n < 2 ^ 28) (K : Kp m dg μ ν) (hp : μ p = none) (e : ν p = some (.lst (w.map .str))) (pm : p ≠ m) (pd : p ≠ dg) (hw : w.length ≤ 6) (hin : ∀ c ∈ w, c ∈ cs) (hc : c ∈ cs) (a0 : 0 ≤ at_) (a1 : at_ < 100)
    (fin : ∀ (x : D) (vs : List Str) (y6 : Option D) (ρ : Mu), LstAt ρ x (vs.map .str) → (∀ c ∈ vs, c ∈ cs) → MOk m dg rest (n + 10) ρ → Kp m dg μ ρ → E.nx [some (.obj m), some (.tup (cs.map .str)), some x, some (.int way), some (.int at_), some (.str c), y6] ρ) :
    bentIf E [some (.obj m), some (.tup (cs.map .str)), some (.obj p), some (.int way), some (.int at_), some (.str c), none] ν := by
  unfold bentIf
  have sl : ∀ {k : Nat}, k ≤ 1000000 → k ≤ sizeLine := fun h => smallE h
  have M10 : MOk m dg rest (n + 10) ν := M.mono (by omega)
  walk_at "dd"
  by_cases z1 : way = 1
  · rw [if_pos (decide_eq_true z1)]
    refine ⟨w.map .str, e, fun j acc ρ => ∃ vs : List Str, acc = vs.map D.str ∧ vs.length ≤ j ∧ (∀ c ∈ vs, c ∈ cs) ∧ MOk m dg rest (n + 3 + j) ρ ∧ Kp m dg μ ρ ∧ ρ p = some (.lst (w.map .str)), ⟨[], rfl, Nat.le_refl _, fun _ h => (nomatch h), M, K, e⟩, fun j acc ρ _ h => ?_, fun j d acc ρ hd hJ => ?_, fun acc ρ hJ => ?_⟩
    · obtain ⟨_, _, _, _, _, _, h⟩ := h
      exact h
    · obtain ⟨vs, rfl, hl, hv, Mj, Kj, ej⟩ := hJ
      obtain ⟨x, hx, rfl⟩ := map_get hd
      have hj : j < w.length := (List.getElem?_eq_some_iff.mp hx).1
      refine ⟨small (by rw [List.length_map]; omega), ?_⟩
      walk_at "dd"
      refine ⟨m, dg, rest, n + 3 + j, 3, rfl, Mj, by omega, by decide, by decide, fun r ρ2 r0 r1 M2 F2 => ?_⟩
      walk_at "dd"
      have e2 : ρ2 p = some (.lst (w.map .str)) := (F2 p pm pd).trans ej
      have K2 : Kp m dg μ ρ2 := Kj.trans (Kp.of F2)
      by_cases z : 0 < r
      · rw [if_pos (decide_eq_true z)]
        refine ⟨vs ++ [x], by rw [List.map_append]; rfl, by rw [List.length_append]; exact Nat.succ_le_succ hl, fun c hc => ?_, M2.mono (by omega), K2, e2⟩
        rcases List.mem_append.mp hc with h | h
        · exact hv c h
        · rw [List.mem_singleton.mp h]; exact hin x (List.mem_of_getElem? hx)
      · rw [if_neg (by simpa using z)]
        exact ⟨vs, rfl, by omega, hv, M2.mono (by omega), K2, e2⟩
    · obtain ⟨vs, rfl, hl, hv, Mj, Kj, ej⟩ := hJ
      rw [List.length_map] at Mj
      intro p2 hp2
      exact fin (.obj p2) vs _ _ put_same hv ((Mj.mono (by omega)).putO (Mj.neM hp2) (Mj.neD hp2)) (Kj.putN hp2)
  rw [if_neg (by simpa using z1)]
  by_cases z2 : way = 2
  · rw [if_pos (decide_eq_true z2)]
    obtain ⟨y1, g1, h1, l1⟩ := cut_strs w none (some at_)
    obtain ⟨y2, g2, h2, l2⟩ := cut_strs w (some (at_ + 1)) none
    refine ⟨w.map .str, e, by decide, ?_⟩
    rw [g1]
    refine ⟨y1.map .str, [.str c], rfl, rfl, ?_, ?_⟩
    · rw [List.length_map]; exact sl (by show y1.length + 1 ≤ 1000000; omega)
    refine ⟨w.map .str, e, ?_⟩
    rw [g2]
    refine ⟨y1.map D.str ++ [D.str c], y2.map D.str, rfl, rfl, ?_, fun p2 hp2 => ?_⟩
    · rw [List.length_append, List.length_map, List.length_map]; exact sl (by show y1.length + 1 + y2.length ≤ 1000000; omega)
    have e3 : y1.map D.str ++ [.str c] ++ y2.map .str = (y1 ++ [c] ++ y2).map D.str := by simp
    rw [e3]
    refine fin (.obj p2) (y1 ++ [c] ++ y2) _ _ put_same (fun x hx => ?_) (M10.putO (M.neM hp2) (M.neD hp2)) (K.putN hp2)
    rcases List.mem_append.mp hx with h | h
    · rcases List.mem_append.mp h with h | h
      · exact hin x (h1 x h)
      · rw [List.mem_singleton.mp h]; exact hc
    · exact hin x (h2 x h)
  rw [if_neg (by simpa using z2)]
  by_cases z3 : way = 3
  · rw [if_pos (decide_eq_true z3)]
    obtain ⟨y1, g1, h1, l1⟩ := cut_strs w none (some at_)
    obtain ⟨y2, g2, h2, l2⟩ := cut_strs w (some at_) (some (at_ + 1))
    obtain ⟨y3, g3, h3, l3⟩ := cut_strs w (some at_) none
    refine ⟨w.map .str, e, w.map .str, e, ?_⟩
    rw [g1, g2]
    refine ⟨y1.map .str, y2.map .str, rfl, rfl, ?_, ?_⟩
    · rw [List.length_map, List.length_map]; exact sl (by omega)
    refine ⟨w.map .str, e, ?_⟩
    rw [g3]
    refine ⟨y1.map D.str ++ y2.map D.str, y3.map D.str, rfl, rfl, ?_, fun p2 hp2 => ?_⟩
    · rw [List.length_append, List.length_map, List.length_map, List.length_map]; exact sl (by omega)
    have e3 : y1.map D.str ++ y2.map .str ++ y3.map .str = (y1 ++ y2 ++ y3).map D.str := by simp
    rw [e3]
    refine fin (.obj p2) (y1 ++ y2 ++ y3) _ _ put_same (fun x hx => ?_) (M10.putO (M.neM hp2) (M.neD hp2)) (K.putN hp2)
    rcases List.mem_append.mp hx with h | h
    · rcases List.mem_append.mp h with h | h
      · exact hin x (h1 x h)
      · exact hin x (h2 x h)
    · exact hin x (h3 x h)
  rw [if_neg (by simpa using z3)]
  by_cases z4 : way = 4
  · rw [if_pos (decide_eq_true z4)]
    refine ⟨⟨_, e⟩, _, e, ?_⟩
    rw [← List.map_reverse]
    exact fin (.obj p) w.reverse _ _ put_same (fun x hx => hin x (List.mem_reverse.mp hx)) (M10.putO pm pd) (K.putO hp)
  rw [if_neg (by simpa using z4)]
  by_cases z5 : way = 5
  · rw [if_pos (decide_eq_true z5)]
    refine ⟨⟨_, e⟩, _, e, small (by rw [List.length_map]; omega), a0, by omega, ?_⟩
    have e3 : (w.map D.str).take at_.toNat ++ [.str c] ++ (w.map D.str).drop at_.toNat = (w.take at_.toNat ++ [c] ++ w.drop at_.toNat).map D.str := by simp
    rw [e3]
    refine fin (.obj p) _ _ _ put_same (fun x hx => ?_) (M10.putO pm pd) (K.putO hp)
    rcases List.mem_append.mp hx with h | h
    · rcases List.mem_append.mp h with h | h
      · exact hin x (List.mem_of_mem_take h)
      · rw [List.mem_singleton.mp h]; exact hc
    · exact hin x (List.mem_of_mem_drop h)
  rw [if_neg (by simpa using z5)]
  exact fin (.obj p) w _ _ e hin M10 K
theorem rd__law_bent : ∀ ds μ Q, P__law_bent ds μ Q → td__law_bent { nx := fun _ μ' => GhQ Q .non μ', rt := GhQ Q } (startD N__law_bent ds) μ := by
  rintro ds μ Q ⟨m, dg, rest, n, cs, w, rfl, M, hn, c1, c6, hw, hin, q⟩
  unfold td__law_bent N__law_bent strsD
  simp only [startD, List.map_cons, List.map_nil, List.length_cons, List.length_nil, List.replicate, List.cons_append, List.nil_append, Nat.reduceAdd, Nat.reduceSub]
  refine stepA ?_
  refine ⟨_, rfl, fun p hp => ?_⟩
  have pm := M.neM hp
  have pd := M.neD hp
  refine stepA (callA (consA ?_))
  refine Ev.at (x := .obj m) (.var (i := 0) rfl) (consA ?_)
  refine ⟨m, dg, rest, n, 6, rfl, M.putO pm pd, by omega, by decide, by decide, fun way μ1 w0 w1 M1 F1 => ?_⟩
  have e1 : μ1 p = some (.lst (w.map .str)) := (F1 p pm pd).trans put_same
  refine stepA (callA (consA ?_))
  refine Ev.at (x := .obj m) (.var (i := 0) rfl) (consA (opA (cbA (consA ?_))))
  refine Ev.at (x := .obj p) (.var (i := 2) rfl) ?_
  refine ⟨w.map .str, e1, ?_⟩
  rw [List.length_map]
  refine ⟨m, dg, rest, n + 1, _, rfl, M1, by omega, by omega, by omega, fun at_ μ2 a0 a1 M2 F2 => ?_⟩
  have e2 : μ2 p = some (.lst (w.map .str)) := (F2 p pm pd).trans e1
  refine stepA (opA ?_)
  refine Ev.at (x := .tup (cs.map .str)) (.var (i := 1) rfl) (callA (consA ?_))
  refine Ev.at (x := .obj m) (.var (i := 0) rfl) (consA (cbA (consA ?_)))
  refine Ev.at (x := .tup (cs.map .str)) (.var (i := 1) rfl) ?_
  refine ⟨cs.map .str, rfl, ?_⟩
  rw [List.length_map]
  refine ⟨m, dg, rest, n + 2, _, rfl, M2, by omega, by omega, by omega, fun r μ3 r0 r1 M3 F3 => ?_⟩
  have e3 : μ3 p = some (.lst (w.map .str)) := (F3 p pm pd).trans e2
  have K3 : Kp m dg μ μ3 := ((Kp.refl μ).putN hp).trans (((Kp.of F1).trans (Kp.of F2)).trans (Kp.of F3))
  obtain ⟨c, hc0, hcm, hcg⟩ := atI_ex (xs := cs) r0 r1
  refine ⟨cs.map .str, .str c, rfl, atI_some r0 (by rw [List.getElem?_map, hcg]; rfl), ?_⟩
  refine bent_if M3 hn K3 hp e3 pm pd hw hin hcm a0 (by omega) fun x vs y6 ρ hx hv Mv Kv => ?_
  obtain ⟨ys, ey, hy, ly⟩ := cut6 vs
  have qq : GhQ Q (.tup (ys.map .str)) ρ := .self (q ys ρ ly (fun c hc => hv c (hy c hc)) Mv Kv)
  dsimp only
  refine retA (cbA (consA ?_))
  cases x with
  | lst xs =>
    have hx : xs = vs.map .str := hx
    subst hx
    refine ⟨_, rfl, _, rfl, ?_⟩
    rw [ey]
    exact qq
  | obj a =>
    refine ⟨_, hx, _, rfl, ?_⟩
    rw [ey]
    exact qq
  | _ => exact hx.elim
end DL.K30
set_option Elab.async false
set_option linter.all false
set_option maxRecDepth 100000
set_option maxHeartbeats 4000001
namespace DL.K21
open PySem L2 TL PyProof.Rows DL.K20
open DL.K30 (strsD)
/-! ## sectors: promises -/
def rw21 : List Str := ["kind"]
abbrev P__law_word (BadText NoKind BadPoint BadSight Full BadMoment BadBoats BadMany NoFoe : Addr) : DP := P_lw rw21 BadText NoKind BadPoint BadSight Full BadMoment BadBoats BadMany NoFoe
/-- a row of thirty-two columns, c by the bearing -/
def rowD (c : Nat → List Str) : D := .lst ((List.range 32).map fun s => strsD (c s))
def begins (c : Nat → List Str) : List Nat := (List.range 32).filter fun b => decide (c b ≠ c ((b + 31) % 32))
def turnedL : List Nat → List Nat
  | 0 :: r => 0 :: r
  | xs => xs.drop (xs.length - 1) ++ xs.take (xs.length - 1)
def nexts (xs : List Nat) : List Nat := xs.drop 1 ++ xs.take 1
def secOf (c : Nat → List Str) (a b : Nat) : D := .tup [.int a, .int (((b : Int) - 1) % 32), strsD (c a)]
def secs (c : Nat → List Str) : List D := if begins c = [] then [.tup [.int 0, .int 31, strsD (c 0)]] else List.zipWith (secOf c) (turnedL (begins c)) (nexts (turnedL (begins c)))
def colN (ls : List Lamp) (s : Nat) : List Str := colOf ls (s : Int)
def P_looks_of_boat (Fleet NoKind : Addr) : DPX := fun ds μ Q E => ∃ a f x, ds = [.obj a, .tup [x, .int 0]] ∧ FleetAt Fleet a f μ ∧ Few f ∧ Any μ x ∧ match kindIn f x with
  | some k => Q (rowD (colN k.2.2)) μ
  | none => E NoKind [] μ
/-- columns whose names may be compared -/
def AscC (c : Nat → List Str) : Prop := ∀ s, ∀ n ∈ c s, Asc n
def P_sectors (Fleet NoKind : Addr) : DPX := fun ds μ Q E => ∃ a f x, ds = [.obj a, x] ∧ FleetAt Fleet a f μ ∧ Few f ∧ Any μ x ∧ match kindIn f x with
  | some k => AscC (colN k.2.2) ∧ ∀ p, μ p = none → Q (.obj p) (put μ p (.lst (secs (colN k.2.2))))
  | none => E NoKind [] μ
def P__law_sectors : DP := fun ds μ Q => ∃ cs ls, ds = [.tup (ls.map lampD)] ∧ (∀ l ∈ ls, GoodLamp cs l) ∧ ls.length ≤ 1000 ∧ AscC (colN ls) ∧ Q (.lst (secs (colN ls))) μ
abbrev Trip := Int × Int × D
def tripD (p : Trip) : D := .tup [.int p.1, .int p.2.1, p.2.2]
def P__law_is_whole : DP := fun ds μ Q => ∃ (x : D) (ps : List Trip), ds = [x] ∧ LstAt μ x (ps.map tripD) ∧ ps.length ≤ 40 ∧ (ps.map fun p : Trip => (p.2.1 - p.1) % 32 + 1).sum = 32 ∧ (ps.map fun p : Trip => (p.2.1 + 1) % 32) = (ps.drop 1 ++ ps.take 1).map (·.1) ∧ Q (.bl true) μ
def P_law (T : List (Addr × Str)) : DP := fun ds μ Q => ∃ ns : List Int, ds = [.scr (ns.map .int)] ∧ ns.length ≤ 63 ∧ TabsAre T μ ∧ Q (.bl true) μ
theorem begins_lt {c : Nat → List Str} {b : Nat} (h : b ∈ begins c) : b < 32 := List.mem_range.mp (List.mem_filter.mp h).1
theorem begins_asc (c : Nat → List Str) : (begins c).Pairwise (· < ·) := List.Pairwise.filter _ List.pairwise_lt_range
theorem begins_len (c : Nat → List Str) : (begins c).length ≤ 32 := by
  have := List.length_filter_le (fun b => decide (c b ≠ c ((b + 31) % 32))) (List.range 32)
  rw [List.length_range] at this
  exact this
end DL.K21
set_option Elab.async false
set_option linter.all false
set_option maxRecDepth 100000
set_option maxHeartbeats 4000001
namespace DL.K21
open PySem L2 K20
def td_looks_of_boat (Fleet : Addr) (NoKind : Addr) (BadPoint : Addr) : DSX :=
  (xSeq (xLift (dAsg (dVar 1) (dgTup [2, 3])))
    (xRet (dLcX false (diRng1 (dConsA (dC (.int 32)) dNilA)) (dgName 4) dYes (xCall (P_seen Fleet NoKind BadPoint) (dConsA (dVar 0) (dConsA (dVar 2) (dConsA (dVar 3) (dConsA (dVar 4) dNilA))))) [4])))
def td_sectors (Fleet : Addr) (NoKind : Addr) : DSX :=
  (xSeq (xSet 2 (xCall (P_looks_of_boat Fleet NoKind) (dConsA (dVar 0) (dConsA (dTup (dConsA (dVar 1) (dConsA (dC (.int 0)) dNilA))) dNilA))))
    (xSeq (xLift (dAsg (dLc false (diRng1 (dConsA (dC (.int 32)) dNilA)) (dgName 4) (dTest (dOp (dEqn true) (dOp dIx (dVar 2) (dVar 4)) (dOp dIx (dVar 2) (dOp dSub (dVar 4) (dC (.int 1)))))) (dVar 4) [4]) (dgName 3)))
    (xSeq (xIf (dNotT (dTru (dVar 3))) (xLift (dRet (dLst true (dConsA (dTup (dConsA (dC (.int 0)) (dConsA (dC (.int 31)) (dConsA (dOp dIx (dVar 2) (dC (.int 0))) dNilA)))) dNilA)))) (xLift dNext))
    (xSeq (xIf (dTest (dOp (dCmp fun i j => decide (j < i)) (dOp dIx (dVar 3) (dC (.int 0))) (dC (.int 0)))) (xLift (dAsg (dOp (dAdd false) (dSl false (dVar 3) (dPart (dNeg (dC (.int 1)))) dNoPart) (dSl false (dVar 3) dNoPart (dPart (dNeg (dC (.int 1)))))) (dgName 3))) (xLift dNext))
    (xSeq (xLift (dAsg (dOp (dAdd false) (dSl false (dVar 3) (dPart (dC (.int 1))) dNoPart) (dSl false (dVar 3) dNoPart (dPart (dC (.int 1))))) (dgName 5)))
    (xLift (dRet (dLc true (diZip (dConsA (dVar 3) (dConsA (dVar 5) dNilA))) (dgTup [6, 7]) dYes (dTup (dConsA (dVar 6) (dConsA (dOp dMod (dOp dSub (dVar 7) (dC (.int 1))) (dC (.int 32))) (dConsA (dOp dIx (dVar 2) (dVar 6)) dNilA)))) [6, 7]))))))))
def td__law_lost_ret (BadText : Addr) (NoKind : Addr) (BadPoint : Addr) (BadSight : Addr) (Full : Addr) (BadMoment : Addr) (BadBoats : Addr) (BadMany : Addr) (NoFoe : Addr) : DS :=
  (dRet (dIf (dTest (dOp (dIsN false) (dVar 1) (dC .non))) (dC (.str "")) (dCall (P__law_word BadText NoKind BadPoint BadSight Full BadMoment BadBoats BadMany NoFoe) (dConsA (dVar 1) dNilA))))
def td__law_sectors  : DS :=
  (dSeq (dAsg (dLc false (diRng1 (dConsA (dC (.int 32)) dNilA)) (dgName 2) dYes (dCall P__law_shown (dConsA (dVar 0) (dConsA (dVar 2) dNilA))) [2]) (dgName 1))
    (dSeq (dAsg (dLc false (diRng1 (dConsA (dC (.int 32)) dNilA)) (dgName 2) (dTest (dOp (dEqn true) (dOp dIx (dVar 1) (dVar 2)) (dOp dIx (dVar 1) (dOp dSub (dVar 2) (dC (.int 1)))))) (dVar 2) [2]) (dgName 3))
    (dSeq (dIfS (dTest (dOp (dEqn false) (dVar 3) (dLst false dNilA))) (dRet (dLst false (dConsA (dTup (dConsA (dC (.int 0)) (dConsA (dC (.int 31)) (dConsA (dOp dIx (dVar 1) (dC (.int 0))) dNilA)))) dNilA))) dNext)
    (dSeq (dIfS (dTest (dOp (dEqn true) (dOp dIx (dVar 3) (dC (.int 0))) (dC (.int 0)))) (dAsg (dOp (dAdd false) (dSl false (dVar 3) (dPart (dNeg (dC (.int 1)))) dNoPart) (dSl false (dVar 3) dNoPart (dPart (dNeg (dC (.int 1)))))) (dgName 3)) dNext)
    (dSeq (dAsg (dLst true dNilA) (dgName 4))
    (dSeq (dFor (diZip (dConsA (dVar 3) (dConsA (dOp (dAdd false) (dSl false (dVar 3) (dPart (dC (.int 1))) dNoPart) (dSl false (dVar 3) dNoPart (dPart (dC (.int 1))))) dNilA))) (dgTup [5, 6]) (dDrop (dBML dAppend (dVar 4) (dConsA (dTup (dConsA (dVar 5) (dConsA (dOp dMod (dOp dSub (dVar 6) (dC (.int 1))) (dC (.int 32))) (dConsA (dOp dIx (dVar 1) (dVar 5)) dNilA)))) dNilA))))
    (dRet (dVar 4))))))))
def td__law_is_whole  : DS :=
  (dSeq (dAsg (dCB dSum (dConsA (dLc false (diSeq (dVar 0)) (dgTup [2, 3, 4]) dYes (dOp (dAdd false) (dOp dMod (dOp dSub (dVar 3) (dVar 2)) (dC (.int 32))) (dC (.int 1))) [2, 3, 4]) dNilA)) (dgName 1))
    (dSeq (dAsg (dLc false (diSeq (dVar 0)) (dgName 6) dYes (dOp dMod (dOp (dAdd false) (dOp dIx (dVar 6) (dC (.int 1))) (dC (.int 1))) (dC (.int 32))) [6]) (dgName 5))
    (dRet (dAndV (dOp (dEqn false) (dVar 1) (dC (.int 32))) (dOp (dEqn false) (dVar 5) (dLc false (diSeq (dOp (dAdd false) (dSl false (dVar 0) (dPart (dC (.int 1))) dNoPart) (dSl false (dVar 0) dNoPart (dPart (dC (.int 1)))))) (dgName 6) dYes (dOp dIx (dVar 6) (dC (.int 0))) [6]))))))
def td_law (isa : Value → Value → Option Bool) (cat : Addr → Option Bool) (Fleet : Addr) (NoKind : Addr) (BadText : Addr) (BadPoint : Addr) (BadSight : Addr) (Full : Addr) (BadMoment : Addr) (BadBoats : Addr) (BadMany : Addr) (NoFoe : Addr) (T : List (Addr × Str)) : DS :=
  (dSeq (dAsg (dCall P__law_begun (dConsA (dVar 0) dNilA)) (dgName 1))
    (dSeq (dAsg (dCall P__law_fleet (dConsA (dVar 1) dNilA)) (dgName 2))
    (dSeq (dAsg (dMake Fleet (P_Fleet___init__ Fleet) (dConsA (dVar 2) dNilA)) (dgName 3))
    (dSeq (dFor (diRng1 (dConsA (dC (.int 2)) dNilA)) (dgName 4) (dFor (diSeq (dOp dIx (dVar 2) (dC (.int 1)))) (dgTup [5, 6, 7]) (dSeq (dAsg (dCall (quiet (P_sectors Fleet NoKind)) (dConsA (dVar 3) (dConsA (dVar 5) dNilA))) (dgName 8))
    (dSeq (dIfS (dOrT (dNotT (dTru (dCB (dIsi isa) (dConsA (dVar 8) (dConsA (dC (.ty "list")) dNilA))))) (dTest (dOp (dEqn true) (dCB dRepr (dConsA (dVar 8) dNilA)) (dCB dRepr (dConsA (dCall P__law_sectors (dConsA (dVar 7) dNilA)) dNilA))))) (dRet (dC (.bl false))) dNext)
    (dSeq (dIfS (dNotT (dTru (dCall P__law_is_whole (dConsA (dVar 8) dNilA)))) (dRet (dC (.bl false))) dNext)
    (dDrop (dBML dAppend (dVar 8) (dConsA (dC .non) dNilA))))))))
    (dSeq (dAsg (dOp dIx (dOp dIx (dOp dIx (dVar 2) (dC (.int 1))) (dC (.int 0))) (dC (.int 0))) (dgName 5))
    (dSeq (dFor (diRng1 (dConsA (dC (.int 2)) dNilA)) (dgName 4) (dSeq (dAsg (dOp dIx (dLst false (dConsA (dC (.str "")) (dConsA (dC (.str "zzzzzzz")) (dConsA (dOp (dAdd false) (dVar 5) (dC (.str "x"))) (dConsA (dC .non) (dConsA (dC (.int 5)) (dConsA (dLst false (dConsA (dVar 5) dNilA)) (dConsA (dTup (dConsA (dVar 5) dNilA)) (dConsA (dC (.bl true)) (dConsA dDNew dNilA)))))))))) (dCall P__law_draw (dConsA (dVar 1) (dConsA (dC (.int 9)) dNilA)))) (dgName 9))
    (dIfS (dTest (dOp (dEqn true) (dLost T cat (xCall (P_sectors Fleet NoKind) (dConsA (dVar 3) (dConsA (dVar 9) dNilA))) (td__law_lost_ret BadText NoKind BadPoint BadSight Full BadMoment BadBoats BadMany NoFoe)) (dC (.str "kind")))) (dRet (dC (.bl false))) dNext)))
    (dRet (dOp (dEqn false) (dCB dRepr (dConsA (dMeth Fleet "plain" (P_Fleet_plain Fleet) (dVar 3) dNilA) dNilA)) (dCB dRepr (dConsA (dVar 2) dNilA))))))))))

abbrev N_is_number : List Str := ["value", "most"]
abbrev N_is_point : List Str := ["value"]
abbrev N_is_name_of : List Str := ["value", "names"]
abbrev N_check_point : List Str := ["value", "called"]
abbrev N_shows : List Str := ["first", "last", "bearing"]
abbrev N_colours_at : List Str := ["lamps", "bearing", "colour", "first", "last"]
abbrev N_kind_row : List Str := ["row", "kind", "turn", "lamps", "lamp"]
abbrev N_Fleet___init__ : List Str := ["self", "plain", "colours", "kinds", "row"]
abbrev N_Fleet_plain : List Str := ["self"]
abbrev N_Fleet_kinds : List Str := ["self", "row"]
abbrev N_Fleet__row : List Str := ["self", "kind", "kinds"]
abbrev N_Fleet_lamps : List Str := ["self", "kind"]
abbrev N_seen : List Str := ["fleet", "kind", "course", "side", "lamps"]
abbrev N_looks_of_boat : List Str := ["fleet", "boat", "kind", "course", "side"]
abbrev N_sectors : List Str := ["fleet", "kind", "looks", "firsts", "bearing", "nexts", "first", "after"]
abbrev N__law_mixed : List Str := ["_law_cell", "_law_k", "_law_number"]
abbrev N__law_folded : List Str := ["_law_script", "_law_found", "_law_k", "_law_cell"]
abbrev N__law_draw : List Str := ["_law_m", "_law_many", "_law_k", "_law_at", "_law_cell"]
abbrev N__law_names : List Str := ["_law_cell", "_law_many", "_law_letters", "_law_k", "_law_size", "_law_at", "_law_row", "_law_j", "_law_found", "_law_sign", "_law_bars", "_law_name"]
abbrev N__law_lamp : List Str := ["_law_m", "_law_colours", "_law_first", "_law_wide"]
abbrev N__law_lamps : List Str := ["_law_m", "_law_colours", "_law_rows", "_law_k", "_law_lamps_here", "_law_at", "_law_way", "_law_colour", "_law_first", "_law_last"]
abbrev N__law_fleet : List Str := ["_law_m", "_law_great", "_law_colours", "_law_rows", "_law_name", "_law_turn"]
abbrev N__law_begun : List Str := ["_law_script", "_law_m", "_law_seeds", "_law_k"]
abbrev N__law_word : List Str := ["_law_e", "_law_some", "_law_found", "_law_word_here", "_law_is_it"]
abbrev N__law_lost : List Str := ["_law_deed", "_law_caught", "_law_e"]
abbrev N__law_points : List Str := ["_law_first", "_law_last", "_law_found"]
abbrev N__law_shown : List Str := ["_law_lamps_here", "_law_bearing", "_law_colour", "_law_first", "_law_last"]
abbrev N__law_sectors : List Str := ["_law_lamps_here", "_law_columns", "_law_bearing", "_law_begins", "_law_found", "_law_begin", "_law_behind"]
abbrev N__law_is_whole : List Str := ["_law_told", "_law_many", "_law_first", "_law_last", "_law_colours", "_law_behind", "_law_row"]
abbrev N_law : List Str := ["_law_script", "_law_m", "_law_plain", "_law_fleet_here", "_law_turn", "_law_kind", "_law_turns", "_law_lamps_here", "_law_found", "_law_strange"]
end DL.K21
set_option Elab.async false
set_option linter.all false
set_option maxRecDepth 100000
set_option maxHeartbeats 4000001
namespace DL.K21
open PySem L2 TL PyProof.Rows DL.K20
open DL.K30 (strsD Ev EvA stepA stepT retA opA lstA consA callA cbA eq_strsT z3)
local macro_rules | `(tactic| walk_at "dd") => `(tactic| try simp only [dSeq, dAsg, dgName, dgTup, dgSub, dOp, dVar, dC, dAdd, dSub, dMul, dMod, dFDiv, dPow, dCmp, dNeg, dEqn, dIsN, dIx, dTup, dLst, dConsA, dNilA, dCB, dCall, dRet, dRetN, dDrop, dIfS, dNext, dBreak, dCont, dTest, dTru, dAndT, dOrT, dNotT, dAndV, dOrV, dNotV, dIf, dChain, dDGet, dDPut, dM1, dM0, dJoin, dSplit, dUpper, dBML, dAppend, dInsert, dPopAt, dLen, dInt, dStr, dTupOf, dListOf, dMax2, dSum, dAll, dSl, dPart, dNoPart, newLst, keyD, dFor, dLc, diSeq, diRng1, diRng2, diEnum, diEnumS, diStr,
  startD, setAll, wipeD, List.map_cons, List.map_nil, List.length_cons, List.length_nil, List.replicate, List.cons_append, List.nil_append, List.getElem?_cons_zero, List.getElem?_cons_succ, List.set_cons_zero, List.set_cons_succ, Nat.reduceAdd, Nat.reduceSub, Bool.false_eq_true, if_true, if_false, ite_true, ite_false, reduceIte])
local macro_rules | `(tactic| walk_at "cm") => `(tactic| first | exact .inl ⟨by omega, by omega⟩ | exact .inr ⟨by omega, by omega⟩ | exact ⟨by omega, by omega⟩ | omega | decide)
local macro_rules | `(tactic| walk_at "dx") => `(tactic| try simp only [xSeq, xIf, xLift, xRet, xDrop, xSet, xCall, xMeth, xOp, xCB1, xOwn, dFs3, quiet, dLcX, xBlk])
theorem rd_looks_of_boat {Fleet NoKind BadPoint : Addr} : ∀ ds μ Q E, P_looks_of_boat Fleet NoKind ds μ Q E → td_looks_of_boat Fleet NoKind BadPoint (fun C fs _ μ' => GhE E C fs μ') { nx := fun _ μ' => GhQ Q .non μ', rt := GhQ Q } (startD N_looks_of_boat ds) μ := by
  rintro ds μ Q E ⟨a, f, x, rfl, ha, few, hx, q⟩
  unfold td_looks_of_boat N_looks_of_boat
  walk_at "dx"
  walk_at "dd"
  refine ⟨trivial, ⟨by decide, by decide⟩, ?_⟩
  cases ek : kindIn f x with
  | some k =>
    rw [ek] at q
    refine LcB.pure (fun d => match d with
      | .int s => strsD (colN k.2.2 s.toNat)
      | _ => .non) trivial (by decide) (fun j d Qd hd y => ?_) ?_
    · obtain ⟨hj, rfl⟩ := rngD_get hd
      walk_at "dd"
      refine ⟨a, f, _, _, _, rfl, ha, few, hx, any_int _, any_int _, ?_⟩
      rw [ek]
      dsimp only
      rw [if_pos (num_ok ⟨by decide, by decide⟩), if_pos (num_ok ⟨by omega, by omega⟩)]
      intro c' s hc' hs
      cases hc'
      cases hs
      have e : (0 + (j : Int) - 0) % 32 = (((0 + (j : Int)).toNat : Nat) : Int) := by omega
      rw [e]
      exact y
    · refine newLst_f ?_
      refine .self ?_
      have e : (rngD 0 32).map (fun d => match d with
          | .int s => strsD (colN k.2.2 s.toNat)
          | _ => .non) = (List.range 32).map fun s => strsD (colN k.2.2 s) := by
        unfold rngD
        rw [List.map_map]
        refine List.map_congr_left fun s _ => ?_
        show strsD (colN k.2.2 (0 + ((s : Nat) : Int)).toNat) = _
        congr 2
        omega
      rw [show Int.toNat 32 = 32 from rfl, e]
      exact q
  | none =>
    rw [ek] at q
    refine ⟨fun i acc ν => i = 0 ∧ acc = [] ∧ ν = μ, ⟨rfl, rfl, rfl⟩, fun _ _ _ _ _ => trivial, fun i d acc ν hd hI => ?_, fun acc ν hI => ?_⟩
    · obtain ⟨rfl, rfl, rfl⟩ := hI
      obtain ⟨hj, rfl⟩ := rngD_get hd
      refine ⟨by decide, ?_⟩
      walk_at "dd"
      refine ⟨a, f, _, _, _, rfl, ha, few, hx, any_int _, any_int _, ?_⟩
      rw [ek]
      exact ⟨ν, fun _ _ h => h, q⟩
    · obtain ⟨h, _⟩ := hI
      rw [rngD_len] at h
      exact absurd h (by decide)
/-- the column ahead of it, round about -/
theorem atI_row {c : Nat → List Str} {b : Nat} (h : b < 32) : atI ((List.range 32).map fun s => strsD (c s)) ((b : Nat) : Int) = some (strsD (c b)) := by
  refine atI_some (by omega) ?_
  rw [Int.toNat_natCast, List.getElem?_map, List.getElem?_range h]
  rfl
theorem atI_back {c : Nat → List Str} {b : Nat} (h : b < 32) : atI ((List.range 32).map fun s => strsD (c s)) (((b : Nat) : Int) - 1) = some (strsD (c ((b + 31) % 32))) := by
  by_cases e : b = 0
  · subst e
    have := atI_last ((List.range 31).map fun s => strsD (c s)) (strsD (c 31))
    have e2 : (List.range 32).map (fun s => strsD (c s)) = (List.range 31).map (fun s => strsD (c s)) ++ [strsD (c 31)] := by
      rw [show (32 : Nat) = 31 + 1 from rfl, List.range_succ, List.map_append]; rfl
    rw [e2]
    exact this
  · have e2 : (b + 31) % 32 = b - 1 := by omega
    rw [e2, show ((b : Nat) : Int) - 1 = ((b - 1 : Nat) : Int) by omega]
    exact atI_row (by omega)
def beginsD (c : Nat → List Str) : D := .lst ((begins c).map fun b => .int (b : Nat))
def natD : D → D := fun d => d
/-- the comprehension of the bearings at which a sector begins -/
theorem begins_lc {c : Nat → List Str} (ac : AscC c) {i j : Nat} {vs : List Nat} {ds : DSl} {μ : Mu} {Q : DK} (hij : i ≠ j) (hi : ∀ d, ((wipeD ds vs).set j (some d))[i]? = some (some (rowD c))) (hj : ∀ d, ((wipeD ds vs).set j (some d))[j]? = some (some d)) (q : Q (beginsD c) μ) :
    LcB false (rngD 0 32) (fun _ => True) (dgName j) (dTest (dOp (dEqn true) (dOp dIx (dVar i) (dVar j)) (dOp dIx (dVar i) (dOp dSub (dVar j) (dC (.int 1)))))) (dVar j) vs ds μ Q := by
  refine LcB.filtG (fun d => match d with
    | .int b => decide (c b.toNat ≠ c ((b.toNat + 31) % 32))
    | _ => false) id trivial (by decide) (fun k d Y N hd hy hn => ?_) ?_
  · obtain ⟨hk, rfl⟩ := rngD_get hd
    have e0 : (0 + (k : Int)) = ((k : Nat) : Int) := by omega
    rw [e0] at hy hn ⊢
    have vI : dVar i ((wipeD ds vs).set j (some (.int ((k : Nat) : Int)))) = fun μ Q => Q (rowD c) μ := by
      funext μ Q; unfold dVar; rw [hi]
    have vJ : dVar j ((wipeD ds vs).set j (some (.int ((k : Nat) : Int)))) = fun μ Q => Q (.int ((k : Nat) : Int)) μ := by
      funext μ Q; unfold dVar; rw [hj]
    unfold dgName dTest dOp
    simp only [vI, vJ]
    refine ⟨_, _, rfl, atI_row hk, ?_⟩
    unfold dC dSub
    dsimp only
    refine ⟨_, _, rfl, atI_back hk, ?_⟩
    refine eq_strsT (ac _) (ac _) ?_
    dsimp only
    rw [if_pos rfl]
    simp only [Int.toNat_natCast] at hy hn
    by_cases e : c k = c ((k + 31) % 32)
    · rw [decide_eq_true e, Bool.not_true, if_neg Bool.false_ne_true]
      exact hn (by simp [e])
    · rw [decide_eq_false e, Bool.not_false, if_pos rfl]
      exact hy (by simp [e])
  · refine newLst_f ?_
    have e : ((rngD 0 32).filter (fun d => match d with
        | .int b => decide (c b.toNat ≠ c ((b.toNat + 31) % 32))
        | _ => false)).map id = (begins c).map fun b => D.int (b : Nat) := by
      rw [List.map_id]
      unfold rngD begins
      rw [List.filter_map]
      have : ((fun d => match d with
        | .int b => decide (c b.toNat ≠ c ((b.toNat + 31) % 32))
        | _ => false) ∘ fun i : Nat => D.int (0 + (i : Int))) = fun b : Nat => decide (c b ≠ c ((b + 31) % 32)) := by
        funext b
        show decide (c (0 + ((b : Nat) : Int)).toNat ≠ c (((0 + ((b : Nat) : Int)).toNat + 31) % 32)) = _
        rw [show (0 + ((b : Nat) : Int)).toNat = b by omega]
      rw [this]
      refine List.map_congr_left fun b _ => ?_
      show D.int (0 + ((b : Nat) : Int)) = D.int ((b : Nat) : Int)
      rw [Int.zero_add]
    rw [e]
    exact q
/-! cuts of rows of numbers -/
def natsD (xs : List Nat) : List D := xs.map fun b => D.int (b : Nat)
theorem natsD_len (xs : List Nat) : (natsD xs).length = xs.length := by unfold natsD; rw [List.length_map]
theorem cut_last (xs : List D) : cutD xs (some (-1)) none = xs.drop (xs.length - 1) := by
  unfold cutD
  have e : HT.sIx xs.length 0 (some (-1)) = xs.length - 1 := by
    show (if (-1 : Int) < 0 then ((-1 : Int) + (xs.length : Int)).toNat else min (-1 : Int).toNat xs.length) = _
    rw [if_pos (by decide)]
    omega
  rw [e, HT.sIx_none, List.take_of_length_le (by rw [List.length_drop]; omega)]
theorem cut_init (xs : List D) : cutD xs none (some (-1)) = xs.take (xs.length - 1) := by
  unfold cutD
  have e : HT.sIx xs.length xs.length (some (-1)) = xs.length - 1 := by
    show (if (-1 : Int) < 0 then ((-1 : Int) + (xs.length : Int)).toNat else min (-1 : Int).toNat xs.length) = _
    rw [if_pos (by decide)]
    omega
  rw [e, HT.sIx_none, Nat.sub_zero]
  rfl
theorem cut_tail (xs : List D) : cutD xs (some 1) none = xs.drop 1 := by
  unfold cutD
  rw [show (1 : Int) = ((1 : Nat) : Int) from rfl, HT.sIx_nat, HT.sIx_none, List.take_of_length_le (by rw [List.length_drop]; omega)]
  by_cases h : 1 ≤ xs.length
  · rw [Nat.min_eq_left h]
  · have : xs = [] := List.length_eq_zero_iff.mp (by omega)
    subst this; rfl
theorem cut_head (xs : List D) : cutD xs none (some 1) = xs.take 1 := by
  unfold cutD
  rw [show (1 : Int) = ((1 : Nat) : Int) from rfl, HT.sIx_nat, HT.sIx_none, Nat.sub_zero]
  show (xs.drop 0).take _ = _
  rw [List.drop_zero]
  by_cases h : 1 ≤ xs.length
  · rw [Nat.min_eq_left h]
  · have : xs = [] := List.length_eq_zero_iff.mp (by omega)
    subst this; rfl
theorem nexts_D (xs : List Nat) : (natsD xs).drop 1 ++ (natsD xs).take 1 = natsD (nexts xs) := by unfold natsD nexts; rw [List.map_append, List.map_drop, List.map_take]
theorem back_D (xs : List Nat) : (natsD xs).drop ((natsD xs).length - 1) ++ (natsD xs).take ((natsD xs).length - 1) = natsD (xs.drop (xs.length - 1) ++ xs.take (xs.length - 1)) := by
  rw [natsD_len]
  unfold natsD
  rw [List.map_append, List.map_drop, List.map_take]
end DL.K21
set_option Elab.async false
set_option linter.all false
set_option maxRecDepth 100000
set_option maxHeartbeats 4000001
namespace DL.K21
open PySem L2 TL PyProof.Rows DL.K20
open DL.K30 (strsD Ev EvA stepA stepT retA opA lstA consA callA cbA eq_strsT z3)
local macro_rules | `(tactic| walk_at "dd") => `(tactic| try simp only [dSeq, dAsg, dgName, dgTup, dgSub, dOp, dVar, dC, dAdd, dSub, dMul, dMod, dFDiv, dPow, dCmp, dNeg, dEqn, dIsN, dIx, dTup, dLst, dConsA, dNilA, dCB, dCall, dRet, dRetN, dDrop, dIfS, dNext, dBreak, dCont, dTest, dTru, dAndT, dOrT, dNotT, dAndV, dOrV, dNotV, dIf, dChain, dDGet, dDPut, dM1, dM0, dJoin, dSplit, dUpper, dBML, dAppend, dInsert, dPopAt, dLen, dInt, dStr, dTupOf, dListOf, dMax2, dSum, dAll, dSl, dPart, dNoPart, newLst, keyD, dFor, dLc, diSeq, diRng1, diRng2, diEnum, diEnumS, diStr,
  startD, setAll, wipeD, List.map_cons, List.map_nil, List.length_cons, List.length_nil, List.replicate, List.cons_append, List.nil_append, List.getElem?_cons_zero, List.getElem?_cons_succ, List.set_cons_zero, List.set_cons_succ, Nat.reduceAdd, Nat.reduceSub, Bool.false_eq_true, if_true, if_false, ite_true, ite_false, reduceIte])
local macro_rules | `(tactic| walk_at "cm") => `(tactic| first | exact .inl ⟨by omega, by omega⟩ | exact .inr ⟨by omega, by omega⟩ | exact ⟨by omega, by omega⟩ | omega | decide)
theorem truD_lst {xs : List D} {μ : Mu} : truD μ (.lst xs) = some (!xs.isEmpty) := rfl
theorem turned_ne {b : Nat} {r : List Nat} (h : b ≠ 0) : turnedL (b :: r) = (b :: r).drop ((b :: r).length - 1) ++ (b :: r).take ((b :: r).length - 1) := by
  cases b with
  | zero => exact absurd rfl h
  | succ b => rfl
theorem turned_len (xs : List Nat) : (turnedL xs).length = xs.length := by
  unfold turnedL
  split
  · rfl
  · rw [List.length_append, List.length_drop, List.length_take]; omega
theorem turned_mem {xs : List Nat} {b : Nat} (h : b ∈ turnedL xs) : b ∈ xs := by
  unfold turnedL at h
  split at h
  · exact h
  · rcases List.mem_append.mp h with h | h
    · exact List.mem_of_mem_drop h
    · exact List.mem_of_mem_take h
theorem nexts_len (xs : List Nat) : (nexts xs).length = xs.length := by
  unfold nexts
  rw [List.length_append, List.length_drop, List.length_take]
  omega
theorem nexts_mem {xs : List Nat} {b : Nat} (h : b ∈ nexts xs) : b ∈ xs := by
  unfold nexts at h
  rcases List.mem_append.mp h with h | h
  · exact List.mem_of_mem_drop h
  · exact List.mem_of_mem_take h
/-- the sectors, from the pairs of beginnings -/
theorem zip_secs {c : Nat → List Str} {xs ys : List Nat} : (zipD (natsD xs) (natsD ys)).map (fun d => match d with
    | .tup [.int a, .int b] => secOf c a.toNat b.toNat
    | _ => .non) = List.zipWith (secOf c) xs ys := by
  unfold zipD natsD
  rw [List.zipWith_map, List.map_zipWith]
  rfl
theorem ifNot {te : TD} {t u tb : DS} {E : DEnds} {ds : DSl} {μ : Mu} (h : te ds μ fun x μ1 => lenOk x ∧ match truD μ1 x with
    | some b => if (!b) = true then t { E with nx := tb E } ds μ1 else u { E with nx := tb E } ds μ1
    | none => False) : dSeq (dIfS (dNotT (dTru te)) t u) tb E ds μ := by
  unfold dSeq dIfS dNotT dTru
  exact h
theorem ifT {te : TD} {t u tb : DS} {E : DEnds} {ds : DSl} {μ : Mu} (h : te ds μ fun x μ1 => match x with
    | .bl b => if b = true then t { E with nx := tb E } ds μ1 else u { E with nx := tb E } ds μ1
    | _ => False) : dSeq (dIfS (dTest te) t u) tb E ds μ := h
theorem Ev.ix {te tf : TD} {ds : DSl} {xs : List D} {i : Int} {d : D} (h : Ev te ds (.lst xs)) (h2 : Ev tf ds (.int i)) (e : atI xs i = some d) : Ev (dOp dIx te tf) ds d := fun μ Q q => h μ _ (h2 μ _ ⟨xs, d, rfl, e, q⟩)
theorem Ev.tailL {te : TD} {ds : DSl} {xs : List D} (h : Ev te ds (.lst xs)) : Ev (dSl false te (dPart (dC (.int 1))) dNoPart) ds (.lst (xs.drop 1)) := fun μ Q q => h μ _ ⟨xs, rfl, by rw [cut_tail]; exact q⟩
theorem Ev.headL {te : TD} {ds : DSl} {xs : List D} (h : Ev te ds (.lst xs)) : Ev (dSl false te dNoPart (dPart (dC (.int 1)))) ds (.lst (xs.take 1)) := fun μ Q q => h μ _ ⟨xs, rfl, by rw [cut_head]; exact q⟩
theorem Ev.lastL {te : TD} {ds : DSl} {xs : List D} (h : Ev te ds (.lst xs)) : Ev (dSl false te (dPart (dNeg (dC (.int 1)))) dNoPart) ds (.lst (xs.drop (xs.length - 1))) := fun μ Q q => h μ _ ⟨xs, rfl, by rw [cut_last]; exact q⟩
theorem Ev.initL {te : TD} {ds : DSl} {xs : List D} (h : Ev te ds (.lst xs)) : Ev (dSl false te dNoPart (dPart (dNeg (dC (.int 1))))) ds (.lst (xs.take (xs.length - 1))) := fun μ Q q => h μ _ ⟨xs, rfl, by rw [cut_init]; exact q⟩
theorem Ev.nexts {te : TD} {ds : DSl} {xs : List Nat} (h : Ev te ds (.lst (natsD xs))) (l : xs.length ≤ 32) : Ev (dOp (dAdd false) (dSl false te (dPart (dC (.int 1))) dNoPart) (dSl false te dNoPart (dPart (dC (.int 1))))) ds (.lst (natsD (nexts xs))) := fun μ Q q => by
  refine Ev.addL (Ev.tailL h) (Ev.headL h) ?_ μ Q ?_
  · rw [List.length_drop, List.length_take, natsD_len]; exact smallE (by omega)
  · rw [nexts_D]; exact q
theorem Ev.back {te : TD} {ds : DSl} {xs : List Nat} (h : Ev te ds (.lst (natsD xs))) (l : xs.length ≤ 32) : Ev (dOp (dAdd false) (dSl false te (dPart (dNeg (dC (.int 1)))) dNoPart) (dSl false te dNoPart (dPart (dNeg (dC (.int 1)))))) ds (.lst (natsD (xs.drop (xs.length - 1) ++ xs.take (xs.length - 1)))) := fun μ Q q => by
  refine Ev.addL (Ev.lastL h) (Ev.initL h) ?_ μ Q ?_
  · rw [List.length_drop, List.length_take, natsD_len]; exact smallE (by omega)
  · rw [back_D]; exact q
theorem lcZipA {m : Bool} {ta : TAd} {g : DG} {tt : TTd} {te : TD} {vs : List Nat} {ds : DSl} {μ : Mu} {Q : DK} (h : ta ds μ fun us μ1 => match us with
    | [x, y] => ∃ xs ys, LstAt μ1 x xs ∧ LstAt μ1 y ys ∧ LcB m (zipD xs ys) (fun ν => keepOf x xs ν ∧ keepOf y ys ν) g tt te vs ds μ1 Q
    | _ => False) : dLc m (diZip ta) g tt te vs ds μ Q := h
theorem Ev.backPt {te : TD} {ds : DSl} {i : Int} (h : Ev te ds (.int i)) : Ev (dOp dMod (dOp dSub te (dC (.int 1))) (dC (.int 32))) ds (.int ((i - 1) % 32)) := fun μ Q q => h μ _ ⟨by decide, q⟩
def secTail : DS := (dSeq (dAsg (dOp (dAdd false) (dSl false (dVar 3) (dPart (dC (.int 1))) dNoPart) (dSl false (dVar 3) dNoPart (dPart (dC (.int 1))))) (dgName 5))
    (dRet (dLc true (diZip (dConsA (dVar 3) (dConsA (dVar 5) dNilA))) (dgTup [6, 7]) dYes (dTup (dConsA (dVar 6) (dConsA (dOp dMod (dOp dSub (dVar 7) (dC (.int 1))) (dC (.int 32))) (dConsA (dOp dIx (dVar 2) (dVar 6)) dNilA)))) [6, 7])))
theorem tail_ok {c : Nat → List Str} {t : List Nat} {E : DEnds} {μ : Mu} {x0 x1 x4 : Option D} (l : t.length ≤ 32) (hl : ∀ b ∈ t, b < 32) (q : ∀ p, μ p = none → E.rt (.obj p) (put μ p (.lst (List.zipWith (secOf c) t (nexts t))))) :
    secTail E [x0, x1, some (rowD c), some (.lst (natsD t)), x4, none, none, none] μ := by
  unfold secTail
  refine stepA ?_
  refine Ev.at (x := .lst (natsD (nexts t))) (Ev.nexts (.var (i := 3) rfl) l) ?_
  refine retA (lcZipA (consA ?_))
  refine Ev.at (x := .lst (natsD t)) (.var (i := 3) rfl) (consA ?_)
  refine Ev.at (x := .lst (natsD (nexts t))) (.var (i := 5) rfl) ?_
  refine ⟨natsD t, natsD (nexts t), rfl, rfl, ?_⟩
  refine LcB.filtG (fun _ => true) (fun d => match d with
    | .tup [.int a, .int b] => secOf c a.toNat b.toNat
    | _ => .non) ⟨trivial, trivial⟩ (by rw [zipD_len, natsD_len]; omega) (fun j d Y N hd hy hn => ?_) ?_
  · obtain ⟨x, y, h1, h2, rfl⟩ := zipD_get hd
    obtain ⟨a, ha, rfl⟩ := map_get h1
    obtain ⟨b, hb, rfl⟩ := map_get h2
    have la := hl a (List.mem_of_getElem? ha)
    have y' := hy rfl
    dsimp only at y'
    rw [Int.toNat_natCast, Int.toNat_natCast] at y'
    refine ⟨rfl, ?_⟩
    have ev : Ev (dTup (dConsA (dVar 6) (dConsA (dOp dMod (dOp dSub (dVar 7) (dC (.int 1))) (dC (.int 32))) (dConsA (dOp dIx (dVar 2) (dVar 6)) dNilA)))) [x0, x1, some (rowD c), some (.lst (natsD t)), x4, some (.lst (natsD (nexts t))), some (.int (a : Nat)), some (.int (b : Nat))] (secOf c a b) :=
      .tup (.cons (.var (i := 6) rfl) (.cons (Ev.backPt (.var (i := 7) rfl)) (.cons (Ev.ix (.var (i := 2) rfl) (.var (i := 6) rfl) (atI_row la)) .nil))) z3
    exact ev _ _ y'
  · intro p hp
    have e : ((zipD (natsD t) (natsD (nexts t))).filter fun _ => true) = zipD (natsD t) (natsD (nexts t)) := by simp
    rw [e, zip_secs]
    exact q p hp
theorem rd_sectors {Fleet NoKind : Addr} : ∀ ds μ Q E, P_sectors Fleet NoKind ds μ Q E → td_sectors Fleet NoKind (fun C fs _ μ' => GhE E C fs μ') { nx := fun _ μ' => GhQ Q .non μ', rt := GhQ Q } (startD N_sectors ds) μ := by
  rintro ds μ Q E ⟨a, f, x, rfl, ha, few, hx, q⟩
  unfold td_sectors N_sectors
  simp only [startD, List.map_cons, List.map_nil, List.length_cons, List.length_nil, List.replicate, List.cons_append, List.nil_append, Nat.reduceAdd, Nat.reduceSub]
  unfold xSeq xSet xCall
  refine stepA (consA ?_)
  refine Ev.at (x := .obj a) (.var (i := 0) rfl) (consA ?_)
  refine Ev.at (x := .tup [x, .int 0]) (.tup (.cons (.var (i := 1) rfl) (.cons .c .nil)) (by show 2 ≤ sizeLine; decide)) ?_
  refine ⟨a, f, x, rfl, ha, few, hx, ?_⟩
  cases ek : kindIn f x with
  | none => rw [ek] at q; exact ⟨μ, (fun _ _ h => h), q⟩
  | some k =>
    rw [ek] at q
    obtain ⟨ac, q⟩ := q
    dsimp only
    generalize colN k.2.2 = c at ac q ⊢
    unfold xLift xIf
    refine stepA ?_
    refine ⟨⟨by decide, by decide⟩, ?_⟩
    refine begins_lc ac (by decide) (fun d => rfl) (fun d => rfl) ?_
    have hlen := begins_len c
    have hlt : ∀ b ∈ begins c, b < 32 := fun b h => begins_lt h
    have q2 : ∀ p, μ p = none → GhQ Q (.obj p) (put μ p (.lst (secs c))) := fun p hp => .self (q p hp)
    unfold secs at q2
    refine ifNot ?_
    refine Ev.at (x := beginsD c) (.var (i := 3) rfl) ⟨trivial, ?_⟩
    unfold beginsD
    rw [truD_lst]
    cases eb : begins c with
    | nil =>
      rw [eb, if_pos rfl] at q2
      show if (!(!true)) = true then _ else _
      rw [if_pos (by decide)]
      refine retA ?_
      refine lstA (consA ?_)
      refine Ev.at (x := .tup [.int 0, .int 31, strsD (c 0)]) (.tup (.cons .c (.cons .c (.cons (Ev.ix (.var (i := 2) rfl) .c (atI_row (c := c) (b := 0) (by decide))) .nil))) z3) ?_
      exact ⟨by show 1 ≤ sizeLine; decide, q2⟩
    | cons b0 r =>
      rw [eb, if_neg (by simp)] at q2
      rw [eb] at hlen hlt
      show if (!(!false)) = true then _ else _
      rw [if_neg (by decide)]
      dsimp only [dNext]
      refine ifT (opA ?_)
      have e0 : atI (natsD (b0 :: r)) 0 = some (.int ((b0 : Nat) : Int)) := atI_some (by decide) rfl
      refine Ev.at (Ev.ix (xs := natsD (b0 :: r)) (.var (i := 3) rfl) .c e0) ?_
      show if decide ((0 : Int) < ((b0 : Nat) : Int)) = true then _ else _
      by_cases z : b0 = 0
      · subst z
        rw [if_neg (by decide)]
        exact tail_ok (t := 0 :: r) hlen hlt q2
      · rw [if_pos (decide_eq_true (by omega))]
        rw [turned_ne z] at q2
        refine (show ∀ {te : TD} {i : Nat} {E : DEnds} {ds : DSl} {μ : Mu}, (te ds μ fun x μ1 => E.nx (ds.set i (some x)) μ1) → dAsg te (dgName i) E ds μ from fun h => h) ?_
        refine Ev.at (x := .lst (natsD ((b0 :: r).drop ((b0 :: r).length - 1) ++ (b0 :: r).take ((b0 :: r).length - 1)))) (Ev.back (.var (i := 3) rfl) hlen) ?_
        refine tail_ok ?_ (fun b hb => ?_) q2
        · rw [List.length_append, List.length_drop, List.length_take]; omega
        · rcases List.mem_append.mp hb with h | h
          · exact hlt b (List.mem_of_mem_drop h)
          · exact hlt b (List.mem_of_mem_take h)
end DL.K21
set_option Elab.async false
set_option linter.all false
set_option maxRecDepth 100000
set_option maxHeartbeats 4000001
namespace DL.K21
open PySem L2 TL PyProof.Rows DL.K20
open DL.K30 (strsD Ev EvA stepA stepT retA opA lstA consA callA cbA eq_strsT z3)
local macro_rules | `(tactic| walk_at "dd") => `(tactic| try simp only [dSeq, dAsg, dgName, dgTup, dgSub, dOp, dVar, dC, dAdd, dSub, dMul, dMod, dFDiv, dPow, dCmp, dNeg, dEqn, dIsN, dIx, dTup, dLst, dConsA, dNilA, dCB, dCall, dRet, dRetN, dDrop, dIfS, dNext, dBreak, dCont, dTest, dTru, dAndT, dOrT, dNotT, dAndV, dOrV, dNotV, dIf, dChain, dDGet, dDPut, dM1, dM0, dJoin, dSplit, dUpper, dBML, dAppend, dInsert, dPopAt, dLen, dInt, dStr, dTupOf, dListOf, dMax2, dSum, dAll, dSl, dPart, dNoPart, newLst, keyD, dFor, dLc, diSeq, diRng1, diRng2, diEnum, diEnumS, diStr,
  startD, setAll, wipeD, List.map_cons, List.map_nil, List.length_cons, List.length_nil, List.replicate, List.cons_append, List.nil_append, List.getElem?_cons_zero, List.getElem?_cons_succ, List.set_cons_zero, List.set_cons_succ, Nat.reduceAdd, Nat.reduceSub, Bool.false_eq_true, if_true, if_false, ite_true, ite_false, reduceIte])
local macro_rules | `(tactic| walk_at "cm") => `(tactic| first | exact .inl ⟨by omega, by omega⟩ | exact .inr ⟨by omega, by omega⟩ | exact ⟨by omega, by omega⟩ | omega | decide)
/-! the sectors fill the round -/
def secP (c : Nat → List Str) : List Trip := if begins c = [] then [(0, 31, strsD (c 0))] else List.zipWith (fun a b : Nat => ((a : Int), ((b : Int) - 1) % 32, strsD (c a))) (turnedL (begins c)) (nexts (turnedL (begins c)))
theorem secs_trip (c : Nat → List Str) : secs c = (secP c).map tripD := by
  unfold secs secP
  split
  · rfl
  · rw [List.map_zipWith]; rfl
def gap (a b : Nat) : Int := (((b : Int) - 1) % 32 - a) % 32 + 1
def csum (f : Nat) : List Nat → Int
  | [] => 0
  | [a] => gap a f
  | a :: b :: r => gap a b + csum f (b :: r)
theorem csum_zip (f : Nat) : ∀ (a : Nat) (r : List Nat), (List.zipWith gap (a :: r) (r ++ [f])).sum = csum f (a :: r)
  | a, [] => by simp [csum]
  | a, b :: r => by
    have := csum_zip f b r
    show (gap a b :: List.zipWith gap (b :: r) (r ++ [f])).sum = gap a b + csum f (b :: r)
    rw [List.sum_cons, this]
theorem gap_up {a b : Nat} (h : a < b) (hb : b < 32) : gap a b = (b : Int) - a := by unfold gap; omega
theorem gap_wrap {a b : Nat} (h : b ≤ a) (ha : a < 32) : gap a b = (b : Int) - a + 32 := by unfold gap; omega
def lastN : Nat → List Nat → Nat
  | a, [] => a
  | _, b :: r => lastN b r
theorem csum_asc (f : Nat) : ∀ (a : Nat) (r : List Nat), (a :: r).Pairwise (· < ·) → (∀ b ∈ a :: r, b < 32) → csum f (a :: r) = (lastN a r : Int) - a + gap (lastN a r) f
  | a, [], _, _ => by simp [csum, lastN]
  | a, b :: r, h, hl => by
    have h2 := List.pairwise_cons.mp h
    have ih := csum_asc f b r h2.2 fun x hx => hl x (List.mem_cons_of_mem _ hx)
    have g := gap_up (h2.1 b List.mem_cons_self) (hl b (by simp))
    show gap a b + csum f (b :: r) = _
    rw [ih, g]
    show _ = (lastN b r : Int) - a + gap (lastN b r) f
    omega
theorem lastN_mem : ∀ (a : Nat) (r : List Nat), lastN a r ∈ a :: r
  | a, [] => by simp [lastN]
  | a, b :: r => List.mem_cons_of_mem _ (lastN_mem b r)
theorem round_sum {xs : List Nat} (hne : xs ≠ []) (asc : xs.Pairwise (· < ·)) (hl : ∀ b ∈ xs, b < 32) : (List.zipWith gap (turnedL xs) (nexts (turnedL xs))).sum = 32 := by
  cases xs with
  | nil => exact absurd rfl hne
  | cons b r =>
    by_cases z : b = 0
    · subst z
      show (List.zipWith gap (0 :: r) (r ++ [0])).sum = 32
      rw [csum_zip, csum_asc 0 0 r asc hl, gap_wrap (Nat.zero_le _) (hl _ (lastN_mem 0 r))]
      omega
    · rw [turned_ne z]
      obtain ⟨ini, l, e⟩ : ∃ ini l, b :: r = ini ++ [l] := ⟨(b :: r).dropLast, (b :: r).getLast (by simp), (List.dropLast_concat_getLast (by simp)).symm⟩
      rw [e] at asc hl ⊢
      have e1 : (ini ++ [l]).drop ((ini ++ [l]).length - 1) = [l] := by simp
      have e2 : (ini ++ [l]).take ((ini ++ [l]).length - 1) = ini := by simp
      rw [e1, e2]
      show (List.zipWith gap (l :: ini) (ini ++ [l])).sum = 32
      have ll : l < 32 := hl l (by simp)
      cases ini with
      | nil => rw [csum_zip]; show gap l l = 32; rw [gap_wrap (Nat.le_refl _) ll]; omega
      | cons a r' =>
        rw [csum_zip]
        have pa := List.pairwise_append.mp asc
        have big : ∀ x ∈ a :: r', x < l := fun x hx => pa.2.2 x hx l (by simp)
        have hl' : ∀ x ∈ a :: r', x < 32 := fun x hx => hl x (List.mem_append_left _ hx)
        show gap l a + csum l (a :: r') = 32
        rw [csum_asc l a r' pa.1 hl', gap_wrap (Nat.le_of_lt (big a (by simp))) ll, gap_up (big _ (lastN_mem a r')) ll]
        omega
theorem zipL {β : Type} (g : Nat → β) : ∀ (t n : List Nat), t.length = n.length → List.zipWith (fun a _ => g a) t n = t.map g
  | [], [], _ => rfl
  | a :: t, b :: n, h => by rw [List.zipWith_cons_cons, List.map_cons, zipL g t n (by simpa using h)]
theorem zipR {β : Type} (g : Nat → β) : ∀ (t n : List Nat), t.length = n.length → List.zipWith (fun _ b => g b) t n = n.map g
  | [], [], _ => rfl
  | a :: t, b :: n, h => by rw [List.zipWith_cons_cons, List.map_cons, zipR g t n (by simpa using h)]
theorem sec_sum (c : Nat → List Str) : ((secP c).map fun p : Trip => (p.2.1 - p.1) % 32 + 1).sum = 32 := by
  unfold secP
  split
  · rfl
  · rename_i h
    rw [List.map_zipWith]
    exact round_sum h (begins_asc c) fun b hb => begins_lt hb
theorem sec_len (c : Nat → List Str) : (secP c).length ≤ 32 := by
  unfold secP
  split
  · show 1 ≤ 32; decide
  · rw [List.length_zipWith, turned_len]
    have := begins_len c
    omega
theorem sec_next (c : Nat → List Str) : ((secP c).map fun p : Trip => (p.2.1 + 1) % 32) = ((secP c).drop 1 ++ (secP c).take 1).map (·.1) := by
  unfold secP
  split
  · rfl
  · generalize ht : turnedL (begins c) = t
    have lt : ∀ b ∈ t, b < 32 := fun b hb => begins_lt (turned_mem (ht ▸ hb))
    have ln : t.length = (nexts t).length := (nexts_len t).symm
    have e1 : (List.zipWith (fun a b : Nat => (((a : Int), ((b : Int) - 1) % 32, strsD (c a)) : Trip)) t (nexts t)).map (fun p : Trip => (p.2.1 + 1) % 32) = (nexts t).map fun b : Nat => (b : Int) := by
      rw [List.map_zipWith]
      show List.zipWith (fun _ b : Nat => (((b : Int) - 1) % 32 + 1) % 32) t (nexts t) = _
      rw [zipR (fun b : Nat => (((b : Int) - 1) % 32 + 1) % 32) t (nexts t) ln]
      refine List.map_congr_left fun b hb => ?_
      have := lt b (nexts_mem hb)
      omega
    have e2 : (List.zipWith (fun a b : Nat => (((a : Int), ((b : Int) - 1) % 32, strsD (c a)) : Trip)) t (nexts t)).map (·.1) = t.map fun b : Nat => (b : Int) := by
      rw [List.map_zipWith]
      exact zipL (fun a : Nat => (a : Int)) t (nexts t) ln
    rw [e1, List.map_append, List.map_drop, List.map_take, e2]
    unfold nexts
    rw [List.map_append, List.map_drop, List.map_take]
theorem natsD_ints (xs : List Nat) : natsD xs = (xs.map fun b : Nat => (b : Int)).map D.int := by unfold natsD; rw [List.map_map]; rfl
theorem Ev.add1 {te : TD} {ds : DSl} {i : Int} (h : Ev te ds (.int i)) : Ev (dOp (dAdd false) te (dC (.int 1))) ds (.int (i + 1)) := fun μ Q q => h μ _ q
theorem eq_ints {xs ys : List Int} {μ : Mu} {Q : DK} (e : xs = ys) (q : Q (.bl true) μ) : dEqn false (.lst (xs.map .int)) (.lst (ys.map .int)) μ Q := by
  subst e
  refine ⟨.list (xs.map .int), .list (xs.map .int), ?_, ?_, shaped_ints _, shaped_ints _, ?_⟩
  · show pd (.lst _) = _
    rw [pd, pdL_ints]; rfl
  · show pd (.lst _) = _
    rw [pd, pdL_ints]; rfl
  · rw [SeqAt.eqv_refl _ (by rw [PyData.canLay0, lay_ints])]
    exact q
theorem andE {ta tb : TD} {ds : DSl} {μ : Mu} {Q : DK} (h : Ev ta ds (.bl true)) (q : tb ds μ Q) : dAndV ta tb ds μ Q := h μ _ q
theorem Ev.eqI {te : TD} {ds : DSl} {i : Int} (h : Ev te ds (.int i)) : Ev (dOp (dEqn false) te (dC (.int i))) ds (.bl true) := fun μ Q q => h μ _ (by
  show Q (.bl (decide (i = i))) μ
  rw [decide_eq_true rfl]
  exact q)
theorem lcSeqA {m : Bool} {te tel : TD} {g : DG} {tt : TTd} {vs : List Nat} {ds : DSl} {μ : Mu} {Q : DK} (h : te ds μ fun x μ1 => ∃ xs, SeqD μ1 x xs ∧ LcB m xs (keepOf x xs) g tt tel vs ds μ1 Q) : dLc m (diSeq te) g tt tel vs ds μ Q := h
theorem slTail {i : Nat} {x : D} {xs : List D} {ds : DSl} {μ : Mu} {Q : DK} (hv : ds[i]? = some (some x)) (hx : LstAt μ x xs) (q : Q (.lst (xs.drop 1)) μ) : dSl false (dVar i) (dPart (dC (.int 1))) dNoPart ds μ Q := by
  rw [← cut_tail] at q
  refine Ev.at (te := dVar i) (.var hv) ?_
  cases x with
  | lst zs => have hx : zs = xs := hx; subst hx; exact ⟨_, rfl, q⟩
  | obj a => exact ⟨_, hx, q⟩
  | _ => exact hx.elim
theorem slHead {i : Nat} {x : D} {xs : List D} {ds : DSl} {μ : Mu} {Q : DK} (hv : ds[i]? = some (some x)) (hx : LstAt μ x xs) (q : Q (.lst (xs.take 1)) μ) : dSl false (dVar i) dNoPart (dPart (dC (.int 1))) ds μ Q := by
  rw [← cut_head] at q
  refine Ev.at (te := dVar i) (.var hv) ?_
  cases x with
  | lst zs => have hx : zs = xs := hx; subst hx; exact ⟨_, rfl, q⟩
  | obj a => exact ⟨_, hx, q⟩
  | _ => exact hx.elim
theorem rd__law_is_whole : ∀ ds μ Q, P__law_is_whole ds μ Q → td__law_is_whole { nx := fun _ μ' => GhQ Q .non μ', rt := GhQ Q } (startD N__law_is_whole ds) μ := by
  rintro ds μ Q ⟨x, ps, rfl, hx, hl, h1, h2, q⟩
  have hs : SeqD μ x (ps.map tripD) := by
    cases x <;> first | exact hx | exact hx.elim
  unfold td__law_is_whole N__law_is_whole
  simp only [startD, List.map_cons, List.map_nil, List.length_cons, List.length_nil, List.replicate, List.cons_append, List.nil_append, Nat.reduceAdd, Nat.reduceSub]
  refine stepA (cbA (consA (lcSeqA ?_)))
  refine Ev.at (x := x) (.var (i := 0) rfl) ?_
  refine ⟨ps.map tripD, hs, ?_⟩
  refine LcB.filtG (fun _ => true) (fun d => match d with
    | .tup [.int a, .int b, _] => .int ((b - a) % 32 + 1)
    | _ => .non) (keep_seq hs) (by rw [List.length_map]; omega) (fun j d Y N hd hy hn => ?_) ?_
  · obtain ⟨p, hp, rfl⟩ := map_get hd
    have ev : Ev (dOp (dAdd false) (dOp dMod (dOp dSub (dVar 3) (dVar 2)) (dC (.int 32))) (dC (.int 1))) [some x, none, some (.int p.1), some (.int p.2.1), some p.2.2, none, none] (.int ((p.2.1 - p.1) % 32 + 1)) := fun μ Q q => ⟨by decide, q⟩
    exact ⟨rfl, ev _ _ (hy rfl)⟩
  · refine newLst_f ?_
    refine ⟨ps.map fun p : Trip => (p.2.1 - p.1) % 32 + 1, ?_, ?_⟩
    · show List.map _ (List.filter _ (ps.map tripD)) = _
      rw [List.filter_eq_self.mpr (fun _ _ => rfl), List.map_map, List.map_map]
      rfl
    rw [h1]
    refine stepA (lcSeqA ?_)
    refine Ev.at (x := x) (.var (i := 0) rfl) ?_
    refine ⟨ps.map tripD, hs, ?_⟩
    refine LcB.pure (fun d => match d with
      | .tup [_, .int b, _] => .int ((b + 1) % 32)
      | _ => .non) (keep_seq hs) (by rw [List.length_map]; omega) (fun j d Qd hd y => ?_) ?_
    · obtain ⟨p, hp, rfl⟩ := map_get hd
      refine opA (opA (opA ?_))
      refine Ev.at (x := tripD p) (.var rfl) ?_
      refine ⟨_, .int p.2.1, rfl, rfl, ?_⟩
      exact ⟨by decide, y⟩
    · refine newLst_f ?_
      refine retA ?_
      refine andE (Ev.eqI (.var (i := 1) rfl)) ?_
      refine opA ?_
      have e5 : ((ps.map tripD).map fun d => match d with
        | .tup [_, .int b, _] => D.int ((b + 1) % 32)
        | _ => .non) = (ps.map fun p : Trip => (p.2.1 + 1) % 32).map .int := by rw [List.map_map, List.map_map]; rfl
      rw [e5]
      refine Ev.at (x := .lst ((ps.map fun p : Trip => (p.2.1 + 1) % 32).map .int)) (.var (i := 5) rfl) ?_
      refine lcSeqA (opA ?_)
      refine slTail (x := x) rfl hx ?_
      refine slHead (x := x) rfl hx ?_
      refine ⟨_, _, rfl, rfl, ?_, ?_⟩
      · rw [List.length_drop, List.length_take, List.length_map]; exact smallE (by omega)
      refine ⟨_, rfl, ?_⟩
      have e6 : (ps.map tripD).drop 1 ++ (ps.map tripD).take 1 = (ps.drop 1 ++ ps.take 1).map tripD := by rw [List.map_append, List.map_drop, List.map_take]
      rw [e6]
      refine LcB.pure (fun d => match d with
        | .tup [.int a, _, _] => .int a
        | _ => .non) trivial (by rw [List.length_map, List.length_append, List.length_drop, List.length_take]; omega) (fun j d Qd hd y => ?_) ?_
      · obtain ⟨p, hp, rfl⟩ := map_get hd
        refine opA ?_
        refine Ev.at (x := tripD p) (.var rfl) ?_
        exact ⟨_, .int p.1, rfl, rfl, y⟩
      · refine newLst_f ?_
        have e7 : (((ps.drop 1 ++ ps.take 1).map tripD).map fun d => match d with
          | .tup [.int a, _, _] => D.int a
          | _ => .non) = ((ps.drop 1 ++ ps.take 1).map (·.1)).map .int := by rw [List.map_map, List.map_map]; rfl
        rw [e7]
        exact eq_ints h2 (.self q)
end DL.K21
set_option Elab.async false
set_option linter.all false
set_option maxRecDepth 100000
set_option maxHeartbeats 4000001
namespace DL.K21
open PySem L2 TL PyProof.Rows DL.K20
open DL.K30 (strsD Ev EvA stepA stepT retA opA lstA consA callA cbA eq_strsT z3)
local macro_rules | `(tactic| walk_at "dd") => `(tactic| try simp only [dSeq, dAsg, dgName, dgTup, dgSub, dOp, dVar, dC, dAdd, dSub, dMul, dMod, dFDiv, dPow, dCmp, dNeg, dEqn, dIsN, dIx, dTup, dLst, dConsA, dNilA, dCB, dCall, dRet, dRetN, dDrop, dIfS, dNext, dBreak, dCont, dTest, dTru, dAndT, dOrT, dNotT, dAndV, dOrV, dNotV, dIf, dChain, dDGet, dDPut, dM1, dM0, dJoin, dSplit, dUpper, dBML, dAppend, dInsert, dPopAt, dLen, dInt, dStr, dTupOf, dListOf, dMax2, dSum, dAll, dSl, dPart, dNoPart, newLst, keyD, dFor, dLc, diSeq, diRng1, diRng2, diEnum, diEnumS, diStr,
  startD, setAll, wipeD, List.map_cons, List.map_nil, List.length_cons, List.length_nil, List.replicate, List.cons_append, List.nil_append, List.getElem?_cons_zero, List.getElem?_cons_succ, List.set_cons_zero, List.set_cons_succ, Nat.reduceAdd, Nat.reduceSub, Bool.false_eq_true, if_true, if_false, ite_true, ite_false, reduceIte])
local macro_rules | `(tactic| walk_at "cm") => `(tactic| first | exact .inl ⟨by omega, by omega⟩ | exact .inr ⟨by omega, by omega⟩ | exact ⟨by omega, by omega⟩ | omega | decide)
theorem eq_nilD {xs : List Nat} {μ : Mu} {Q : DK} (q : Q (.bl xs.isEmpty) μ) : dEqn false (.lst (natsD xs)) (.lst []) μ Q := by
  refine ⟨.list ((xs.map fun b : Nat => (b : Int)).map .int), .list [], ?_, rfl, shaped_ints _, shaped_nil, ?_⟩
  · show pd (.lst _) = _
    rw [natsD_ints, pd, pdL_ints]; rfl
  · rw [eqv_nil]
    cases xs <;> exact q
theorem forZipA {ta : TAd} {g : DG} {tb t2 : DS} {E : DEnds} {ds : DSl} {μ : Mu} (h : ta ds μ fun us μ1 => match us with
    | [x, y] => ∃ xs ys, LstAt μ1 x xs ∧ LstAt μ1 y ys ∧ ∃ I : Nat → DSl → Mu → Prop, I 0 ds μ1 ∧ (∀ i ds μ, i ≤ (zipD xs ys).length → I i ds μ → keepOf x xs μ ∧ keepOf y ys μ) ∧
      (∀ i d ds μ, (zipD xs ys)[i]? = some d → I i ds μ → g d ds μ fun ds2 μ2 => tb { nx := fun ds μ => I (i + 1) ds μ, rt := E.rt, bk := t2 E, ct := fun ds μ => I (i + 1) ds μ } ds2 μ2) ∧ (∀ ds μ, I (zipD xs ys).length ds μ → t2 E ds μ)
    | _ => False) : dSeq (dFor (diZip ta) g tb) t2 E ds μ := h
theorem rd__law_sectors : ∀ ds μ Q, P__law_sectors ds μ Q → td__law_sectors { nx := fun _ μ' => GhQ Q .non μ', rt := GhQ Q } (startD N__law_sectors ds) μ := by
  rintro ds μ Q ⟨cs, ls, rfl, gl, hl, ac, q⟩
  unfold td__law_sectors N__law_sectors
  simp only [startD, List.map_cons, List.map_nil, List.length_cons, List.length_nil, List.replicate, List.cons_append, List.nil_append, Nat.reduceAdd, Nat.reduceSub]
  refine stepA ?_
  refine ⟨⟨by decide, by decide⟩, ?_⟩
  refine LcB.pure (fun d => match d with
    | .int s => strsD (colN ls s.toNat)
    | _ => .non) trivial (by decide) (fun j d Qd hd y => ?_) ?_
  · obtain ⟨hj, rfl⟩ := rngD_get hd
    refine callA (consA ?_)
    refine Ev.at (x := .tup (ls.map lampD)) (.var rfl) (consA ?_)
    refine Ev.at (x := .int (0 + (j : Int))) (.var rfl) ?_
    refine ⟨cs, ls, _, rfl, gl, hl, ⟨by omega, by omega⟩, ?_⟩
    have e : (0 + (j : Int)) = (((0 + (j : Int)).toNat : Nat) : Int) := by omega
    dsimp only at y
    unfold colN at y
    rw [← e] at y
    exact y
  refine newLst_f ?_
  have er : (rngD 0 (Int.toNat 32)).map (fun d => match d with
      | .int s => strsD (colN ls s.toNat)
      | _ => .non) = (List.range 32).map fun s => strsD (colN ls s) := by
    unfold rngD
    rw [List.map_map]
    refine List.map_congr_left fun s _ => ?_
    show strsD (colN ls (0 + ((s : Nat) : Int)).toNat) = _
    congr 2
    omega
  rw [er]
  generalize colN ls = c at ac q ⊢
  show dSeq _ _ _ [some (.tup (ls.map lampD)), some (rowD c), none, none, none, none, none] μ
  refine stepA ?_
  refine ⟨⟨by decide, by decide⟩, ?_⟩
  refine begins_lc ac (by decide) (fun d => rfl) (fun d => rfl) ?_
  have hlen := begins_len c
  have hlt : ∀ b ∈ begins c, b < 32 := fun b h => begins_lt h
  unfold secs at q
  refine ifT (opA ?_)
  refine Ev.at (x := .lst (natsD (begins c))) (.var (i := 3) rfl) ?_
  refine Ev.at (te := dLst false dNilA) (x := .lst []) (.lst .nil) (eq_nilD ?_)
  have tail : ∀ (t : List Nat), t.length ≤ 32 → (∀ b ∈ t, b < 32) → Q (.lst (List.zipWith (secOf c) t (nexts t))) μ →
      (dSeq (dAsg (dLst true dNilA) (dgName 4))
        (dSeq (dFor (diZip (dConsA (dVar 3) (dConsA (dOp (dAdd false) (dSl false (dVar 3) (dPart (dC (.int 1))) dNoPart) (dSl false (dVar 3) dNoPart (dPart (dC (.int 1))))) dNilA))) (dgTup [5, 6]) (dDrop (dBML dAppend (dVar 4) (dConsA (dTup (dConsA (dVar 5) (dConsA (dOp dMod (dOp dSub (dVar 6) (dC (.int 1))) (dC (.int 32))) (dConsA (dOp dIx (dVar 1) (dVar 5)) dNilA)))) dNilA))))
        (dRet (dVar 4)))) { nx := fun _ μ' => GhQ Q .non μ', rt := GhQ Q } [some (.tup (ls.map lampD)), some (rowD c), none, some (.lst (natsD t)), none, none, none] μ := by
    intro t l32 hlt q
    refine stepA (lstA ?_)
    refine ⟨by show 0 ≤ sizeLine; decide, fun p hp => ?_⟩
    refine forZipA (consA ?_)
    refine Ev.at (x := .lst (natsD t)) (.var (i := 3) rfl) (consA ?_)
    refine Ev.at (x := .lst (natsD (nexts t))) (Ev.nexts (.var (i := 3) rfl) l32) ?_
    refine ⟨natsD t, natsD (nexts t), rfl, rfl, fun j ds ν => ν = put μ p (.lst ((List.zipWith (secOf c) t (nexts t)).take j)) ∧ ∃ x5 x6, ds = [some (.tup (ls.map lampD)), some (rowD c), none, some (.lst (natsD t)), some (.obj p), x5, x6], ⟨rfl, _, _, rfl⟩, fun _ _ _ _ _ => ⟨trivial, trivial⟩, fun j d ds ν hd hI => ?_, fun ds ν hI => ?_⟩
    · obtain ⟨rfl, x5, x6, rfl⟩ := hI
      obtain ⟨x, y, h1, h2, rfl⟩ := zipD_get hd
      obtain ⟨a, ha, rfl⟩ := map_get h1
      obtain ⟨b, hb, rfl⟩ := map_get h2
      have la := hlt a (List.mem_of_getElem? ha)
      have ev : Ev (dTup (dConsA (dVar 5) (dConsA (dOp dMod (dOp dSub (dVar 6) (dC (.int 1))) (dC (.int 32))) (dConsA (dOp dIx (dVar 1) (dVar 5)) dNilA)))) [some (.tup (ls.map lampD)), some (rowD c), none, some (.lst (natsD t)), some (.obj p), some (.int (a : Nat)), some (.int (b : Nat))] (secOf c a b) :=
        .tup (.cons (.var (i := 5) rfl) (.cons (Ev.backPt (.var (i := 6) rfl)) (.cons (Ev.ix (.var (i := 1) rfl) (.var (i := 5) rfl) (atI_row la)) .nil))) z3
      have hz : (List.zipWith (secOf c) t (nexts t))[j]? = some (secOf c a b) := by rw [List.getElem?_zipWith, ha, hb]
      refine ⟨rfl, ⟨_, put_same⟩, ?_⟩
      refine ev _ _ ?_
      refine ⟨_, put_same, small (by rw [List.length_take, List.length_zipWith]; omega), ?_⟩
      refine ⟨?_, _, _, rfl⟩
      rw [put_put, List.take_add_one, hz]
      rfl
    · obtain ⟨rfl, x5, x6, rfl⟩ := hI
      have lz : (zipD (natsD t) (natsD (nexts t))).length = (List.zipWith (secOf c) t (nexts t)).length := by rw [zipD_len, natsD_len, natsD_len, List.length_zipWith]
      rw [lz, List.take_length]
      refine retA ?_
      refine Ev.at (x := .obj p) (.var (i := 4) rfl) ?_
      exact GhQ.fix (fun b o z => by rw [put_ne fun w => by rw [w, hp] at z; cases z]; exact z) put_same hp q
  unfold beginsD
  cases eb : begins c with
  | nil =>
    rw [eb, if_pos rfl] at q
    show if true = true then _ else _
    rw [if_pos rfl]
    refine retA (lstA (consA ?_))
    refine Ev.at (x := .tup [.int 0, .int 31, strsD (c 0)]) (.tup (.cons .c (.cons .c (.cons (Ev.ix (.var (i := 1) rfl) .c (atI_row (c := c) (b := 0) (by decide))) .nil))) z3) ?_
    exact ⟨by show 1 ≤ sizeLine; decide, .self q⟩
  | cons b0 r =>
    rw [eb, if_neg (by simp)] at q
    rw [eb] at hlen hlt
    show if false = true then _ else _
    rw [if_neg Bool.false_ne_true]
    dsimp only [dNext]
    refine ifT (opA ?_)
    have e0 : atI (natsD (b0 :: r)) 0 = some (.int ((b0 : Nat) : Int)) := atI_some (by decide) rfl
    refine Ev.at (Ev.ix (xs := natsD (b0 :: r)) (.var (i := 3) rfl) .c e0) ?_
    show if (!decide (((b0 : Nat) : Int) = 0)) = true then _ else _
    by_cases z : b0 = 0
    · subst z
      rw [if_neg (by decide)]
      dsimp only [dNext]
      exact tail (0 :: r) hlen hlt q
    · rw [if_pos (by rw [decide_eq_false (by omega)]; rfl)]
      rw [turned_ne z] at q
      refine (show ∀ {te : TD} {i : Nat} {E : DEnds} {ds : DSl} {μ : Mu}, (te ds μ fun x μ1 => E.nx (ds.set i (some x)) μ1) → dAsg te (dgName i) E ds μ from fun h => h) ?_
      refine Ev.at (x := .lst (natsD ((b0 :: r).drop ((b0 :: r).length - 1) ++ (b0 :: r).take ((b0 :: r).length - 1)))) (Ev.back (.var (i := 3) rfl) hlen) ?_
      refine tail _ ?_ (fun b hb => ?_) q
      · rw [List.length_append, List.length_drop, List.length_take]; omega
      · rcases List.mem_append.mp hb with h | h
        · exact hlt b (List.mem_of_mem_drop h)
        · exact hlt b (List.mem_of_mem_take h)
end DL.K21
set_option Elab.async false
set_option linter.all false
set_option maxRecDepth 100000
set_option maxHeartbeats 4000001
namespace DL.K21
open PySem L2 TL PyProof.Rows DL.K20
open DL.K30 (strsD Ev EvA stepA stepT retA opA lstA consA callA cbA eq_strsT z3)
local macro_rules | `(tactic| walk_at "dd") => `(tactic| try simp only [dSeq, dAsg, dgName, dgTup, dgSub, dOp, dVar, dC, dAdd, dSub, dMul, dMod, dFDiv, dPow, dCmp, dNeg, dEqn, dIsN, dIx, dTup, dLst, dConsA, dNilA, dCB, dCall, dRet, dRetN, dDrop, dIfS, dNext, dBreak, dCont, dTest, dTru, dAndT, dOrT, dNotT, dAndV, dOrV, dNotV, dIf, dChain, dDGet, dDPut, dM1, dM0, dJoin, dSplit, dUpper, dBML, dAppend, dInsert, dPopAt, dLen, dInt, dStr, dTupOf, dListOf, dMax2, dSum, dAll, dSl, dPart, dNoPart, newLst, keyD, dFor, dLc, diSeq, diRng1, diRng2, diEnum, diEnumS, diStr,
  startD, setAll, wipeD, List.map_cons, List.map_nil, List.length_cons, List.length_nil, List.replicate, List.cons_append, List.nil_append, List.getElem?_cons_zero, List.getElem?_cons_succ, List.set_cons_zero, List.set_cons_succ, Nat.reduceAdd, Nat.reduceSub, Bool.false_eq_true, if_true, if_false, ite_true, ite_false, reduceIte])
local macro_rules | `(tactic| walk_at "cm") => `(tactic| first | exact .inl ⟨by omega, by omega⟩ | exact .inr ⟨by omega, by omega⟩ | exact ⟨by omega, by omega⟩ | omega | decide)
local macro_rules | `(tactic| walk_at "dx") => `(tactic| try simp only [xSeq, xIf, xLift, xRet, xDrop, xSet, xCall, xMeth, xOp, xCB1, xOwn, dFs3, quiet, dLcX, xBlk])
/-! what the sectors' list shows as -/
def GoodC (c : Nat → List Str) : Prop := ∀ s, (c s).length ≤ 6 ∧ ∀ n ∈ c s, n.length ≤ 6 ∧ Asc n
theorem sec_mem {c : Nat → List Str} {p : Trip} (h : p ∈ secP c) : ∃ s, p.2.2 = strsD (c s) ∧ (0 ≤ p.1 ∧ p.1 < 32) ∧ (0 ≤ p.2.1 ∧ p.2.1 < 32) := by
  unfold secP at h
  split at h
  · have e := List.mem_singleton.mp h
    subst e
    exact ⟨0, rfl, ⟨show (0 : Int) ≤ 0 by decide, show (0 : Int) < 32 by decide⟩, ⟨show (0 : Int) ≤ 31 by decide, show (31 : Int) < 32 by decide⟩⟩
  · obtain ⟨i, hi⟩ := List.mem_iff_getElem?.mp h
    rw [List.getElem?_zipWith] at hi
    cases ha : (turnedL (begins c))[i]? with
    | none => rw [ha] at hi; cases hi
    | some a =>
      cases hb : (nexts (turnedL (begins c)))[i]? with
      | none => rw [ha, hb] at hi; cases hi
      | some b =>
        rw [ha, hb] at hi
        have e := Option.some.inj hi
        subst e
        have la : a < 32 := begins_lt (turned_mem (List.mem_of_getElem? ha))
        refine ⟨a, rfl, ⟨?_, ?_⟩, ?_, ?_⟩
        · show (0 : Int) ≤ (a : Nat); omega
        · show ((a : Nat) : Int) < 32; omega
        · show (0 : Int) ≤ ((b : Nat) - 1) % 32; omega
        · show (((b : Nat) : Int) - 1) % 32 < 32; omega
theorem trips_pd {c : Nat → List Str} (g : GoodC c) : ∀ xs : List Trip, (∀ p ∈ xs, ∃ s, p.2.2 = strsD (c s) ∧ (0 ≤ p.1 ∧ p.1 < 32) ∧ (0 ≤ p.2.1 ∧ p.2.1 < 32)) → ∃ ps, pdL (xs.map tripD) = some ps ∧ ps.length = xs.length ∧ ∀ p ∈ ps, SmP p 129 2
  | [], _ => ⟨[], by rw [List.map_nil, pdL], rfl, fun _ h => (nomatch h)⟩
  | (i, j, d) :: xs, h => by
    obtain ⟨ps, h1, h2, h3⟩ := trips_pd g xs fun x hx => h x (List.mem_cons_of_mem _ hx)
    obtain ⟨s, e, hi, hj⟩ := h _ List.mem_cons_self
    dsimp only at e hi hj
    subst e
    refine ⟨.tuple [.int i, .int j, .tuple ((c s).map .str)] :: ps, ?_, by rw [List.length_cons, List.length_cons, h2], fun p hp => ?_⟩
    · show pdL (.tup [.int i, .int j, .tup ((c s).map .str)] :: xs.map tripD) = _
      rw [pdL, h1]
      simp [pd, pdL, pdL_strs]
    · rcases List.mem_cons.mp hp with rfl | hp
      · refine SmP.tuple (b := 42) (d := 1) (n := 3) (fun p hp => ?_) (Nat.le_refl _)
        simp only [List.mem_cons, List.not_mem_nil, or_false] at hp
        rcases hp with rfl | rfl | rfl
        · exact (SmP.int (by omega)).up (by decide) (by decide)
        · exact (SmP.int (by omega)).up (by decide) (by decide)
        · refine SmP.tuple (b := 6) (d := 0) (n := 6) (fun p hp => ?_) (by rw [List.length_map]; exact (g s).1)
          obtain ⟨n, hn, rfl⟩ := List.mem_map.mp hp
          exact SmP.str ((g s).2 n hn).1 ((g s).2 n hn).2
      · exact h3 p hp
theorem repr_secs {c : Nat → List Str} (g : GoodC c) : ∃ txt : Str, ∀ (μ : Mu) (Q : DK) (x : D), LstAt μ x (secs c) → Q (.str txt) μ → dRepr [x] μ Q := by
  obtain ⟨ps, h1, h2, h3⟩ := trips_pd g (secP c) fun p hp => sec_mem hp
  have hl : ps.length ≤ 32 := by rw [h2]; exact sec_len c
  rw [← secs_trip] at h1
  refine ⟨(PyData.list ps).shown, fun μ Q x hx q => repr_small (p := .list ps) ?_ rfl (SmP.list (n := 32) h3 hl) (by decide) (by decide) q⟩
  cases x with
  | lst ys =>
    have e : ys = secs c := hx
    subst e
    show pd (.lst _) = _
    rw [pd, h1]; rfl
  | obj a =>
    have e : μ a = some (.lst (secs c)) := hx
    unfold pdM
    simp only [e, h1, Option.map_some]
  | _ => exact hx.elim
theorem good_col {f : Flt} (ok : FleetOk f) {k : Kind} (hk : k ∈ f.2) : GoodC (colN k.2.2) := fun s => by
  obtain ⟨g1, g2, g3, g4, g5⟩ := ok.kg k hk
  refine ⟨Nat.le_trans (colOf_len _ _) g4, fun n hn => ?_⟩
  unfold colN colOf at hn
  obtain ⟨l, hl, rfl⟩ := List.mem_map.mp hn
  exact name_asc (ok.cn _ (g5 l (List.mem_filter.mp hl).1).1)
/-- what stays through the law -/
structure Gd (T : List (Addr × Str)) (Fleet m dg : Addr) (rest : List (Key × D)) (a : Addr) (f : Flt) (μ : Mu) (n : Nat) (ν : Mu) : Prop where
  M : MOk m dg rest n ν
  A : FleetAt Fleet a f ν
  tb : TabsAre T ν
  S : SubM μ ν
section
variable {T : List (Addr × Str)} {Fleet m dg : Addr} {rest : List (Key × D)} {a : Addr} {f : Flt} {μ : Mu} {n k : Nat} {ν ν' : Mu}
theorem Gd.mono (h : Gd T Fleet m dg rest a f μ n ν) (e : n ≤ k) : Gd T Fleet m dg rest a f μ k ν := ⟨h.M.mono e, h.A, h.tb, h.S⟩
theorem Gd.putO (h : Gd T Fleet m dg rest a f μ n ν) {p : Addr} {o : MO} (hp : ν p = none) (ho : ∀ q, o ≠ .tbl q) : Gd T Fleet m dg rest a f μ n (put ν p o) :=
  ⟨h.M.putO (h.M.neM hp) (h.M.neD hp), by unfold FleetAt; rw [put_ne fun e => by have := h.A; unfold FleetAt at this; rw [e, hp] at this; cases this]; exact h.A, tabs_putO h.tb (fun q e => by rw [hp] at e; cases e) ho, h.S.newR (by
    cases z : μ p with
    | none => rfl
    | some o => rw [h.S p o z] at hp; cases hp)⟩
theorem Gd.fr (h : Gd T Fleet m dg rest a f μ n ν) (hm : μ m = none) (hd : μ dg = none) (am : a ≠ m) (ad : a ≠ dg) (M' : MOk m dg rest k ν') (F : Fr m dg ν ν') : Gd T Fleet m dg rest a f μ k ν' :=
  ⟨M', (F a am ad).trans h.A, tabs_fr h.tb M' F h.M.nt1 h.M.nt2, fun b o e => by
    rw [F b (fun z => by rw [z, hm] at e; cases e) (fun z => by rw [z, hd] at e; cases e)]; exact h.S b o e⟩
end
def kindBody (isa : Value → Value → Option Bool) (Fleet NoKind : Addr) : DS :=
  (dSeq (dAsg (dCall (quiet (P_sectors Fleet NoKind)) (dConsA (dVar 3) (dConsA (dVar 5) dNilA))) (dgName 8))
    (dSeq (dIfS (dOrT (dNotT (dTru (dCB (dIsi isa) (dConsA (dVar 8) (dConsA (dC (.ty "list")) dNilA))))) (dTest (dOp (dEqn true) (dCB dRepr (dConsA (dVar 8) dNilA)) (dCB dRepr (dConsA (dCall P__law_sectors (dConsA (dVar 7) dNilA)) dNilA))))) (dRet (dC (.bl false))) dNext)
    (dSeq (dIfS (dNotT (dTru (dCall P__law_is_whole (dConsA (dVar 8) dNilA)))) (dRet (dC (.bl false))) dNext)
    (dDrop (dBML dAppend (dVar 8) (dConsA (dC .non) dNilA))))))
theorem kind_ok {T : List (Addr × Str)} {isa : Value → Value → Option Bool} {Fleet NoKind m dg : Addr} {rest : List (Key × D)} {a : Addr} {f : Flt} {μ : Mu} {n : Nat} {ν : Mu} {E : DEnds} {x0 x1 x2 x4 x6 x8 x9 : Option D} (ip : IsaP isa) (h : Gd T Fleet m dg rest a f μ n ν) (ok : FleetOk f) {k : Kind} (hk : k ∈ f.2)
    (q : ∀ ν' y8, Gd T Fleet m dg rest a f μ n ν' → E.nx [x0, x1, x2, some (.obj a), x4, some (.str k.1), x6, some (.tup (k.2.2.map lampD)), y8, x9] ν') :
    kindBody isa Fleet NoKind E [x0, x1, x2, some (.obj a), x4, some (.str k.1), x6, some (.tup (k.2.2.map lampD)), x8, x9] ν := by
  have kin := kind_of ok hk
  have g := good_col ok hk
  obtain ⟨txt, rb⟩ := repr_secs g
  have asc : AscC (colN k.2.2) := fun s n hn => ((g s).2 n hn).2
  obtain ⟨_, _, _, g4, g5⟩ := ok.kg k hk
  have ls := sec_len (colN k.2.2)
  have ls2 : (secs (colN k.2.2)).length ≤ 32 := by rw [secs_trip, List.length_map]; exact ls
  unfold kindBody
  walk_at "dd"
  unfold quiet
  refine ⟨a, f, _, rfl, h.A, few_ok ok, any_str _, ?_⟩
  rw [kin]
  refine ⟨asc, fun p hp => ?_⟩
  generalize hc : colN k.2.2 = c at *
  walk_at "dd"
  refine isi_any ip (t := "list") (.objL put_same) (by decide) (by decide) ⟨trivial, ?_⟩
  rw [show kitB "list" "list" = true from by decide]
  show (if (!true) = true then E.rt (.bl false) (put ν p (.lst (secs c))) else dRepr [.obj p] (put ν p (.lst (secs c))) _)
  rw [if_neg (by decide)]
  refine rb _ _ _ put_same ?_
  show P__law_sectors [.tup (k.2.2.map lampD)] (put ν p (.lst (secs c))) _
  refine ⟨f.1, k.2.2, rfl, g5, by omega, hc ▸ asc, ?_⟩
  rw [hc]
  show dRepr [.lst (secs c)] (put ν p (.lst (secs c))) _
  refine rb _ _ _ rfl ?_
  show if (!decide (txt = txt)) = true then _ else _
  rw [if_neg (by simp)]
  refine ⟨.obj p, secP c, rfl, ?_, by omega, sec_sum c, sec_next c, trivial, ?_⟩
  · show put ν p _ p = _
    rw [put_same, secs_trip]
  refine ⟨⟨_, put_same⟩, _, put_same, small (by omega), ?_⟩
  rw [put_put]
  exact q _ _ (h.putO hp fun q e => by cases e)
theorem lost_of {T : List (Addr × Str)} {cat : Addr → Option Bool} {tl : TDX} {BadText NoKind BadPoint BadSight Full BadMoment BadBoats BadMany NoFoe : Addr} {ds : DSl} {ν : Mu} {Q : DK} {C : Addr} {wd : Str} (tb : TabsAre T ν) (hc : cat C = some true)
    (hm : (C, wd) ∈ Er.row ⟨BadText, NoKind, BadPoint, BadSight, Full, BadMoment, BadBoats, BadMany, NoFoe⟩ ∧ wd ∈ rw21) (h : ∀ (E : DXK) (R : DK), E C [] ν → tl (fun C fs _ μ' => E C fs μ') ds ν R) (q : Q (.str wd) ν) :
    dLost T cat tl (td__law_lost_ret BadText NoKind BadPoint BadSight Full BadMoment BadBoats BadMany NoFoe) ds ν Q := by
  refine ⟨tb, h _ _ ⟨true, hc, fun _ => ?_, fun z => by cases z⟩⟩
  unfold td__law_lost_ret
  walk_at "dd"
  exact ⟨C, [], wd, rfl, hm.1, hm.2, q⟩
def oddBody (cat : Addr → Option Bool) (Fleet NoKind BadText BadPoint BadSight Full BadMoment BadBoats BadMany NoFoe : Addr) (T : List (Addr × Str)) : DS :=
  (dSeq (dAsg (dOp dIx (dLst false (dConsA (dC (.str "")) (dConsA (dC (.str "zzzzzzz")) (dConsA (dOp (dAdd false) (dVar 5) (dC (.str "x"))) (dConsA (dC .non) (dConsA (dC (.int 5)) (dConsA (dLst false (dConsA (dVar 5) dNilA)) (dConsA (dTup (dConsA (dVar 5) dNilA)) (dConsA (dC (.bl true)) (dConsA dDNew dNilA)))))))))) (dCall P__law_draw (dConsA (dVar 1) (dConsA (dC (.int 9)) dNilA)))) (dgName 9))
    (dIfS (dTest (dOp (dEqn true) (dLost T cat (xCall (P_sectors Fleet NoKind) (dConsA (dVar 3) (dConsA (dVar 9) dNilA))) (td__law_lost_ret BadText NoKind BadPoint BadSight Full BadMoment BadBoats BadMany NoFoe)) (dC (.str "kind")))) (dRet (dC (.bl false))) dNext))
theorem odd_ok {T : List (Addr × Str)} {cat : Addr → Option Bool} {Fleet NoKind BadText BadPoint BadSight Full BadMoment BadBoats BadMany NoFoe : Addr} {m dg : Addr} {rest : List (Key × D)} {a : Addr} {f : Flt} {μ : Mu} {n : Nat} {ν : Mu} {E : DEnds} {x0 x2 x4 x6 x7 x8 x9 : Option D} {k : Str} (c1 : cat NoKind = some true) (h : Gd T Fleet m dg rest a f μ n ν) (hn : n < 2 ^ 28) (hm : μ m = none) (hd : μ dg = none) (am : a ≠ m) (ad : a ≠ dg) (ok : FleetOk f) (hk : k ∈ f.2.map (·.1))
    (q : ∀ ν' y9, Gd T Fleet m dg rest a f μ (n + 1) ν' → E.nx [x0, some (.obj m), x2, some (.obj a), x4, some (.str k), x6, x7, x8, y9] ν') :
    oddBody cat Fleet NoKind BadText BadPoint BadSight Full BadMoment BadBoats BadMany NoFoe T E [x0, some (.obj m), x2, some (.obj a), x4, some (.str k), x6, x7, x8, x9] ν := by
  obtain ⟨kk, hkk, ekk⟩ := List.mem_map.mp hk
  have nk := ok.kn kk hkk
  rw [ekk] at nk
  unfold oddBody
  walk_at "dd"
  refine ⟨Nat.le_trans (Nat.add_le_add nk.2.1 (Nat.le_refl _)) (by decide +kernel), by show 1 ≤ sizeLine; decide, by show 1 ≤ sizeLine; decide, ?_⟩
  unfold dDNew
  intro p1 hp1
  walk_at "dd"
  have p1m := h.M.neM hp1
  have p1d := h.M.neD hp1
  have h0 := h.putO (o := .dK []) hp1 fun q e => by cases e
  refine ⟨by show 9 ≤ sizeLine; decide, m, dg, rest, n, 9, rfl, h0.M, by omega, by decide, by decide, fun i1 μ1 a1 b1 M1 F1 => ?_⟩
  have h1 := h0.fr hm hd am ad M1 F1
  obtain ⟨x, hx0, hxm, _⟩ := atI_ex (xs := [D.str (Str.ofString ""), D.str (Str.ofString "zzzzzzz"), D.str (k ++ Str.ofString "x"), D.non, D.int 5, D.lst [D.str k], D.tup [D.str k], D.bl true, D.obj p1]) a1 b1
  refine ⟨_, x, rfl, hx0, ?_⟩
  have e1 : μ1 p1 = some (.dK []) := (F1 p1 p1m p1d).trans put_same
  have hnx : kindIn f x = none := by
    simp only [List.mem_cons, List.not_mem_nil, or_false] at hxm
    rcases hxm with rfl | rfl | rfl | rfl | rfl | rfl | rfl | rfl | rfl
    · refine no_kindS fun h => ?_
      obtain ⟨z, hz, ez⟩ := List.mem_map.mp h
      have := (ok.kn z hz).1
      rw [ez] at this
      exact absurd this (by decide +kernel)
    · refine no_kindS fun h => ?_
      obtain ⟨z, hz, ez⟩ := List.mem_map.mp h
      have := (ok.kn z hz).2.1
      rw [ez] at this
      exact absurd this (by decide +kernel)
    · exact no_kindS fun h => ok.kx k hk _ h rfl
    all_goals rfl
  have hax : Any μ1 x := by
    simp only [List.mem_cons, List.not_mem_nil, or_false] at hxm
    rcases hxm with rfl | rfl | rfl | rfl | rfl | rfl | rfl | rfl | rfl
    · exact ⟨_, .str _, by decide⟩
    · exact ⟨_, .str _, by decide⟩
    · exact ⟨_, .str _, by decide⟩
    · exact ⟨_, .non, by decide⟩
    · exact ⟨_, .int _, by decide⟩
    · exact ⟨_, .lst _, by decide⟩
    · exact ⟨_, .tup _, by decide⟩
    · exact ⟨_, .bl _, by decide⟩
    · exact ⟨_, .objD e1, by decide⟩
  have mK : (NoKind, Str.ofString "kind") ∈ Er.row ⟨BadText, NoKind, BadPoint, BadSight, Full, BadMoment, BadBoats, BadMany, NoFoe⟩ ∧ Str.ofString "kind" ∈ rw21 := ⟨.tail _ (.head _), .head _⟩
  walk_at "dd"
  refine lost_of h1.tb c1 mK (fun E R e => ?_) ?_
  · walk_at "dx"
    walk_at "dd"
    exact ⟨a, f, x, rfl, h1.A, few_ok ok, hax, by rw [hnx]; exact e⟩
  show if (!decide (Str.ofString "kind" = Str.ofString "kind")) = true then _ else _
  rw [if_neg (by rw [decide_eq_true rfl]; decide)]
  exact q _ _ h1
end DL.K21
set_option Elab.async false
set_option linter.all false
set_option maxRecDepth 100000
set_option maxHeartbeats 4000001
namespace DL.K21
open PySem L2 TL PyProof.Rows DL.K20
open DL.K30 (strsD Ev EvA stepA stepT retA opA lstA consA callA cbA eq_strsT z3)
local macro_rules | `(tactic| walk_at "dd") => `(tactic| try simp only [dSeq, dAsg, dgName, dgTup, dgSub, dOp, dVar, dC, dAdd, dSub, dMul, dMod, dFDiv, dPow, dCmp, dNeg, dEqn, dIsN, dIx, dTup, dLst, dConsA, dNilA, dCB, dCall, dRet, dRetN, dDrop, dIfS, dNext, dBreak, dCont, dTest, dTru, dAndT, dOrT, dNotT, dAndV, dOrV, dNotV, dIf, dChain, dDGet, dDPut, dM1, dM0, dJoin, dSplit, dUpper, dBML, dAppend, dInsert, dPopAt, dLen, dInt, dStr, dTupOf, dListOf, dMax2, dSum, dAll, dSl, dPart, dNoPart, newLst, keyD, dFor, dLc, diSeq, diRng1, diRng2, diEnum, diEnumS, diStr,
  startD, setAll, wipeD, List.map_cons, List.map_nil, List.length_cons, List.length_nil, List.replicate, List.cons_append, List.nil_append, List.getElem?_cons_zero, List.getElem?_cons_succ, List.set_cons_zero, List.set_cons_succ, Nat.reduceAdd, Nat.reduceSub, Bool.false_eq_true, if_true, if_false, ite_true, ite_false, reduceIte])
local macro_rules | `(tactic| walk_at "cm") => `(tactic| first | exact .inl ⟨by omega, by omega⟩ | exact .inr ⟨by omega, by omega⟩ | exact ⟨by omega, by omega⟩ | omega | decide)
theorem rd_law {T : List (Addr × Str)} {isa : Value → Value → Option Bool} {cat : Addr → Option Bool} {Fleet NoKind BadText BadPoint BadSight Full BadMoment BadBoats BadMany NoFoe : Addr} (ip : IsaP isa) (c1 : cat NoKind = some true) : ∀ ds μ Q, P_law T ds μ Q →
    td_law isa cat Fleet NoKind BadText BadPoint BadSight Full BadMoment BadBoats BadMany NoFoe T { nx := fun _ μ' => GhQ Q .non μ', rt := GhQ Q } (startD N_law ds) μ := by
  rintro ds μ Q ⟨ns, rfl, h63, tb, h⟩
  unfold td_law N_law
  walk_at "dd"
  refine ⟨ns, rfl, h63, fun m dg cs ks μ1 hm hd gc gk M1 F1 => ?_⟩
  refine ⟨m, dg, cs, ks, 10, rfl, M1, by decide, gc.1, gk.1, fun s hs => (gc.2.2.1 s hs).asc, fun s hs => (gk.2.2.1 s hs).asc, fun f μ2 g M2 F2 => ?_⟩
  have ok := fleet_ok gc gk g
  have tb1 : TabsAre T μ1 := tabs_fr tb M1 F1 (fun q e => by rw [hm] at e; cases e) (fun q e => by rw [hd] at e; cases e)
  have tb2 : TabsAre T μ2 := tabs_fr tb1 M2 F2 M1.nt1 M1.nt2
  have S2 : SubM μ μ2 := fun a o e => by
    have n1 : a ≠ m := fun z => by rw [z, hm] at e; cases e
    have n2 : a ≠ dg := fun z => by rw [z, hd] at e; cases e
    rw [F2 a n1 n2, F1 a n1 n2]; exact e
  unfold dMake
  intro a ha
  have am := M2.neM ha
  have ad := M2.neD ha
  refine ⟨a, f, rfl, put_same, few_ok ok, rfl, ?_⟩
  rw [put_put]
  have hμa : μ a = none := by
    cases e : μ a with
    | none => rfl
    | some o => rw [S2 a o e] at ha; cases ha
  have g0 : Gd T Fleet m dg (restD cs ks) a f μ 310 (put μ2 a (.ins Fleet [("_colours", .tup (f.1.map .str)), ("_rows", .tup (f.2.map kindD))])) :=
    ⟨M2.putO am ad, put_same, tabs_putO tb2 (fun q e => by rw [ha] at e; cases e) (fun q e => by cases e), fun b o e => by
      rw [put_ne fun z => by rw [z, hμa] at e; cases e]; exact S2 b o e⟩
  walk_at "dd"
  refine ⟨⟨by decide, by decide⟩, ?_⟩
  refine ⟨fun i ds ν => Gd T Fleet m dg (restD cs ks) a f μ 310 ν ∧ ∃ x4 x5 x6 x7 x8 x9, ds = [some (.scr (ns.map .int)), some (.obj m), some (fleetD f), some (.obj a), x4, x5, x6, x7, x8, x9], ⟨g0, _, _, _, _, _, _, rfl⟩, fun _ _ _ _ _ => trivial, fun j d ds ν hdj hI => ?_, fun ds ν hI => ?_⟩
  · obtain ⟨gν, x4, x5, x6, x7, x8, x9, rfl⟩ := hI
    refine ⟨_, _, rfl, rfl, _, rfl, ?_⟩
    refine ⟨fun i ds ν => Gd T Fleet m dg (restD cs ks) a f μ 310 ν ∧ ∃ x5 x6 x7 x8, ds = [some (.scr (ns.map .int)), some (.obj m), some (fleetD f), some (.obj a), some d, x5, x6, x7, x8, x9], ⟨gν, _, _, _, _, rfl⟩, fun _ _ _ _ _ => trivial, fun i d2 ds ν hd2 hI => ?_, fun ds ν hI => ?_⟩
    · obtain ⟨gν, x5, x6, x7, x8, rfl⟩ := hI
      obtain ⟨k, hk, rfl⟩ := map_get hd2
      refine ⟨rfl, ?_⟩
      show kindBody isa Fleet NoKind _ [some (.scr (ns.map .int)), some (.obj m), some (fleetD f), some (.obj a), some d, some (.str k.1), some (.int k.2.1), some (.tup (k.2.2.map lampD)), x8, x9] ν
      exact kind_ok ip gν ok (List.mem_of_getElem? hk) fun ν' y8 g' => ⟨g', _, _, _, _, rfl⟩
    · obtain ⟨gν, x5, x6, x7, x8, rfl⟩ := hI
      exact ⟨gν, _, _, _, _, _, _, rfl⟩
  · obtain ⟨gν, x4, x5, x6, x7, x8, x9, rfl⟩ := hI
    have l1 := ok.k1
    obtain ⟨k0, r0, ek⟩ : ∃ k0 r0, f.2 = k0 :: r0 := by
      cases e : f.2 with
      | nil => rw [e] at l1; exact absurd l1 (by decide)
      | cons k r => exact ⟨k, r, rfl⟩
    have e0 : atI (f.2.map kindD) 0 = some (kindD k0) := by rw [ek]; exact atI_some (by decide) rfl
    refine ⟨_, _, rfl, rfl, _, _, rfl, e0, _, _, rfl, rfl, ?_⟩
    refine ⟨⟨by decide, by decide⟩, ?_⟩
    refine ⟨fun i ds ν => Gd T Fleet m dg (restD cs ks) a f μ (310 + i) ν ∧ ∃ x4 x9, ds = [some (.scr (ns.map .int)), some (.obj m), some (fleetD f), some (.obj a), x4, some (.str k0.1), x6, x7, x8, x9], ⟨gν, _, _, rfl⟩, fun _ _ _ _ _ => trivial, fun j d ds ν hdj hI => ?_, fun ds ν hI => ?_⟩
    · obtain ⟨gν, x4, x9, rfl⟩ := hI
      obtain ⟨hj, rfl⟩ := rngD_get hdj
      have hj : j < 2 := hj
      show oddBody cat Fleet NoKind BadText BadPoint BadSight Full BadMoment BadBoats BadMany NoFoe T _ [some (.scr (ns.map .int)), some (.obj m), some (fleetD f), some (.obj a), some (.int (0 + (j : Int))), some (.str k0.1), x6, x7, x8, x9] ν
      exact odd_ok c1 gν (by omega) hm hd am ad ok (by rw [ek]; exact List.mem_cons_self) fun ν' y9 g' => ⟨g', _, _, rfl⟩
    · obtain ⟨gν, x4, x9, rfl⟩ := hI
      obtain ⟨txt, rf⟩ := repr_fleet ok
      walk_at "dd"
      unfold dMeth
      walk_at "dd"
      refine ⟨⟨_, gν.A, fl_no (by decide +kernel) (by decide +kernel)⟩, a, f, rfl, gν.A, ?_⟩
      refine rf ν _ ?_
      refine rf ν _ ?_
      show GhQ Q (.bl (decide (txt = txt))) ν
      rw [decide_eq_true rfl]
      exact GhQ.sub gν.S h
theorem rows_raised {BadText NoKind BadPoint BadSight Full BadMoment BadBoats BadMany NoFoe : Addr} {p : Addr × Str} (h : p ∈ Er.row ⟨BadText, NoKind, BadPoint, BadSight, Full, BadMoment, BadBoats, BadMany, NoFoe⟩) (hr : p.2 ∈ rw21) : p ∈ [(NoKind, Str.ofString "kind")] := by
  unfold Er.row at h
  simp only [List.mem_cons, List.not_mem_nil, or_false] at h
  rcases h with rfl | rfl | rfl | rfl | rfl | rfl | rfl | rfl | rfl
  · exact absurd (show Str.ofString "text" ∈ rw21 from hr) (by decide +kernel)
  · exact .head _
  · exact absurd (show Str.ofString "point" ∈ rw21 from hr) (by decide +kernel)
  · exact absurd (show Str.ofString "sight" ∈ rw21 from hr) (by decide +kernel)
  · exact absurd (show Str.ofString "full" ∈ rw21 from hr) (by decide +kernel)
  · exact absurd (show Str.ofString "moment" ∈ rw21 from hr) (by decide +kernel)
  · exact absurd (show Str.ofString "boats" ∈ rw21 from hr) (by decide +kernel)
  · exact absurd (show Str.ofString "many" ∈ rw21 from hr) (by decide +kernel)
  · exact absurd (show Str.ofString "foe" ∈ rw21 from hr) (by decide +kernel)
end DL.K21
set_option Elab.async false
set_option linter.all false
set_option maxRecDepth 100000
set_option maxHeartbeats 4000001
namespace DL.K21
open PySem L2 K20
def topS (i : Nat) : Stmt := PySem.Challenge.pw_lanternwatch_k21_sectors.main.body.getD i (.Pass ⟨0, 0, 0, 0⟩)
theorem boot_ValueError : bootBuiltins "ValueError" = some (.type "ValueError") := by decide +kernel
structure Tx (K : PySem.W.Frag) (mg : Str → Option Value) (Fleet BadText NoKind BadPoint BadSight Full BadMoment BadBoats BadMany NoFoe LightError : Addr) : Prop where
  c_LAST_POINT : ∃ t, mg "LAST_POINT" = some (.int 31 t)
  c_POINTS : ∃ t, mg "POINTS" = some (.int 32 t)
  b_ValueError : mg "ValueError" = none
  b_bool : mg "bool" = none
  b_enumerate : mg "enumerate" = none
  b_int : mg "int" = none
  b_isinstance : mg "isinstance" = none
  b_len : mg "len" = none
  b_list : mg "list" = none
  b_range : mg "range" = none
  b_repr : mg "repr" = none
  b_str : mg "str" = none
  b_sum : mg "sum" = none
  b_tuple : mg "tuple" = none
  b_zip : mg "zip" = none
  cl_Fleet : Cls K Fleet
  n_Fleet__colours : NoAttr K Fleet "_colours"
  n_Fleet__rows : NoAttr K Fleet "_rows"
  o_BadBoats : mg "BadBoats" = some (.ref BadBoats)
  o_BadMany : mg "BadMany" = some (.ref BadMany)
  o_BadMoment : mg "BadMoment" = some (.ref BadMoment)
  o_BadPoint : mg "BadPoint" = some (.ref BadPoint)
  o_BadSight : mg "BadSight" = some (.ref BadSight)
  o_BadText : mg "BadText" = some (.ref BadText)
  o_Full : mg "Full" = some (.ref Full)
  o_NoFoe : mg "NoFoe" = some (.ref NoFoe)
  o_NoKind : mg "NoKind" = some (.ref NoKind)
  e_BadPoint : OwnErr K mg "BadPoint" BadPoint
  e_NoKind : OwnErr K mg "NoKind" NoKind
section
variable {P : Program} {w : World} {K : PySem.W.Frag} {mg : Str → Option Value} {base : Heap} {isa : Value → Value → Option Bool} {T : List (Addr × Str)} {cat : Addr → Option Bool} {Fleet BadText NoKind BadPoint BadSight Full BadMoment BadBoats BadMany NoFoe LightError : Addr}
abbrev s_is_number : Stmt := (topS 14)
abbrev ps_is_number : List Str := ["value", "most"]
theorem sc_is_number : FnScope N_is_number ps_is_number (defScope s_is_number) := ⟨rfl, rfl, rfl, by decide +kernel, rfl, by decide +kernel, by decide +kernel⟩
theorem tm_is_number (T : Tx K mg Fleet BadText NoKind BadPoint BadSight Full BadMoment BadBoats BadMany NoFoe LightError) (iok : IsaOk K isa) : ∀ (f : Addr) (cdv : Value) (A : Around) (outer : List Env) (s : Shared) (H : Hp) (E : XK), Room 0 (A.deeper (PyProof.Rows.envOfC "is_number" (defScope s_is_number) s.heap.objs.size f cdv)) →
    PSSD (cxOf CX0 P w K mg base N_is_number "is_number" (defScope s_is_number) f cdv A outer s H E).nox (defBody s_is_number) (td_is_number isa) :=
  fun f cdv A outer s H E hr => (ssd_one (sd_ret (ed_and (ed_callB call_isD (rl_isi iok) T.b_isinstance PyProof.Rows.boot_isinstance (ad_cons (ed_var 0) (ad_cons (ed_blt T.b_int PyProof.Rows.boot_int) ad_nil))) (ed_and (ed_not (ed_callB call_isD (rl_isi iok) T.b_isinstance PyProof.Rows.boot_isinstance (ad_cons (ed_var 0) (ad_cons (ed_blt T.b_bool PyProof.Rows.boot_bool) ad_nil)))) (ed_one (ed_chain op_le rr_cmp op_le rr_cmp ed_int (ed_var 0) (ed_var 1)))))))
abbrev s_is_point : Stmt := (topS 15)
abbrev ps_is_point : List Str := ["value"]
theorem sc_is_point : FnScope N_is_point ps_is_point (defScope s_is_point) := ⟨rfl, rfl, rfl, by decide +kernel, rfl, by decide +kernel, by decide +kernel⟩
theorem tm_is_point (T : Tx K mg Fleet BadText NoKind BadPoint BadSight Full BadMoment BadBoats BadMany NoFoe LightError) (h_is_number : DefAt P w K mg base "is_number" 1 ps_is_number P_is_number) : ∀ (f : Addr) (cdv : Value) (A : Around) (outer : List Env) (s : Shared) (H : Hp) (E : XK), Room 1 (A.deeper (PyProof.Rows.envOfC "is_point" (defScope s_is_point) s.heap.objs.size f cdv)) →
    PSSD (cxOf CX0 P w K mg base N_is_point "is_point" (defScope s_is_point) f cdv A outer s H E).nox (defBody s_is_point) (td_is_point ) :=
  fun f cdv A outer s H E hr => (ssd_one (sd_ret (ed_callD h_is_number (hr.mono (by decide)) (ad_cons (ed_var 0) (ad_cons (ed_gint T.c_LAST_POINT) ad_nil)))))
abbrev s_is_name_of : Stmt := (topS 16)
abbrev ps_is_name_of : List Str := ["value", "names"]
theorem sc_is_name_of : FnScope N_is_name_of ps_is_name_of (defScope s_is_name_of) := ⟨rfl, rfl, rfl, by decide +kernel, rfl, by decide +kernel, by decide +kernel⟩
theorem tm_is_name_of (T : Tx K mg Fleet BadText NoKind BadPoint BadSight Full BadMoment BadBoats BadMany NoFoe LightError) (iok : IsaOk K isa) : ∀ (f : Addr) (cdv : Value) (A : Around) (outer : List Env) (s : Shared) (H : Hp) (E : XK), Room 0 (A.deeper (PyProof.Rows.envOfC "is_name_of" (defScope s_is_name_of) s.heap.objs.size f cdv)) →
    PSSD (cxOf CX0 P w K mg base N_is_name_of "is_name_of" (defScope s_is_name_of) f cdv A outer s H E).nox (defBody s_is_name_of) (td_is_name_of isa) :=
  fun f cdv A outer s H E hr => (ssd_one (sd_ret (ed_and (ed_callB call_isD (rl_isi iok) T.b_isinstance PyProof.Rows.boot_isinstance (ad_cons (ed_var 0) (ad_cons (ed_blt T.b_str PyProof.Rows.boot_str) ad_nil))) (ed_one (ed_cmpR op_inG rr_in (ed_var 0) (ed_var 1) (by rfl))))))
abbrev s_check_point : Stmt := (topS 18)
abbrev ps_check_point : List Str := ["value", "called"]
theorem sc_check_point : FnScope N_check_point ps_check_point (defScope s_check_point) := ⟨rfl, rfl, rfl, by decide +kernel, rfl, by decide +kernel, by decide +kernel⟩
theorem tm_check_point (T : Tx K mg Fleet BadText NoKind BadPoint BadSight Full BadMoment BadBoats BadMany NoFoe LightError) (h_is_point : DefAt P w K mg base "is_point" 2 ps_is_point P_is_point) : ∀ (f : Addr) (cdv : Value) (A : Around) (outer : List Env) (s : Shared) (H : Hp) (E : XK), Room 2 (A.deeper (PyProof.Rows.envOfC "check_point" (defScope s_check_point) s.heap.objs.size f cdv)) →
    PSSX (cxOf (L2.CX P w) P w K mg base N_check_point "check_point" (defScope s_check_point) f cdv A outer s H E) (fun cls d _ H' => E cls d H') (defBody s_check_point) (td_check_point BadPoint) :=
  fun f cdv A outer s H E hr =>
    have tk : Takes (cxOf (L2.CX P w) P w K mg base N_check_point "check_point" (defScope s_check_point) f cdv A outer s H E) (fun cls d _ H' => E cls d H') := takes_of rfl rfl rfl rfl
    (ssx_one (sx_if (td_not (td_tru (ed_callD h_is_point (hr.mono (by decide)) (ad_cons (ed_var 0) ad_nil)))) (ssx_one (sx_own rfl tk T.e_BadPoint (ed_fs3 (ed_var 1)))) ssx_nil))
abbrev s_shows : Stmt := (topS 19)
abbrev ps_shows : List Str := ["first", "last", "bearing"]
theorem sc_shows : FnScope N_shows ps_shows (defScope s_shows) := ⟨rfl, rfl, rfl, by decide +kernel, rfl, by decide +kernel, by decide +kernel⟩
theorem tm_shows (T : Tx K mg Fleet BadText NoKind BadPoint BadSight Full BadMoment BadBoats BadMany NoFoe LightError)  : ∀ (f : Addr) (cdv : Value) (A : Around) (outer : List Env) (s : Shared) (H : Hp) (E : XK), Room 0 (A.deeper (PyProof.Rows.envOfC "shows" (defScope s_shows) s.heap.objs.size f cdv)) →
    PSSD (cxOf CX0 P w K mg base N_shows "shows" (defScope s_shows) f cdv A outer s H E).nox (defBody s_shows) (td_shows ) :=
  fun f cdv A outer s H E hr => (ssd_one (sd_ret (ed_cmpR op_le rr_cmp (ed_mod (ed_sub (ed_var 2) (ed_var 0)) (ed_gint T.c_POINTS)) (ed_mod (ed_sub (ed_var 1) (ed_var 0)) (ed_gint T.c_POINTS)) (nomark _))))
abbrev s_colours_at : Stmt := (topS 20)
abbrev ps_colours_at : List Str := ["lamps", "bearing"]
theorem sc_colours_at : FnScope N_colours_at ps_colours_at (defScope s_colours_at) := ⟨rfl, rfl, rfl, by decide +kernel, rfl, by decide +kernel, by decide +kernel⟩
theorem tm_colours_at (T : Tx K mg Fleet BadText NoKind BadPoint BadSight Full BadMoment BadBoats BadMany NoFoe LightError) (h_shows : DefAt P w K mg base "shows" 1 ps_shows P_shows) : ∀ (f : Addr) (cdv : Value) (A : Around) (outer : List Env) (s : Shared) (H : Hp) (E : XK), Room 1 (A.deeper (PyProof.Rows.envOfC "colours_at" (defScope s_colours_at) s.heap.objs.size f cdv)) →
    PSSD (cxOf CX0 P w K mg base N_colours_at "colours_at" (defScope s_colours_at) f cdv A outer s H E).nox (defBody s_colours_at) (td_colours_at ) :=
  fun f cdv A outer s H E hr => (ssd_one (sd_ret (ed_callTy call_tuple_of rl_tupOf T.b_tuple PyProof.Rows.boot_tuple (ad_cons (ed_lc false (own := [("colour", 2), ("first", 3), ("last", 4)]) rfl sc_colours_at.nd (blkOk_by (own := [("colour", 2), ("first", 3), ("last", 4)]) (N := N_colours_at) (sc := defScope s_colours_at) (by decide +kernel)) (id_seq (ed_var 0)) (fun _ _ _ _ _ => gc_tup rfl (gsc_cons (gc_name 2 sc_colours_at.nd) (gsc_cons (gc_name 3 sc_colours_at.nd) (gsc_cons (gc_name 4 sc_colours_at.nd) gsc_nil))) rfl) (fun _ _ _ _ _ => tsd_one (td_tru (ed_callD h_shows (hr.mono (by decide)) (ad_cons (ed_var 3) (ad_cons (ed_var 4) (ad_cons (ed_var 1) ad_nil)))))) (fun _ _ _ _ _ => (ed_var 2))) ad_nil))))
abbrev s_kind_row : Stmt := (topS 25)
abbrev ps_kind_row : List Str := ["row"]
theorem sc_kind_row : FnScope N_kind_row ps_kind_row (defScope s_kind_row) := ⟨rfl, rfl, rfl, by decide +kernel, rfl, by decide +kernel, by decide +kernel⟩
theorem tm_kind_row (T : Tx K mg Fleet BadText NoKind BadPoint BadSight Full BadMoment BadBoats BadMany NoFoe LightError)  : ∀ (f : Addr) (cdv : Value) (A : Around) (outer : List Env) (s : Shared) (H : Hp) (E : XK), Room 0 (A.deeper (PyProof.Rows.envOfC "kind_row" (defScope s_kind_row) s.heap.objs.size f cdv)) →
    PSSD (cxOf CX0 P w K mg base N_kind_row "kind_row" (defScope s_kind_row) f cdv A outer s H E).nox (defBody s_kind_row) (td_kind_row ) :=
  fun f cdv A outer s H E hr => (ssd_cons (sd_asg (ed_var 0) (gd_tup rfl (gsd_cons (gd_name 1 sc_kind_row.nd) (gsd_cons (gd_name 2 sc_kind_row.nd) (gsd_cons (gd_name 3 sc_kind_row.nd) gsd_nil))) rfl))
    (ssd_one (sd_ret (ed_tup (ad_cons (ed_var 1) (ad_cons (ed_var 2) (ad_cons (ed_callTy call_tuple_of rl_tupOf T.b_tuple PyProof.Rows.boot_tuple (ad_cons (ed_lc false (own := [("lamp", 4)]) rfl sc_kind_row.nd (blkOk_by (own := [("lamp", 4)]) (N := N_kind_row) (sc := defScope s_kind_row) (by decide +kernel)) (id_seq (ed_var 3)) (fun _ _ _ _ _ => gc_name 4 sc_kind_row.nd) (fun _ _ _ _ _ => tsd_nil) (fun _ _ _ _ _ => (ed_callTy call_tuple_of rl_tupOf T.b_tuple PyProof.Rows.boot_tuple (ad_cons (ed_var 4) ad_nil)))) ad_nil)) ad_nil)))))))
abbrev s_Fleet___init__ : Stmt := (inClass (topS 26) 0)
abbrev ps_Fleet___init__ : List Str := ["self", "plain"]
theorem sc_Fleet___init__ : FnScope N_Fleet___init__ ps_Fleet___init__ (defScope s_Fleet___init__) := ⟨rfl, rfl, rfl, by decide +kernel, rfl, by decide +kernel, by decide +kernel⟩
theorem tm_Fleet___init__ (T : Tx K mg Fleet BadText NoKind BadPoint BadSight Full BadMoment BadBoats BadMany NoFoe LightError) (h_kind_row : DefAt P w K mg base "kind_row" 1 ps_kind_row P_kind_row) : ∀ (f : Addr) (cdv : Value) (A : Around) (outer : List Env) (s : Shared) (H : Hp) (E : XK), Room 1 (A.deeper (PyProof.Rows.envOfC "Fleet.__init__" (defScope s_Fleet___init__) s.heap.objs.size f cdv)) →
    PSSD (cxOf CX0 P w K mg base N_Fleet___init__ "Fleet.__init__" (defScope s_Fleet___init__) f cdv A outer s H E).nox (defBody s_Fleet___init__) (td_Fleet___init__ Fleet) :=
  fun f cdv A outer s H E hr => (ssd_cons (sd_asg (ed_var 1) (gd_tup rfl (gsd_cons (gd_name 2 sc_Fleet___init__.nd) (gsd_cons (gd_name 3 sc_Fleet___init__.nd) gsd_nil)) rfl))
    (ssd_cons (sd_fld T.cl_Fleet T.n_Fleet__colours (ed_var 0) (ed_callTy call_tuple_of rl_tupOf T.b_tuple PyProof.Rows.boot_tuple (ad_cons (ed_var 2) ad_nil)))
    (ssd_one (sd_fld T.cl_Fleet T.n_Fleet__rows (ed_var 0) (ed_callTy call_tuple_of rl_tupOf T.b_tuple PyProof.Rows.boot_tuple (ad_cons (ed_lc false (own := [("row", 4)]) rfl sc_Fleet___init__.nd (blkOk_by (own := [("row", 4)]) (N := N_Fleet___init__) (sc := defScope s_Fleet___init__) (by decide +kernel)) (id_seq (ed_var 3)) (fun _ _ _ _ _ => gc_name 4 sc_Fleet___init__.nd) (fun _ _ _ _ _ => tsd_nil) (fun _ _ _ _ _ => (ed_callD h_kind_row (hr.mono (by decide)) (ad_cons (ed_var 4) ad_nil)))) ad_nil))))))
abbrev s_Fleet_plain : Stmt := (inClass (topS 26) 1)
abbrev ps_Fleet_plain : List Str := ["self"]
theorem sc_Fleet_plain : FnScope N_Fleet_plain ps_Fleet_plain (defScope s_Fleet_plain) := ⟨rfl, rfl, rfl, by decide +kernel, rfl, by decide +kernel, by decide +kernel⟩
theorem tm_Fleet_plain (T : Tx K mg Fleet BadText NoKind BadPoint BadSight Full BadMoment BadBoats BadMany NoFoe LightError)  : ∀ (f : Addr) (cdv : Value) (A : Around) (outer : List Env) (s : Shared) (H : Hp) (E : XK), Room 0 (A.deeper (PyProof.Rows.envOfC "Fleet.plain" (defScope s_Fleet_plain) s.heap.objs.size f cdv)) →
    PSSD (cxOf CX0 P w K mg base N_Fleet_plain "Fleet.plain" (defScope s_Fleet_plain) f cdv A outer s H E).nox (defBody s_Fleet_plain) (td_Fleet_plain Fleet) :=
  fun f cdv A outer s H E hr => (ssd_one (sd_ret (ed_tup (ad_cons (ed_fld T.cl_Fleet T.n_Fleet__colours (ed_var 0)) (ad_cons (ed_fld T.cl_Fleet T.n_Fleet__rows (ed_var 0)) ad_nil)))))
abbrev s_Fleet_kinds : Stmt := (inClass (topS 26) 2)
abbrev ps_Fleet_kinds : List Str := ["self"]
theorem sc_Fleet_kinds : FnScope N_Fleet_kinds ps_Fleet_kinds (defScope s_Fleet_kinds) := ⟨rfl, rfl, rfl, by decide +kernel, rfl, by decide +kernel, by decide +kernel⟩
theorem tm_Fleet_kinds (T : Tx K mg Fleet BadText NoKind BadPoint BadSight Full BadMoment BadBoats BadMany NoFoe LightError)  : ∀ (f : Addr) (cdv : Value) (A : Around) (outer : List Env) (s : Shared) (H : Hp) (E : XK), Room 0 (A.deeper (PyProof.Rows.envOfC "Fleet.kinds" (defScope s_Fleet_kinds) s.heap.objs.size f cdv)) →
    PSSD (cxOf CX0 P w K mg base N_Fleet_kinds "Fleet.kinds" (defScope s_Fleet_kinds) f cdv A outer s H E).nox (defBody s_Fleet_kinds) (td_Fleet_kinds Fleet) :=
  fun f cdv A outer s H E hr => (ssd_one (sd_ret (ed_lc true (own := [("row", 1)]) rfl sc_Fleet_kinds.nd (blkOk_by (own := [("row", 1)]) (N := N_Fleet_kinds) (sc := defScope s_Fleet_kinds) (by decide +kernel)) (id_seq (ed_fld T.cl_Fleet T.n_Fleet__rows (ed_var 0))) (fun _ _ _ _ _ => gc_name 1 sc_Fleet_kinds.nd) (fun _ _ _ _ _ => tsd_nil) (fun _ _ _ _ _ => (ed_ix (ed_var 1) ed_int)))))
abbrev s_Fleet__row : Stmt := (inClass (topS 26) 5)
abbrev ps_Fleet__row : List Str := ["self", "kind"]
theorem sc_Fleet__row : FnScope N_Fleet__row ps_Fleet__row (defScope s_Fleet__row) := ⟨rfl, rfl, rfl, by decide +kernel, rfl, by decide +kernel, by decide +kernel⟩
theorem tm_Fleet__row (T : Tx K mg Fleet BadText NoKind BadPoint BadSight Full BadMoment BadBoats BadMany NoFoe LightError) (h_Fleet_kinds : MethAt P w K mg base Fleet "kinds" 1 ps_Fleet_kinds (P_Fleet_kinds Fleet)) (h_is_name_of : DefAt P w K mg base "is_name_of" 1 ps_is_name_of P_is_name_of) : ∀ (f : Addr) (cdv : Value) (A : Around) (outer : List Env) (s : Shared) (H : Hp) (E : XK), Room 1 (A.deeper (PyProof.Rows.envOfC "Fleet._row" (defScope s_Fleet__row) s.heap.objs.size f cdv)) →
    PSSX (cxOf (L2.CX P w) P w K mg base N_Fleet__row "Fleet._row" (defScope s_Fleet__row) f cdv A outer s H E) (fun cls d _ H' => E cls d H') (defBody s_Fleet__row) (td_Fleet__row Fleet NoKind) :=
  fun f cdv A outer s H E hr =>
    have tk : Takes (cxOf (L2.CX P w) P w K mg base N_Fleet__row "Fleet._row" (defScope s_Fleet__row) f cdv A outer s H E) (fun cls d _ H' => E cls d H') := takes_of rfl rfl rfl rfl
    (ssx_cons (sx_lift (sd_set 2 sc_Fleet__row.nd (ed_methD0 (ed_var 0) T.cl_Fleet h_Fleet_kinds (hr.mono (by decide)))))
    (ssx_cons (sx_if (td_tru (ed_callD h_is_name_of (hr.mono (by decide)) (ad_cons (ed_var 1) (ad_cons (ed_var 2) ad_nil)))) (ssx_one (sx_lift (sd_ret (ed_ix (ed_fld T.cl_Fleet T.n_Fleet__rows (ed_var 0)) (ed_bml PySem.F.plainAttrs_list PySem.F.slot_list_index PySem.F.type_list_index mt_index rm_index (ed_var 2) (ad_cons (ed_var 1) ad_nil)))))) ssx_nil)
    (ssx_one (sx_own rfl tk T.e_NoKind ed_str))))
abbrev s_Fleet_lamps : Stmt := (inClass (topS 26) 4)
abbrev ps_Fleet_lamps : List Str := ["self", "kind"]
theorem sc_Fleet_lamps : FnScope N_Fleet_lamps ps_Fleet_lamps (defScope s_Fleet_lamps) := ⟨rfl, rfl, rfl, by decide +kernel, rfl, by decide +kernel, by decide +kernel⟩
theorem tm_Fleet_lamps (T : Tx K mg Fleet BadText NoKind BadPoint BadSight Full BadMoment BadBoats BadMany NoFoe LightError) (h_Fleet__row : MethAtX P w K mg base Fleet "_row" 2 ps_Fleet__row (P_Fleet__row Fleet NoKind)) : ∀ (f : Addr) (cdv : Value) (A : Around) (outer : List Env) (s : Shared) (H : Hp) (E : XK), Room 2 (A.deeper (PyProof.Rows.envOfC "Fleet.lamps" (defScope s_Fleet_lamps) s.heap.objs.size f cdv)) →
    PSSX (cxOf (L2.CX P w) P w K mg base N_Fleet_lamps "Fleet.lamps" (defScope s_Fleet_lamps) f cdv A outer s H E) (fun cls d _ H' => E cls d H') (defBody s_Fleet_lamps) (td_Fleet_lamps Fleet NoKind) :=
  fun f cdv A outer s H E hr =>
    have tk : Takes (cxOf (L2.CX P w) P w K mg base N_Fleet_lamps "Fleet.lamps" (defScope s_Fleet_lamps) f cdv A outer s H E) (fun cls d _ H' => E cls d H') := takes_of rfl rfl rfl rfl
    (ssx_one (sx_ret (ex_callTy1 call_list_of rl_listOf T.b_list PyProof.Rows.boot_list (ex_ix (ex_meth tk (ed_var 0) T.cl_Fleet h_Fleet__row (hr.mono (by decide)) (ad_cons (ed_var 1) ad_nil)) ed_int))))
abbrev s_seen : Stmt := (topS 21)
abbrev ps_seen : List Str := ["fleet", "kind", "course", "side"]
theorem sc_seen : FnScope N_seen ps_seen (defScope s_seen) := ⟨rfl, rfl, rfl, by decide +kernel, rfl, by decide +kernel, by decide +kernel⟩
theorem tm_seen (T : Tx K mg Fleet BadText NoKind BadPoint BadSight Full BadMoment BadBoats BadMany NoFoe LightError) (h_Fleet_lamps : MethAtX P w K mg base Fleet "lamps" 3 ps_Fleet_lamps (P_Fleet_lamps Fleet NoKind)) (h_check_point : DefAtX P w K mg base "check_point" 3 ps_check_point (P_check_point BadPoint)) (h_colours_at : DefAt P w K mg base "colours_at" 2 ps_colours_at P_colours_at) : ∀ (f : Addr) (cdv : Value) (A : Around) (outer : List Env) (s : Shared) (H : Hp) (E : XK), Room 3 (A.deeper (PyProof.Rows.envOfC "seen" (defScope s_seen) s.heap.objs.size f cdv)) →
    PSSX (cxOf (L2.CX P w) P w K mg base N_seen "seen" (defScope s_seen) f cdv A outer s H E) (fun cls d _ H' => E cls d H') (defBody s_seen) (td_seen Fleet NoKind BadPoint) :=
  fun f cdv A outer s H E hr =>
    have tk : Takes (cxOf (L2.CX P w) P w K mg base N_seen "seen" (defScope s_seen) f cdv A outer s H E) (fun cls d _ H' => E cls d H') := takes_of rfl rfl rfl rfl
    (ssx_cons (sx_set 4 sc_seen.nd (ex_meth tk (ed_var 0) T.cl_Fleet h_Fleet_lamps (hr.mono (by decide)) (ad_cons (ed_var 1) ad_nil)))
    (ssx_cons (sx_expr (ex_call tk h_check_point (hr.mono (by decide)) (ad_cons (ed_var 2) (ad_cons ed_str ad_nil))))
    (ssx_cons (sx_expr (ex_call tk h_check_point (hr.mono (by decide)) (ad_cons (ed_var 3) (ad_cons ed_str ad_nil))))
    (ssx_one (sx_lift (sd_ret (ed_callD h_colours_at (hr.mono (by decide)) (ad_cons (ed_var 4) (ad_cons (ed_mod (ed_sub (ed_var 3) (ed_var 2)) (ed_gint T.c_POINTS)) ad_nil)))))))))
abbrev s_looks_of_boat : Stmt := (topS 22)
abbrev ps_looks_of_boat : List Str := ["fleet", "boat"]
theorem sc_looks_of_boat : FnScope N_looks_of_boat ps_looks_of_boat (defScope s_looks_of_boat) := ⟨rfl, rfl, rfl, by decide +kernel, rfl, by decide +kernel, by decide +kernel⟩
theorem tm_looks_of_boat (T : Tx K mg Fleet BadText NoKind BadPoint BadSight Full BadMoment BadBoats BadMany NoFoe LightError) (h_seen : DefAtX P w K mg base "seen" 4 ps_seen (P_seen Fleet NoKind BadPoint)) : ∀ (f : Addr) (cdv : Value) (A : Around) (outer : List Env) (s : Shared) (H : Hp) (E : XK), Room 4 (A.deeper (PyProof.Rows.envOfC "looks_of_boat" (defScope s_looks_of_boat) s.heap.objs.size f cdv)) →
    PSSX (cxOf (L2.CX P w) P w K mg base N_looks_of_boat "looks_of_boat" (defScope s_looks_of_boat) f cdv A outer s H E) (fun cls d _ H' => E cls d H') (defBody s_looks_of_boat) (td_looks_of_boat Fleet NoKind BadPoint) :=
  fun f cdv A outer s H E hr =>
    have tk : Takes (cxOf (L2.CX P w) P w K mg base N_looks_of_boat "looks_of_boat" (defScope s_looks_of_boat) f cdv A outer s H E) (fun cls d _ H' => E cls d H') := takes_of rfl rfl rfl rfl
    (ssx_cons (sx_lift (sd_asg (ed_var 1) (gd_tup rfl (gsd_cons (gd_name 2 sc_looks_of_boat.nd) (gsd_cons (gd_name 3 sc_looks_of_boat.nd) gsd_nil)) rfl)))
    (ssx_one (sx_ret (ex_lc false (own := [("side", 4)]) rfl rfl tk rfl sc_looks_of_boat.nd (blkOk_by (own := [("side", 4)]) (N := N_looks_of_boat) (sc := defScope s_looks_of_boat) (by decide +kernel)) (id_rng1 T.b_range (ad_cons (ed_gint T.c_POINTS) ad_nil)) (fun _ _ _ _ _ _ => gc_name 4 sc_looks_of_boat.nd) (fun _ _ _ _ _ _ => tsd_nil) (fun _ _ _ _ _ _ _ tk => (ex_call tk h_seen (hr.mono (by decide)) (ad_cons (ed_var 0) (ad_cons (ed_var 2) (ad_cons (ed_var 3) (ad_cons (ed_var 4) ad_nil))))))))))
abbrev s_sectors : Stmt := (topS 23)
abbrev ps_sectors : List Str := ["fleet", "kind"]
theorem sc_sectors : FnScope N_sectors ps_sectors (defScope s_sectors) := ⟨rfl, rfl, rfl, by decide +kernel, rfl, by decide +kernel, by decide +kernel⟩
theorem tm_sectors (T : Tx K mg Fleet BadText NoKind BadPoint BadSight Full BadMoment BadBoats BadMany NoFoe LightError) (h_looks_of_boat : DefAtX P w K mg base "looks_of_boat" 5 ps_looks_of_boat (P_looks_of_boat Fleet NoKind)) : ∀ (f : Addr) (cdv : Value) (A : Around) (outer : List Env) (s : Shared) (H : Hp) (E : XK), Room 5 (A.deeper (PyProof.Rows.envOfC "sectors" (defScope s_sectors) s.heap.objs.size f cdv)) →
    PSSX (cxOf (L2.CX P w) P w K mg base N_sectors "sectors" (defScope s_sectors) f cdv A outer s H E) (fun cls d _ H' => E cls d H') (defBody s_sectors) (td_sectors Fleet NoKind) :=
  fun f cdv A outer s H E hr =>
    have tk : Takes (cxOf (L2.CX P w) P w K mg base N_sectors "sectors" (defScope s_sectors) f cdv A outer s H E) (fun cls d _ H' => E cls d H') := takes_of rfl rfl rfl rfl
    (ssx_cons (sx_set 2 sc_sectors.nd (ex_call tk h_looks_of_boat (hr.mono (by decide)) (ad_cons (ed_var 0) (ad_cons (ed_tup (ad_cons (ed_var 1) (ad_cons ed_int ad_nil))) ad_nil))))
    (ssx_cons (sx_lift (sd_setLc false 3 (own := [("bearing", 4)]) rfl sc_sectors.nd rfl rfl (sw_true rfl rfl rfl (by decide +kernel)) (blkOk_by (own := [("bearing", 4)]) (N := N_sectors) (sc := defScope s_sectors) (by decide +kernel)) (id_rng1 T.b_range (ad_cons (ed_gint T.c_POINTS) ad_nil)) (fun _ _ _ _ _ => gc_name 4 sc_sectors.nd) (fun _ _ _ _ _ => tsd_one (td_cmpR (op_neG hr.units) rr_ne (ed_ix (ed_var 2) (ed_var 4)) (ed_ix (ed_var 2) (ed_sub (ed_var 4) ed_int)) (nomark _))) (fun _ _ _ _ _ => (ed_var 4))))
    (ssx_cons (sx_if (td_not (td_tru (ed_var 3))) (ssx_one (sx_lift (sd_ret (ed_lst true (ad_cons (ed_tup (ad_cons ed_int (ad_cons (ed_gint T.c_LAST_POINT) (ad_cons (ed_ix (ed_var 2) ed_int) ad_nil)))) ad_nil))))) ssx_nil)
    (ssx_cons (sx_if (td_cmpR op_gt rr_cmp (ed_ix (ed_var 3) ed_int) ed_int (nomark _)) (ssx_one (sx_lift (sd_set 3 sc_sectors.nd (ed_add false (ed_sl false (ed_var 3) (od_some (ed_neg ed_int)) od_none) (ed_sl false (ed_var 3) od_none (od_some (ed_neg ed_int))))))) ssx_nil)
    (ssx_cons (sx_lift (sd_set 5 sc_sectors.nd (ed_add false (ed_sl false (ed_var 3) (od_some ed_int) od_none) (ed_sl false (ed_var 3) od_none (od_some ed_int)))))
    (ssx_one (sx_lift (sd_ret (ed_lc true (own := [("first", 6), ("after", 7)]) rfl sc_sectors.nd (blkOk_by (own := [("first", 6), ("after", 7)]) (N := N_sectors) (sc := defScope s_sectors) (by decide +kernel)) (id_zip T.b_zip (ad_cons (ed_var 3) (ad_cons (ed_var 5) ad_nil))) (fun _ _ _ _ _ => gc_tup rfl (gsc_cons (gc_name 6 sc_sectors.nd) (gsc_cons (gc_name 7 sc_sectors.nd) gsc_nil)) rfl) (fun _ _ _ _ _ => tsd_nil) (fun _ _ _ _ _ => (ed_tup (ad_cons (ed_var 6) (ad_cons (ed_mod (ed_sub (ed_var 7) ed_int) (ed_gint T.c_POINTS)) (ad_cons (ed_ix (ed_var 2) (ed_var 6)) ad_nil))))))))))))))
abbrev s__law_mixed : Stmt := (topS 28)
abbrev ps__law_mixed : List Str := ["_law_cell", "_law_k"]
theorem sc__law_mixed : FnScope N__law_mixed ps__law_mixed (defScope s__law_mixed) := ⟨rfl, rfl, rfl, by decide +kernel, rfl, by decide +kernel, by decide +kernel⟩
theorem tm__law_mixed (T : Tx K mg Fleet BadText NoKind BadPoint BadSight Full BadMoment BadBoats BadMany NoFoe LightError)  : ∀ (f : Addr) (cdv : Value) (A : Around) (outer : List Env) (s : Shared) (H : Hp) (E : XK), Room 0 (A.deeper (PyProof.Rows.envOfC "_law_mixed" (defScope s__law_mixed) s.heap.objs.size f cdv)) →
    PSSD (cxOf CX0 P w K mg base N__law_mixed "_law_mixed" (defScope s__law_mixed) f cdv A outer s H E).nox (defBody s__law_mixed) (td__law_mixed ) :=
  fun f cdv A outer s H E hr => (ssd_cons (sd_set 2 sc__law_mixed.nd (ed_add false (ed_add false (ed_mod (ed_mul false (ed_mul false (ed_var 0) (ed_add false ed_int (ed_mul false ed_int (ed_var 1)))) ed_int) ed_int) (ed_mul false (ed_mul false ed_int (ed_var 1)) (ed_var 1))) (ed_mul false ed_int (ed_var 1))))
    (ssd_one (sd_ret (ed_fdiv (ed_mod (ed_mul false (ed_var 2) ed_int) ed_int) ed_int))))
abbrev s__law_folded : Stmt := (topS 29)
abbrev ps__law_folded : List Str := ["_law_script"]
theorem sc__law_folded : FnScope N__law_folded ps__law_folded (defScope s__law_folded) := ⟨rfl, rfl, rfl, by decide +kernel, rfl, by decide +kernel, by decide +kernel⟩
theorem tm__law_folded (T : Tx K mg Fleet BadText NoKind BadPoint BadSight Full BadMoment BadBoats BadMany NoFoe LightError)  : ∀ (f : Addr) (cdv : Value) (A : Around) (outer : List Env) (s : Shared) (H : Hp) (E : XK), Room 0 (A.deeper (PyProof.Rows.envOfC "_law_folded" (defScope s__law_folded) s.heap.objs.size f cdv)) →
    PSSD (cxOf CX0 P w K mg base N__law_folded "_law_folded" (defScope s__law_folded) f cdv A outer s H E).nox (defBody s__law_folded) (td__law_folded ) :=
  fun f cdv A outer s H E hr => (ssd_cons (sd_setLc true 1 (own := [("_law_k", 2)]) rfl sc__law_folded.nd rfl rfl (sw_true rfl rfl rfl (by decide +kernel)) (blkOk_by (own := [("_law_k", 2)]) (N := N__law_folded) (sc := defScope s__law_folded) (by decide +kernel)) (id_rng1 T.b_range (ad_cons ed_int ad_nil)) (fun _ _ _ _ _ => gc_name 2 sc__law_folded.nd) (fun _ _ _ _ _ => tsd_nil) (fun _ _ _ _ _ => (ed_add false ed_int (ed_var 2))))
    (ssd_cons (sd_for PassesOwn.never rfl (id_enumS T.b_enumerate (ad_cons (ed_var 0) ad_nil)) (gd_tup rfl (gsd_cons (gd_name 2 sc__law_folded.nd) (gsd_cons (gd_name 3 sc__law_folded.nd) gsd_nil)) rfl) (ssd_one (sd_asg (ed_mod (ed_add false (ed_mul false (ed_ix (ed_var 1) (ed_mod (ed_var 2) ed_int)) ed_int) (ed_var 3)) ed_int) (gd_sub (ed_var 1) (ed_mod (ed_var 2) ed_int)))))
    (ssd_cons (sd_for PassesOwn.never rfl (id_rng2 T.b_range (ad_cons ed_int (ad_cons ed_int ad_nil))) (gd_name 2 sc__law_folded.nd) (ssd_one (sd_asg (ed_mod (ed_add false (ed_ix (ed_var 1) (ed_var 2)) (ed_mul false (ed_ix (ed_var 1) (ed_sub (ed_var 2) ed_int)) ed_int)) ed_int) (gd_sub (ed_var 1) (ed_var 2)))))
    (ssd_one (sd_ret (ed_var 1))))))
abbrev s__law_draw : Stmt := (topS 30)
abbrev ps__law_draw : List Str := ["_law_m", "_law_many"]
theorem sc__law_draw : FnScope N__law_draw ps__law_draw (defScope s__law_draw) := ⟨rfl, rfl, rfl, by decide +kernel, rfl, by decide +kernel, by decide +kernel⟩
theorem tm__law_draw (T : Tx K mg Fleet BadText NoKind BadPoint BadSight Full BadMoment BadBoats BadMany NoFoe LightError) (h__law_mixed : DefAt P w K mg base "_law_mixed" 1 ps__law_mixed P__law_mixed) : ∀ (f : Addr) (cdv : Value) (A : Around) (outer : List Env) (s : Shared) (H : Hp) (E : XK), Room 1 (A.deeper (PyProof.Rows.envOfC "_law_draw" (defScope s__law_draw) s.heap.objs.size f cdv)) →
    PSSD (cxOf CX0 P w K mg base N__law_draw "_law_draw" (defScope s__law_draw) f cdv A outer s H E).nox (defBody s__law_draw) (td__law_draw ) :=
  fun f cdv A outer s H E hr => (ssd_cons (sd_set 2 sc__law_draw.nd (ed_dget (hu_of hr) (ed_var 0) ed_str))
    (ssd_cons (sd_dput (hu_of hr) (ed_var 0) ed_str (ed_add false (ed_var 2) ed_int))
    (ssd_cons (sd_if (td_cmpR (op_neG hr.units) rr_ne (ed_dget (hu_of hr) (ed_var 0) ed_str) (ed_lst false ad_nil) (nomark _)) (ssd_cons (sd_set 3 sc__law_draw.nd (ed_mod (ed_var 2) (ed_callB call_lenG rl_len T.b_len PySem.boot_len (ad_cons (ed_dget (hu_of hr) (ed_var 0) ed_str) ad_nil))))
    (ssd_cons (sd_set 4 sc__law_draw.nd (ed_ix (ed_dget (hu_of hr) (ed_var 0) ed_str) (ed_var 3)))
    (ssd_cons (sd_asg (ed_fdiv (ed_var 4) (ed_var 1)) (gd_sub (ed_dget (hu_of hr) (ed_var 0) ed_str) (ed_var 3)))
    (ssd_one (sd_ret (ed_mod (ed_var 4) (ed_var 1))))))) ssd_nil)
    (ssd_one (sd_ret (ed_mod (ed_callD h__law_mixed (hr.mono (by decide)) (ad_cons (ed_callD h__law_mixed (hr.mono (by decide)) (ad_cons (ed_add false (ed_ix (ed_dget (hu_of hr) (ed_var 0) ed_str) (ed_mod (ed_var 2) ed_int)) (ed_mul false ed_int (ed_fdiv (ed_var 2) ed_int))) (ad_cons (ed_var 2) ad_nil))) (ad_cons (ed_add false (ed_var 2) ed_int) ad_nil))) (ed_var 1)))))))
abbrev s__law_names : Stmt := (topS 31)
abbrev ps__law_names : List Str := ["_law_cell", "_law_many"]
theorem sc__law_names : FnScope N__law_names ps__law_names (defScope s__law_names) := ⟨rfl, rfl, rfl, by decide +kernel, rfl, by decide +kernel, by decide +kernel⟩
theorem tm__law_names (T : Tx K mg Fleet BadText NoKind BadPoint BadSight Full BadMoment BadBoats BadMany NoFoe LightError)  : ∀ (f : Addr) (cdv : Value) (A : Around) (outer : List Env) (s : Shared) (H : Hp) (E : XK), Room 0 (A.deeper (PyProof.Rows.envOfC "_law_names" (defScope s__law_names) s.heap.objs.size f cdv)) →
    PSSD (cxOf CX0 P w K mg base N__law_names "_law_names" (defScope s__law_names) f cdv A outer s H E).nox (defBody s__law_names) (td__law_names ) :=
  fun f cdv A outer s H E hr => (ssd_cons (sd_set 2 sc__law_names.nd ed_str)
    (ssd_cons (sd_if (td_cmpR (op_eqG hr.units) rr_eq (ed_mod (ed_var 0) ed_int) ed_int (nomark _)) (ssd_one (sd_ret (ed_lc false (own := [("_law_k", 3)]) rfl sc__law_names.nd (blkOk_by (own := [("_law_k", 3)]) (N := N__law_names) (sc := defScope s__law_names) (by decide +kernel)) (id_rng1 T.b_range (ad_cons (ed_var 1) ad_nil)) (fun _ _ _ _ _ => gc_name 3 sc__law_names.nd) (fun _ _ _ _ _ => tsd_nil) (fun _ _ _ _ _ => (ed_mul false (ed_ix (ed_var 2) (ed_mod (ed_sub (ed_fdiv (ed_var 0) ed_int) (ed_var 3)) ed_int)) (ed_add false ed_int (ed_var 3))))))) ssd_nil)
    (ssd_cons (sd_set 4 sc__law_names.nd (ed_add false ed_int (ed_mod (ed_fdiv (ed_var 0) ed_int) ed_int)))
    (ssd_cons (sd_set 5 sc__law_names.nd (ed_ix (ed_lst false (ad_cons (ed_mod (ed_fdiv (ed_var 0) ed_int) (ed_var 4)) (ad_cons ed_int (ad_cons (ed_sub (ed_var 4) ed_int) ad_nil)))) (ed_mod (ed_var 0) ed_int)))
    (ssd_cons (sd_setLc false 6 (own := [("_law_j", 7)]) rfl sc__law_names.nd rfl rfl (sw_true rfl rfl rfl (by decide +kernel)) (blkOk_by (own := [("_law_j", 7)]) (N := N__law_names) (sc := defScope s__law_names) (by decide +kernel)) (id_rng1 T.b_range (ad_cons ed_int ad_nil)) (fun _ _ _ _ _ => gc_name 7 sc__law_names.nd) (fun _ _ _ _ _ => tsd_nil) (fun _ _ _ _ _ => (ed_ix (ed_var 2) (ed_mod (ed_add false (ed_fdiv (ed_var 0) ed_int) (ed_mul false ed_int (ed_var 7))) ed_int))))
    (ssd_cons (sd_set 8 sc__law_names.nd (ed_lst true ad_nil))
    (ssd_cons (sd_for PassesOwn.never rfl (id_rng1 T.b_range (ad_cons (ed_var 1) ad_nil)) (gd_name 3 sc__law_names.nd) (ssd_cons (sd_set 9 sc__law_names.nd (ed_ix (ed_var 2) (ed_mod (ed_add false (ed_fdiv (ed_var 0) ed_int) (ed_var 3)) ed_int)))
    (ssd_one (sd_expr (ed_append (ed_var 8) (ad_cons (ed_join ed_str (ed_add false (ed_add false (ed_sl false (ed_var 6) od_none (od_some (ed_var 5))) (ed_lst false (ad_cons (ed_var 9) ad_nil))) (ed_sl false (ed_var 6) (od_some (ed_add false (ed_var 5) ed_int)) (od_some (ed_var 4))))) ad_nil))))))
    (ssd_cons (sd_set 10 sc__law_names.nd (ed_lst false (ad_cons ed_str (ad_cons ed_str (ad_cons ed_str (ad_cons ed_str ad_nil))))))
    (ssd_cons (sd_if (td_cmpR (op_neG hr.units) rr_ne (ed_lc false (own := [("_law_name", 11)]) rfl sc__law_names.nd (blkOk_by (own := [("_law_name", 11)]) (N := N__law_names) (sc := defScope s__law_names) (by decide +kernel)) (id_seq (ed_var 8)) (fun _ _ _ _ _ => gc_name 11 sc__law_names.nd) (fun _ _ _ _ _ => tsd_one (td_cmpR op_inG rr_in (ed_var 11) (ed_var 10) (by rfl))) (fun _ _ _ _ _ => (ed_var 11))) (ed_lst false ad_nil) (nomark _)) (ssd_one (sd_ret (ed_lc false (own := [("_law_k", 3)]) rfl sc__law_names.nd (blkOk_by (own := [("_law_k", 3)]) (N := N__law_names) (sc := defScope s__law_names) (by decide +kernel)) (id_rng1 T.b_range (ad_cons (ed_var 1) ad_nil)) (fun _ _ _ _ _ => gc_name 3 sc__law_names.nd) (fun _ _ _ _ _ => tsd_nil) (fun _ _ _ _ _ => (ed_add false ed_str (ed_ix (ed_var 2) (ed_var 3))))))) ssd_nil)
    (ssd_one (sd_ret (ed_var 8))))))))))))
abbrev s__law_lamp : Stmt := (topS 32)
abbrev ps__law_lamp : List Str := ["_law_m", "_law_colours"]
theorem sc__law_lamp : FnScope N__law_lamp ps__law_lamp (defScope s__law_lamp) := ⟨rfl, rfl, rfl, by decide +kernel, rfl, by decide +kernel, by decide +kernel⟩
theorem tm__law_lamp (T : Tx K mg Fleet BadText NoKind BadPoint BadSight Full BadMoment BadBoats BadMany NoFoe LightError) (h__law_draw : DefAt P w K mg base "_law_draw" 2 ps__law_draw P__law_draw) : ∀ (f : Addr) (cdv : Value) (A : Around) (outer : List Env) (s : Shared) (H : Hp) (E : XK), Room 2 (A.deeper (PyProof.Rows.envOfC "_law_lamp" (defScope s__law_lamp) s.heap.objs.size f cdv)) →
    PSSD (cxOf CX0 P w K mg base N__law_lamp "_law_lamp" (defScope s__law_lamp) f cdv A outer s H E).nox (defBody s__law_lamp) (td__law_lamp ) :=
  fun f cdv A outer s H E hr => (ssd_cons (sd_set 2 sc__law_lamp.nd (ed_callD h__law_draw (hr.mono (by decide)) (ad_cons (ed_var 0) (ad_cons ed_int ad_nil))))
    (ssd_cons (sd_set 3 sc__law_lamp.nd (ed_ix (ed_lst false (ad_cons ed_int (ad_cons ed_int (ad_cons ed_int (ad_cons ed_int (ad_cons ed_int (ad_cons ed_int (ad_cons (ed_callD h__law_draw (hr.mono (by decide)) (ad_cons (ed_var 0) (ad_cons ed_int ad_nil))) ad_nil)))))))) (ed_callD h__law_draw (hr.mono (by decide)) (ad_cons (ed_var 0) (ad_cons ed_int ad_nil)))))
    (ssd_one (sd_ret (ed_tup (ad_cons (ed_ix (ed_var 1) (ed_callD h__law_draw (hr.mono (by decide)) (ad_cons (ed_var 0) (ad_cons (ed_callB call_lenG rl_len T.b_len PySem.boot_len (ad_cons (ed_var 1) ad_nil)) ad_nil)))) (ad_cons (ed_var 2) (ad_cons (ed_mod (ed_add false (ed_var 2) (ed_var 3)) ed_int) ad_nil))))))))
abbrev s__law_lamps : Stmt := (topS 33)
abbrev ps__law_lamps : List Str := ["_law_m", "_law_colours", "_law_rows"]
theorem sc__law_lamps : FnScope N__law_lamps ps__law_lamps (defScope s__law_lamps) := ⟨rfl, rfl, rfl, by decide +kernel, rfl, by decide +kernel, by decide +kernel⟩
theorem tm__law_lamps (T : Tx K mg Fleet BadText NoKind BadPoint BadSight Full BadMoment BadBoats BadMany NoFoe LightError) (h__law_draw : DefAt P w K mg base "_law_draw" 2 ps__law_draw P__law_draw) (h__law_lamp : DefAt P w K mg base "_law_lamp" 3 ps__law_lamp P__law_lamp) : ∀ (f : Addr) (cdv : Value) (A : Around) (outer : List Env) (s : Shared) (H : Hp) (E : XK), Room 3 (A.deeper (PyProof.Rows.envOfC "_law_lamps" (defScope s__law_lamps) s.heap.objs.size f cdv)) →
    PSSD (cxOf CX0 P w K mg base N__law_lamps "_law_lamps" (defScope s__law_lamps) f cdv A outer s H E).nox (defBody s__law_lamps) (td__law_lamps ) :=
  fun f cdv A outer s H E hr => (ssd_cons (sd_if (td_w (wd_or (td_cmpR (op_eqG hr.units) rr_eq (ed_var 2) (ed_lst false ad_nil) (nomark _)) (wd_or1 (td_cmpR op_lt rr_cmp (ed_callD h__law_draw (hr.mono (by decide)) (ad_cons (ed_var 0) (ad_cons ed_int ad_nil))) ed_int (nomark _))))) (ssd_one (sd_ret (ed_callTy call_tuple_of rl_tupOf T.b_tuple PyProof.Rows.boot_tuple (ad_cons (ed_lc false (own := [("_law_k", 3)]) rfl sc__law_lamps.nd (blkOk_by (own := [("_law_k", 3)]) (N := N__law_lamps) (sc := defScope s__law_lamps) (by decide +kernel)) (id_rng1 T.b_range (ad_cons (ed_add false ed_int (ed_callD h__law_draw (hr.mono (by decide)) (ad_cons (ed_var 0) (ad_cons ed_int ad_nil)))) ad_nil)) (fun _ _ _ _ _ => gc_name 3 sc__law_lamps.nd) (fun _ _ _ _ _ => tsd_nil) (fun _ _ _ _ _ => (ed_callD h__law_lamp (hr.mono (by decide)) (ad_cons (ed_var 0) (ad_cons (ed_var 1) ad_nil))))) ad_nil)))) ssd_nil)
    (ssd_cons (sd_set 4 sc__law_lamps.nd (ed_callTy call_list_of rl_listOf T.b_list PyProof.Rows.boot_list (ad_cons (ed_ix (ed_ix (ed_var 2) (ed_callD h__law_draw (hr.mono (by decide)) (ad_cons (ed_var 0) (ad_cons (ed_callB call_lenG rl_len T.b_len PySem.boot_len (ad_cons (ed_var 2) ad_nil)) ad_nil)))) ed_int) ad_nil)))
    (ssd_cons (sd_set 5 sc__law_lamps.nd (ed_callD h__law_draw (hr.mono (by decide)) (ad_cons (ed_var 0) (ad_cons (ed_callB call_lenG rl_len T.b_len PySem.boot_len (ad_cons (ed_var 4) ad_nil)) ad_nil))))
    (ssd_cons (sd_set 6 sc__law_lamps.nd (ed_callD h__law_draw (hr.mono (by decide)) (ad_cons (ed_var 0) (ad_cons ed_int ad_nil))))
    (ssd_cons (sd_if (td_w (wd_and (td_cmpR (op_eqG hr.units) rr_eq (ed_var 6) ed_int (nomark _)) (wd_and1 (td_cmpR op_lt rr_cmp (ed_callB call_lenG rl_len T.b_len PySem.boot_len (ad_cons (ed_var 4) ad_nil)) ed_int (nomark _))))) (ssd_one (sd_expr (ed_bml PySem.F.plainAttrs_list PySem.F.slot_list_insert PySem.F.type_list_insert mt_insert rm_insert (ed_var 4) (ad_cons (ed_var 5) (ad_cons (ed_callD h__law_lamp (hr.mono (by decide)) (ad_cons (ed_var 0) (ad_cons (ed_var 1) ad_nil))) ad_nil))))) (ssd_one (sd_if (td_w (wd_and (td_cmpR (op_eqG hr.units) rr_eq (ed_var 6) ed_int (nomark _)) (wd_and1 (td_cmpR op_gt rr_cmp (ed_callB call_lenG rl_len T.b_len PySem.boot_len (ad_cons (ed_var 4) ad_nil)) ed_int (nomark _))))) (ssd_one (sd_expr (ed_bml PySem.F.plainAttrs_list PySem.F.slot_list_pop PySem.F.type_list_pop mt_popAt rm_popAt (ed_var 4) (ad_cons (ed_var 5) ad_nil)))) (ssd_one (sd_if (td_cmpR (op_eqG hr.units) rr_eq (ed_var 6) ed_int (nomark _)) (ssd_cons (sd_asg (ed_ix (ed_var 4) (ed_var 5)) (gd_tup rfl (gsd_cons (gd_name 7 sc__law_lamps.nd) (gsd_cons (gd_name 8 sc__law_lamps.nd) (gsd_cons (gd_name 9 sc__law_lamps.nd) gsd_nil))) rfl))
    (ssd_one (sd_asg (ed_tup (ad_cons (ed_var 7) (ad_cons (ed_var 8) (ad_cons (ed_mod (ed_add false (ed_add false (ed_var 9) ed_int) (ed_callD h__law_draw (hr.mono (by decide)) (ad_cons (ed_var 0) (ad_cons ed_int ad_nil)))) ed_int) ad_nil)))) (gd_sub (ed_var 4) (ed_var 5))))) (ssd_one (sd_asg (ed_callD h__law_lamp (hr.mono (by decide)) (ad_cons (ed_var 0) (ad_cons (ed_var 1) ad_nil))) (gd_sub (ed_var 4) (ed_var 5)))))))))
    (ssd_one (sd_ret (ed_callTy call_tuple_of rl_tupOf T.b_tuple PyProof.Rows.boot_tuple (ad_cons (ed_var 4) ad_nil)))))))))
abbrev s__law_fleet : Stmt := (topS 34)
abbrev ps__law_fleet : List Str := ["_law_m"]
theorem sc__law_fleet : FnScope N__law_fleet ps__law_fleet (defScope s__law_fleet) := ⟨rfl, rfl, rfl, by decide +kernel, rfl, by decide +kernel, by decide +kernel⟩
theorem tm__law_fleet (T : Tx K mg Fleet BadText NoKind BadPoint BadSight Full BadMoment BadBoats BadMany NoFoe LightError) (h__law_draw : DefAt P w K mg base "_law_draw" 2 ps__law_draw P__law_draw) (h__law_lamps : DefAt P w K mg base "_law_lamps" 4 ps__law_lamps P__law_lamps) : ∀ (f : Addr) (cdv : Value) (A : Around) (outer : List Env) (s : Shared) (H : Hp) (E : XK), Room 4 (A.deeper (PyProof.Rows.envOfC "_law_fleet" (defScope s__law_fleet) s.heap.objs.size f cdv)) →
    PSSD (cxOf CX0 P w K mg base N__law_fleet "_law_fleet" (defScope s__law_fleet) f cdv A outer s H E).nox (defBody s__law_fleet) (td__law_fleet ) :=
  fun f cdv A outer s H E hr => (ssd_cons (sd_set 1 sc__law_fleet.nd (ed_callTy call_int1 rl_int T.b_int PyProof.Rows.boot_int (ad_cons (ed_cmpR (op_eqG hr.units) rr_eq (ed_callD h__law_draw (hr.mono (by decide)) (ad_cons (ed_var 0) (ad_cons ed_int ad_nil))) ed_int (nomark _)) ad_nil)))
    (ssd_cons (sd_set 2 sc__law_fleet.nd (ed_callTy call_tuple_of rl_tupOf T.b_tuple PyProof.Rows.boot_tuple (ad_cons (ed_sl false (ed_dget (hu_of hr) (ed_var 0) ed_str) od_none (od_some (ed_add false ed_int (ed_callD h__law_draw (hr.mono (by decide)) (ad_cons (ed_var 0) (ad_cons (ed_ix (ed_lst false (ad_cons ed_int (ad_cons ed_int ad_nil))) (ed_var 1)) ad_nil)))))) ad_nil)))
    (ssd_cons (sd_set 3 sc__law_fleet.nd (ed_lst true ad_nil))
    (ssd_cons (sd_for PassesOwn.never rfl (id_seq (ed_sl false (ed_dget (hu_of hr) (ed_var 0) ed_str) od_none (od_some (ed_add false ed_int (ed_callD h__law_draw (hr.mono (by decide)) (ad_cons (ed_var 0) (ad_cons (ed_ix (ed_lst false (ad_cons ed_int (ad_cons ed_int ad_nil))) (ed_var 1)) ad_nil))))))) (gd_name 4 sc__law_fleet.nd) (ssd_cons (sd_set 5 sc__law_fleet.nd (ed_ix (ed_lst false (ad_cons ed_int (ad_cons ed_int (ad_cons ed_int (ad_cons ed_int (ad_cons ed_int (ad_cons (ed_callD h__law_draw (hr.mono (by decide)) (ad_cons (ed_var 0) (ad_cons ed_int ad_nil))) ad_nil))))))) (ed_callD h__law_draw (hr.mono (by decide)) (ad_cons (ed_var 0) (ad_cons ed_int ad_nil)))))
    (ssd_one (sd_expr (ed_append (ed_var 3) (ad_cons (ed_tup (ad_cons (ed_var 4) (ad_cons (ed_var 5) (ad_cons (ed_callD h__law_lamps (hr.mono (by decide)) (ad_cons (ed_var 0) (ad_cons (ed_var 2) (ad_cons (ed_var 3) ad_nil)))) ad_nil)))) ad_nil))))))
    (ssd_one (sd_ret (ed_tup (ad_cons (ed_var 2) (ad_cons (ed_callTy call_tuple_of rl_tupOf T.b_tuple PyProof.Rows.boot_tuple (ad_cons (ed_var 3) ad_nil)) ad_nil)))))))))
abbrev s__law_begun : Stmt := (topS 35)
abbrev ps__law_begun : List Str := ["_law_script"]
theorem sc__law_begun : FnScope N__law_begun ps__law_begun (defScope s__law_begun) := ⟨rfl, rfl, rfl, by decide +kernel, rfl, by decide +kernel, by decide +kernel⟩
theorem tm__law_begun (T : Tx K mg Fleet BadText NoKind BadPoint BadSight Full BadMoment BadBoats BadMany NoFoe LightError) (h__law_folded : DefAt P w K mg base "_law_folded" 1 ps__law_folded P__law_folded) (h__law_draw : DefAt P w K mg base "_law_draw" 2 ps__law_draw P__law_draw) (h__law_names : DefAt P w K mg base "_law_names" 1 ps__law_names P__law_names) : ∀ (f : Addr) (cdv : Value) (A : Around) (outer : List Env) (s : Shared) (H : Hp) (E : XK), Room 2 (A.deeper (PyProof.Rows.envOfC "_law_begun" (defScope s__law_begun) s.heap.objs.size f cdv)) →
    PSSD (cxOf CX0 P w K mg base N__law_begun "_law_begun" (defScope s__law_begun) f cdv A outer s H E).nox (defBody s__law_begun) (td__law_begun ) :=
  fun f cdv A outer s H E hr => (ssd_cons (sd_set 1 sc__law_begun.nd (ed_disp (ppd_cons ed_str (ed_callD h__law_folded (hr.mono (by decide)) (ad_cons (ed_var 0) ad_nil)) (ppd_cons ed_str (ed_lst true ad_nil) (ppd_cons ed_str ed_int ppd_nil))) (by rfl) (by rfl) (fun z => by cases z) (by decide)))
    (ssd_cons (sd_if (td_w (wd_and (td_cmpR (op_neG hr.units) rr_ne (ed_var 0) (ed_lst false ad_nil) (nomark _)) (wd_and1 (td_cmpR (op_eqG hr.units) rr_eq (ed_mod (ed_ix (ed_var 0) ed_int) ed_int) ed_int (nomark _))))) (ssd_one (sd_dput (hu_of hr) (ed_var 1) ed_str (ed_add true (ed_lst false (ad_cons (ed_fdiv (ed_ix (ed_var 0) ed_int) ed_int) ad_nil)) (ed_sl false (ed_var 0) (od_some ed_int) od_none)))) ssd_nil)
    (ssd_cons (sd_setLc false 2 (own := [("_law_k", 3)]) rfl sc__law_begun.nd rfl rfl (sw_true rfl rfl rfl (by decide +kernel)) (blkOk_by (own := [("_law_k", 3)]) (N := N__law_begun) (sc := defScope s__law_begun) (by decide +kernel)) (id_rng1 T.b_range (ad_cons ed_int ad_nil)) (fun _ _ _ _ _ => gc_name 3 sc__law_begun.nd) (fun _ _ _ _ _ => tsd_nil) (fun _ _ _ _ _ => (ed_callD h__law_draw (hr.mono (by decide)) (ad_cons (ed_var 1) (ad_cons (ed_pow ed_int ed_int) ad_nil)))))
    (ssd_cons (sd_if (td_cmpR (op_eqG hr.units) rr_eq (ed_callD h__law_draw (hr.mono (by decide)) (ad_cons (ed_var 1) (ad_cons ed_int ad_nil))) ed_int (nomark _)) (ssd_one (sd_set 2 sc__law_begun.nd (ed_mul false (ed_sl false (ed_var 2) od_none (od_some ed_int)) ed_int))) ssd_nil)
    (ssd_cons (sd_dput (hu_of hr) (ed_var 1) ed_str (ed_callD h__law_names (hr.mono (by decide)) (ad_cons (ed_ix (ed_var 2) ed_int) (ad_cons ed_int ad_nil))))
    (ssd_cons (sd_dput (hu_of hr) (ed_var 1) ed_str (ed_callD h__law_names (hr.mono (by decide)) (ad_cons (ed_ix (ed_var 2) ed_int) (ad_cons ed_int ad_nil))))
    (ssd_one (sd_ret (ed_var 1)))))))))
abbrev s__law_word : Stmt := (topS 36)
abbrev ps__law_word : List Str := ["_law_e"]
theorem sc__law_word : FnScope N__law_word ps__law_word (defScope s__law_word) := ⟨rfl, rfl, rfl, by decide +kernel, rfl, by decide +kernel, by decide +kernel⟩
theorem tm__law_word (T : Tx K mg Fleet BadText NoKind BadPoint BadSight Full BadMoment BadBoats BadMany NoFoe LightError) (iok : IsaOk K isa) : ∀ (f : Addr) (cdv : Value) (A : Around) (outer : List Env) (s : Shared) (H : Hp) (E : XK), Room 0 (A.deeper (PyProof.Rows.envOfC "_law_word" (defScope s__law_word) s.heap.objs.size f cdv)) →
    PSSD (cxOf CX0 P w K mg base N__law_word "_law_word" (defScope s__law_word) f cdv A outer s H E).nox (defBody s__law_word) (td__law_word isa BadPoint NoKind BadText Full BadSight BadBoats BadMoment NoFoe BadMany) :=
  fun f cdv A outer s H E hr => (ssd_cons (sd_set 1 sc__law_word.nd (ed_lst false (ad_cons (ed_tup (ad_cons ed_str (ad_cons (ed_callB call_isD (rl_isi iok) T.b_isinstance PyProof.Rows.boot_isinstance (ad_cons (ed_var 0) (ad_cons (ed_gref ⟨T.o_BadText, fun _ => rfl⟩) ad_nil))) ad_nil))) (ad_cons (ed_tup (ad_cons ed_str (ad_cons (ed_callB call_isD (rl_isi iok) T.b_isinstance PyProof.Rows.boot_isinstance (ad_cons (ed_var 0) (ad_cons (ed_gref ⟨T.o_NoKind, fun _ => rfl⟩) ad_nil))) ad_nil))) (ad_cons (ed_tup (ad_cons ed_str (ad_cons (ed_callB call_isD (rl_isi iok) T.b_isinstance PyProof.Rows.boot_isinstance (ad_cons (ed_var 0) (ad_cons (ed_gref ⟨T.o_BadPoint, fun _ => rfl⟩) ad_nil))) ad_nil))) ad_nil)))))
    (ssd_cons (sd_set 1 sc__law_word.nd (ed_add false (ed_var 1) (ed_lst false (ad_cons (ed_tup (ad_cons ed_str (ad_cons (ed_callB call_isD (rl_isi iok) T.b_isinstance PyProof.Rows.boot_isinstance (ad_cons (ed_var 0) (ad_cons (ed_gref ⟨T.o_BadSight, fun _ => rfl⟩) ad_nil))) ad_nil))) (ad_cons (ed_tup (ad_cons ed_str (ad_cons (ed_callB call_isD (rl_isi iok) T.b_isinstance PyProof.Rows.boot_isinstance (ad_cons (ed_var 0) (ad_cons (ed_gref ⟨T.o_Full, fun _ => rfl⟩) ad_nil))) ad_nil))) ad_nil)))))
    (ssd_cons (sd_set 1 sc__law_word.nd (ed_add false (ed_var 1) (ed_lst false (ad_cons (ed_tup (ad_cons ed_str (ad_cons (ed_callB call_isD (rl_isi iok) T.b_isinstance PyProof.Rows.boot_isinstance (ad_cons (ed_var 0) (ad_cons (ed_gref ⟨T.o_BadMoment, fun _ => rfl⟩) ad_nil))) ad_nil))) (ad_cons (ed_tup (ad_cons ed_str (ad_cons (ed_callB call_isD (rl_isi iok) T.b_isinstance PyProof.Rows.boot_isinstance (ad_cons (ed_var 0) (ad_cons (ed_gref ⟨T.o_BadBoats, fun _ => rfl⟩) ad_nil))) ad_nil))) ad_nil)))))
    (ssd_cons (sd_set 1 sc__law_word.nd (ed_add false (ed_var 1) (ed_lst false (ad_cons (ed_tup (ad_cons ed_str (ad_cons (ed_callB call_isD (rl_isi iok) T.b_isinstance PyProof.Rows.boot_isinstance (ad_cons (ed_var 0) (ad_cons (ed_gref ⟨T.o_BadMany, fun _ => rfl⟩) ad_nil))) ad_nil))) (ad_cons (ed_tup (ad_cons ed_str (ad_cons (ed_callB call_isD (rl_isi iok) T.b_isinstance PyProof.Rows.boot_isinstance (ad_cons (ed_var 0) (ad_cons (ed_gref ⟨T.o_NoFoe, fun _ => rfl⟩) ad_nil))) ad_nil))) ad_nil)))))
    (ssd_cons (sd_set 2 sc__law_word.nd (ed_add false (ed_lc false (own := [("_law_word_here", 3), ("_law_is_it", 4)]) rfl sc__law_word.nd (blkOk_by (own := [("_law_word_here", 3), ("_law_is_it", 4)]) (N := N__law_word) (sc := defScope s__law_word) (by decide +kernel)) (id_seq (ed_var 1)) (fun _ _ _ _ _ => gc_tup rfl (gsc_cons (gc_name 3 sc__law_word.nd) (gsc_cons (gc_name 4 sc__law_word.nd) gsc_nil)) rfl) (fun _ _ _ _ _ => tsd_one (td_tru (ed_var 4))) (fun _ _ _ _ _ => (ed_var 3))) (ed_mul false (ed_lst false (ad_cons ed_str ad_nil)) (ed_callTy call_int1 rl_int T.b_int PyProof.Rows.boot_int (ad_cons (ed_not (ed_callB call_isD (rl_isi iok) T.b_isinstance PyProof.Rows.boot_isinstance (ad_cons (ed_var 0) (ad_cons (ed_blt T.b_ValueError boot_ValueError) ad_nil)))) ad_nil)))))
    (ssd_one (sd_ret (ed_join ed_str (ed_var 2)))))))))
abbrev s__law_lost : Stmt := (topS 37)
abbrev ps__law_lost : List Str := ["_law_deed"]
theorem sc__law_lost : FnScope N__law_lost ps__law_lost (defScope s__law_lost) := ⟨rfl, rfl, rfl, by decide +kernel, rfl, by decide +kernel, by decide +kernel⟩
theorem tm__law_lost_ret (T : Tx K mg Fleet BadText NoKind BadPoint BadSight Full BadMoment BadBoats BadMany NoFoe LightError) (h__law_word : DefAt P w K mg base "_law_word" 1 ps__law_word (P__law_word BadText NoKind BadPoint BadSight Full BadMoment BadBoats BadMany NoFoe)) {X : Cx} {g : Addr} {cdg : Value} (hx : X.prog = P ∧ X.w = w ∧ X.K = K ∧ X.mg = mg ∧ X.base = base) (s : Shared) (H : Hp) (hr : Room 1 (X.A.deeper (PyProof.Rows.envOfC "_law_lost" (defScope s__law_lost) s.heap.objs.size g cdg))) :
    PSSD (cxOf C8.CX0 X.prog X.w X.K X.mg X.base N__law_lost "_law_lost" (defScope s__law_lost) g cdg X.A X.stack s H C8.E0).nox [(defBody s__law_lost).getD 2 (.Pass ⟨0, 0, 0, 0⟩)] (td__law_lost_ret BadText NoKind BadPoint BadSight Full BadMoment BadBoats BadMany NoFoe) := by
  obtain ⟨rfl, rfl, rfl, rfl, rfl⟩ := hx
  exact ssd_one (sd_ret (ed_if (td_cmpR op_isN rr_isN (ed_var 1) ed_non (nomark _)) ed_str (ed_callD h__law_word (hr.mono (by decide)) (ad_cons (ed_var 1) ad_nil))))
/-- the lambda handed to the def that keeps what it raises -/
theorem lost_at {X : Cx} {params : Arguments} {body : Expr} {sc scope : Scope} {p lpos pos : Pos} {k : Nat} {c Pa : Addr} {T : List (Addr × Str)} {cat : Addr → Option Bool} {tl : TDX} {Fleet BadText NoKind BadPoint BadSight Full BadMoment BadBoats BadMany NoFoe LightError : Addr}
    (TX : Tx X.K X.mg Fleet BadText NoKind BadPoint BadSight Full BadMoment BadBoats BadMany NoFoe LightError) (HL : Here X.K X.mg "_law_lost" "_law_lost" s__law_lost ps__law_lost) (hw : DefAt X.prog X.w X.K X.mg X.base "_law_word" 1 ps__law_word (P__law_word BadText NoKind BadPoint BadSight Full BadMoment BadBoats BadMany NoFoe)) (LE : X.mg "LightError" = some (.ref LightError)) (hcat : ∀ C b, cat C = some b → PySem.W.exmOne X.K (.ref C) (.ref LightError) = some b)
    (TB : LamX.TabB X.base X.mg c Pa) (hcode : X.env.code = .ref c) (hmT : (Pa, X.env.qual ++ "<lambda>") ∈ T) (hu : ∀ p ∈ T, p.1 = Pa → p.2 = X.env.qual ++ "<lambda>") (hr : Room (k + 2) X.A)
    (hbody : ∀ (A : Around) (outer : List Env) (s : Shared) (H : Hp) (E : XK) (f c' : Addr), Room k (A.deeper (LamX.lamEnv X scope s.heap.objs.size f c')) → Takes (LamX.lamCx X A outer s H E scope f c') (fun cls d _ H' => E cls d H') → PEX (LamX.lamCx X A outer s H E scope f c') (fun cls d _ H' => E cls d H') body tl)
    (hg : Gl X "_law_lost" := by rfl) (hL : LamX.lamSB sc scope = true := by decide +kernel) (hsc : X.env.scope = sc := by rfl) (hdef : defaultsOf params X.env = ([], []) := by rfl)
    (hbind : ∀ (q : Str) (cl : List (Str × Addr)) (pm cv ctv : Value), bindArgs (PySem.W.kla_fn "<lambda>" q params body scope cl pm cv ctv) ⟨[], []⟩ = pure [] := by exact fun _ _ _ _ _ => rfl) :
    PED X (.Call (.Name "_law_lost" p) [.Lambda params body scope lpos] [] pos) (dLost T cat tl (td__law_lost_ret BadText NoKind BadPoint BadSight Full BadMoment BadBoats BadMany NoFoe)) := by
  obtain ⟨g, fd, h1, h2, h3⟩ := HL
  obtain ⟨oc, od, kV, doc, pm, an, cdv, ct, osl, rfl, lk, hcd⟩ := h2.ex
  refine ed_lost (q := "") (Ng := N__law_lost) (cv := .ref LightError) hcat hg h1 h2.kp lk hcd h3 sc__law_lost rfl (.inl rfl) ?_ TB hcode hmT hu hr (by rw [hsc]; exact LamX.lamS_by hL) hdef hbind fun A outer s H E f c' hr2 => hbody A outer s H E f c' hr2 (takes_of rfl rfl rfl rfl)
  exact gives_keep (c1 := ⟨0, 0, 0, 0⟩) rfl sc__law_lost.nd rfl rfl rfl (by decide) LE (by decide) (by decide) rfl (fun s H => ps_set (i := 1) sc__law_lost.nd rfl (.inl rfl) pe_non) (fun A hA => by unfold swapsWith; rw [hA]) (fun A hA => by unfold swapsWith; rw [hA])
    fun s H => tm__law_lost_ret TX hw ⟨rfl, rfl, rfl, rfl, rfl⟩ s H ((hr.deeper _).mono (by omega))
abbrev s__law_points : Stmt := (topS 38)
abbrev ps__law_points : List Str := ["_law_first", "_law_last"]
theorem sc__law_points : FnScope N__law_points ps__law_points (defScope s__law_points) := ⟨rfl, rfl, rfl, by decide +kernel, rfl, by decide +kernel, by decide +kernel⟩
theorem tm__law_points (T : Tx K mg Fleet BadText NoKind BadPoint BadSight Full BadMoment BadBoats BadMany NoFoe LightError)  : ∀ (f : Addr) (cdv : Value) (A : Around) (outer : List Env) (s : Shared) (H : Hp) (E : XK), Room 0 (A.deeper (PyProof.Rows.envOfC "_law_points" (defScope s__law_points) s.heap.objs.size f cdv)) →
    PSSD (cxOf CX0 P w K mg base N__law_points "_law_points" (defScope s__law_points) f cdv A outer s H E).nox (defBody s__law_points) (td__law_points ) :=
  fun f cdv A outer s H E hr => (ssd_cons (sd_set 2 sc__law_points.nd (ed_lst true (ad_cons (ed_var 0) ad_nil)))
    (ssd_cons (sd_while PassesOwn.never (td_cmpR (op_neG hr.units) rr_ne (ed_ix (ed_var 2) (ed_neg ed_int)) (ed_var 1) (nomark _)) (ssd_one (sd_expr (ed_append (ed_var 2) (ad_cons (ed_mod (ed_add false (ed_ix (ed_var 2) (ed_neg ed_int)) ed_int) ed_int) ad_nil)))))
    (ssd_one (sd_ret (ed_var 2)))))
abbrev s__law_shown : Stmt := (topS 39)
abbrev ps__law_shown : List Str := ["_law_lamps_here", "_law_bearing"]
theorem sc__law_shown : FnScope N__law_shown ps__law_shown (defScope s__law_shown) := ⟨rfl, rfl, rfl, by decide +kernel, rfl, by decide +kernel, by decide +kernel⟩
theorem tm__law_shown (T : Tx K mg Fleet BadText NoKind BadPoint BadSight Full BadMoment BadBoats BadMany NoFoe LightError) (h__law_points : DefAt P w K mg base "_law_points" 1 ps__law_points P__law_points) : ∀ (f : Addr) (cdv : Value) (A : Around) (outer : List Env) (s : Shared) (H : Hp) (E : XK), Room 1 (A.deeper (PyProof.Rows.envOfC "_law_shown" (defScope s__law_shown) s.heap.objs.size f cdv)) →
    PSSD (cxOf CX0 P w K mg base N__law_shown "_law_shown" (defScope s__law_shown) f cdv A outer s H E).nox (defBody s__law_shown) (td__law_shown ) :=
  fun f cdv A outer s H E hr => (ssd_one (sd_ret (ed_callTy call_tuple_of rl_tupOf T.b_tuple PyProof.Rows.boot_tuple (ad_cons (ed_lc false (own := [("_law_colour", 2), ("_law_first", 3), ("_law_last", 4)]) rfl sc__law_shown.nd (blkOk_by (own := [("_law_colour", 2), ("_law_first", 3), ("_law_last", 4)]) (N := N__law_shown) (sc := defScope s__law_shown) (by decide +kernel)) (id_seq (ed_var 0)) (fun _ _ _ _ _ => gc_tup rfl (gsc_cons (gc_name 2 sc__law_shown.nd) (gsc_cons (gc_name 3 sc__law_shown.nd) (gsc_cons (gc_name 4 sc__law_shown.nd) gsc_nil))) rfl) (fun _ _ _ _ _ => tsd_one (td_cmpR op_inG rr_in (ed_var 1) (ed_callD h__law_points (hr.mono (by decide)) (ad_cons (ed_var 3) (ad_cons (ed_var 4) ad_nil))) (by rfl))) (fun _ _ _ _ _ => (ed_var 2))) ad_nil))))
abbrev s__law_sectors : Stmt := (topS 40)
abbrev ps__law_sectors : List Str := ["_law_lamps_here"]
theorem sc__law_sectors : FnScope N__law_sectors ps__law_sectors (defScope s__law_sectors) := ⟨rfl, rfl, rfl, by decide +kernel, rfl, by decide +kernel, by decide +kernel⟩
theorem tm__law_sectors (T : Tx K mg Fleet BadText NoKind BadPoint BadSight Full BadMoment BadBoats BadMany NoFoe LightError) (h__law_shown : DefAt P w K mg base "_law_shown" 2 ps__law_shown P__law_shown) : ∀ (f : Addr) (cdv : Value) (A : Around) (outer : List Env) (s : Shared) (H : Hp) (E : XK), Room 2 (A.deeper (PyProof.Rows.envOfC "_law_sectors" (defScope s__law_sectors) s.heap.objs.size f cdv)) →
    PSSD (cxOf CX0 P w K mg base N__law_sectors "_law_sectors" (defScope s__law_sectors) f cdv A outer s H E).nox (defBody s__law_sectors) (td__law_sectors ) :=
  fun f cdv A outer s H E hr => (ssd_cons (sd_set 1 sc__law_sectors.nd (ed_lc false (own := [("_law_bearing", 2)]) rfl sc__law_sectors.nd (blkOk_by (own := [("_law_bearing", 2)]) (N := N__law_sectors) (sc := defScope s__law_sectors) (by decide +kernel)) (id_rng1 T.b_range (ad_cons ed_int ad_nil)) (fun _ _ _ _ _ => gc_name 2 sc__law_sectors.nd) (fun _ _ _ _ _ => tsd_nil) (fun _ _ _ _ _ => (ed_callD h__law_shown (hr.mono (by decide)) (ad_cons (ed_var 0) (ad_cons (ed_var 2) ad_nil))))))
    (ssd_cons (sd_setLc false 3 (own := [("_law_bearing", 2)]) rfl sc__law_sectors.nd rfl rfl (sw_true rfl rfl rfl (by decide +kernel)) (blkOk_by (own := [("_law_bearing", 2)]) (N := N__law_sectors) (sc := defScope s__law_sectors) (by decide +kernel)) (id_rng1 T.b_range (ad_cons ed_int ad_nil)) (fun _ _ _ _ _ => gc_name 2 sc__law_sectors.nd) (fun _ _ _ _ _ => tsd_one (td_cmpR (op_neG hr.units) rr_ne (ed_ix (ed_var 1) (ed_var 2)) (ed_ix (ed_var 1) (ed_sub (ed_var 2) ed_int)) (nomark _))) (fun _ _ _ _ _ => (ed_var 2)))
    (ssd_cons (sd_if (td_cmpR (op_eqG hr.units) rr_eq (ed_var 3) (ed_lst false ad_nil) (nomark _)) (ssd_one (sd_ret (ed_lst false (ad_cons (ed_tup (ad_cons ed_int (ad_cons ed_int (ad_cons (ed_ix (ed_var 1) ed_int) ad_nil)))) ad_nil)))) ssd_nil)
    (ssd_cons (sd_if (td_cmpR (op_neG hr.units) rr_ne (ed_ix (ed_var 3) ed_int) ed_int (nomark _)) (ssd_one (sd_set 3 sc__law_sectors.nd (ed_add false (ed_sl false (ed_var 3) (od_some (ed_neg ed_int)) od_none) (ed_sl false (ed_var 3) od_none (od_some (ed_neg ed_int)))))) ssd_nil)
    (ssd_cons (sd_set 4 sc__law_sectors.nd (ed_lst true ad_nil))
    (ssd_cons (sd_for PassesOwn.never rfl (id_zip T.b_zip (ad_cons (ed_var 3) (ad_cons (ed_add false (ed_sl false (ed_var 3) (od_some ed_int) od_none) (ed_sl false (ed_var 3) od_none (od_some ed_int))) ad_nil))) (gd_tup rfl (gsd_cons (gd_name 5 sc__law_sectors.nd) (gsd_cons (gd_name 6 sc__law_sectors.nd) gsd_nil)) rfl) (ssd_one (sd_expr (ed_append (ed_var 4) (ad_cons (ed_tup (ad_cons (ed_var 5) (ad_cons (ed_mod (ed_sub (ed_var 6) ed_int) ed_int) (ad_cons (ed_ix (ed_var 1) (ed_var 5)) ad_nil)))) ad_nil)))))
    (ssd_one (sd_ret (ed_var 4)))))))))
abbrev s__law_is_whole : Stmt := (topS 41)
abbrev ps__law_is_whole : List Str := ["_law_told"]
theorem sc__law_is_whole : FnScope N__law_is_whole ps__law_is_whole (defScope s__law_is_whole) := ⟨rfl, rfl, rfl, by decide +kernel, rfl, by decide +kernel, by decide +kernel⟩
theorem tm__law_is_whole (T : Tx K mg Fleet BadText NoKind BadPoint BadSight Full BadMoment BadBoats BadMany NoFoe LightError)  : ∀ (f : Addr) (cdv : Value) (A : Around) (outer : List Env) (s : Shared) (H : Hp) (E : XK), Room 0 (A.deeper (PyProof.Rows.envOfC "_law_is_whole" (defScope s__law_is_whole) s.heap.objs.size f cdv)) →
    PSSD (cxOf CX0 P w K mg base N__law_is_whole "_law_is_whole" (defScope s__law_is_whole) f cdv A outer s H E).nox (defBody s__law_is_whole) (td__law_is_whole ) :=
  fun f cdv A outer s H E hr => (ssd_cons (sd_set 1 sc__law_is_whole.nd (ed_callB (cr_sum rfl) rl_sum T.b_sum PyProof.Rows.boot_sum (ad_cons (ed_lc false (own := [("_law_first", 2), ("_law_last", 3), ("_law_colours", 4)]) rfl sc__law_is_whole.nd (blkOk_by (own := [("_law_first", 2), ("_law_last", 3), ("_law_colours", 4)]) (N := N__law_is_whole) (sc := defScope s__law_is_whole) (by decide +kernel)) (id_seq (ed_var 0)) (fun _ _ _ _ _ => gc_tup rfl (gsc_cons (gc_name 2 sc__law_is_whole.nd) (gsc_cons (gc_name 3 sc__law_is_whole.nd) (gsc_cons (gc_name 4 sc__law_is_whole.nd) gsc_nil))) rfl) (fun _ _ _ _ _ => tsd_nil) (fun _ _ _ _ _ => (ed_add false (ed_mod (ed_sub (ed_var 3) (ed_var 2)) ed_int) ed_int))) ad_nil)))
    (ssd_cons (sd_setLc false 5 (own := [("_law_row", 6)]) rfl sc__law_is_whole.nd rfl rfl (sw_true rfl rfl rfl (by decide +kernel)) (blkOk_by (own := [("_law_row", 6)]) (N := N__law_is_whole) (sc := defScope s__law_is_whole) (by decide +kernel)) (id_seq (ed_var 0)) (fun _ _ _ _ _ => gc_name 6 sc__law_is_whole.nd) (fun _ _ _ _ _ => tsd_nil) (fun _ _ _ _ _ => (ed_mod (ed_add false (ed_ix (ed_var 6) ed_int) ed_int) ed_int)))
    (ssd_one (sd_ret (ed_and (ed_cmpR (op_eqG hr.units) rr_eq (ed_var 1) ed_int (nomark _)) (ed_one (ed_cmpR (op_eqG hr.units) rr_eq (ed_var 5) (ed_lc false (own := [("_law_row", 6)]) rfl sc__law_is_whole.nd (blkOk_by (own := [("_law_row", 6)]) (N := N__law_is_whole) (sc := defScope s__law_is_whole) (by decide +kernel)) (id_seq (ed_add false (ed_sl false (ed_var 0) (od_some ed_int) od_none) (ed_sl false (ed_var 0) od_none (od_some ed_int)))) (fun _ _ _ _ _ => gc_name 6 sc__law_is_whole.nd) (fun _ _ _ _ _ => tsd_nil) (fun _ _ _ _ _ => (ed_ix (ed_var 6) ed_int))) (nomark _))))))))
abbrev s_law : Stmt := (topS 42)
abbrev ps_law : List Str := ["_law_script"]
theorem sc_law : FnScope N_law ps_law (defScope s_law) := ⟨rfl, rfl, rfl, by decide +kernel, rfl, by decide +kernel, by decide +kernel⟩
theorem tm_law (TX : Tx K mg Fleet BadText NoKind BadPoint BadSight Full BadMoment BadBoats BadMany NoFoe LightError) (iok : IsaOk K isa) (h__law_begun : DefAt P w K mg base "_law_begun" 3 ps__law_begun P__law_begun) (h__law_fleet : DefAt P w K mg base "_law_fleet" 5 ps__law_fleet P__law_fleet) (h_Fleet : MakeAt P w K mg base "Fleet" Fleet 2 ps_Fleet___init__ (P_Fleet___init__ Fleet)) (h_sectors : DefAtX P w K mg base "sectors" 6 ps_sectors (P_sectors Fleet NoKind)) (h__law_sectors : DefAt P w K mg base "_law_sectors" 3 ps__law_sectors P__law_sectors) (h__law_is_whole : DefAt P w K mg base "_law_is_whole" 1 ps__law_is_whole P__law_is_whole) (h__law_draw : DefAt P w K mg base "_law_draw" 2 ps__law_draw P__law_draw) (h_Fleet_plain : MethAt P w K mg base Fleet "plain" 1 ps_Fleet_plain (P_Fleet_plain Fleet)) (HL : Here K mg "_law_lost" "_law_lost" s__law_lost ps__law_lost) (h__law_word : DefAt P w K mg base "_law_word" 1 ps__law_word (P__law_word BadText NoKind BadPoint BadSight Full BadMoment BadBoats BadMany NoFoe)) (LE : mg "LightError" = some (.ref LightError)) (hcat : ∀ C b, cat C = some b → PySem.W.exmOne K (.ref C) (.ref LightError) = some b) {c Pa : Addr} (TB : LamX.TabB base mg c Pa) (hmT : (Pa, ((PyProof.Rows.envOfC "law" (defScope s_law) 0 0 .none).qual ++ "<lambda>")) ∈ T) (hu : ∀ p ∈ T, p.1 = Pa → p.2 = ((PyProof.Rows.envOfC "law" (defScope s_law) 0 0 .none).qual ++ "<lambda>")) : ∀ (f : Addr) (A : Around) (outer : List Env) (s : Shared) (H : Hp) (E : XK), A.guards = some [] → Room 8 (A.deeper (PyProof.Rows.envOfC "law" (defScope s_law) s.heap.objs.size f (.ref c))) →
    PSSD (cxOf CX0 P w K mg base N_law "law" (defScope s_law) f (.ref c) A outer s H E).nox (defBody s_law) (td_law isa cat Fleet NoKind BadText BadPoint BadSight Full BadMoment BadBoats BadMany NoFoe T) :=
  fun f A outer s H E calm hr => (ssd_cons (sd_set 1 sc_law.nd (ed_callD h__law_begun (hr.mono (by decide)) (ad_cons (ed_var 0) ad_nil)))
    (ssd_cons (sd_set 2 sc_law.nd (ed_callD h__law_fleet (hr.mono (by decide)) (ad_cons (ed_var 1) ad_nil)))
    (ssd_cons (sd_set 3 sc_law.nd (ed_makeD h_Fleet (hr.mono (by decide)) (ad_cons (ed_var 2) ad_nil)))
    (ssd_cons (sd_for PassesOwn.never rfl (id_rng1 TX.b_range (ad_cons ed_int ad_nil)) (gd_name 4 sc_law.nd) (ssd_one (sd_for PassesOwn.never rfl (id_seq (ed_ix (ed_var 2) ed_int)) (gd_tup rfl (gsd_cons (gd_name 5 sc_law.nd) (gsd_cons (gd_name 6 sc_law.nd) (gsd_cons (gd_name 7 sc_law.nd) gsd_nil))) rfl) (ssd_cons (sd_set 8 sc_law.nd (ed_callX0 h_sectors (hr.mono (by decide)) (ad_cons (ed_var 3) (ad_cons (ed_var 5) ad_nil))))
    (ssd_cons (sd_if (td_w (wd_or (td_not (td_tru (ed_callB call_isD (rl_isi iok) TX.b_isinstance PyProof.Rows.boot_isinstance (ad_cons (ed_var 8) (ad_cons (ed_blt TX.b_list PyProof.Rows.boot_list) ad_nil))))) (wd_or1 (td_cmpR (op_neG hr.units) rr_ne (ed_repr calm (units_ok hr) TX.b_repr (ad_cons (ed_var 8) ad_nil)) (ed_repr calm (units_ok hr) TX.b_repr (ad_cons (ed_callD h__law_sectors (hr.mono (by decide)) (ad_cons (ed_var 7) ad_nil)) ad_nil)) (nomark _))))) (ssd_one (sd_ret ed_bl)) ssd_nil)
    (ssd_cons (sd_if (td_not (td_tru (ed_callD h__law_is_whole (hr.mono (by decide)) (ad_cons (ed_var 8) ad_nil)))) (ssd_one (sd_ret ed_bl)) ssd_nil)
    (ssd_one (sd_expr (ed_append (ed_var 8) (ad_cons ed_non ad_nil))))))))))
    (ssd_cons (sd_set 5 sc_law.nd (ed_ix (ed_ix (ed_ix (ed_var 2) ed_int) ed_int) ed_int))
    (ssd_cons (sd_for PassesOwn.never rfl (id_rng1 TX.b_range (ad_cons ed_int ad_nil)) (gd_name 4 sc_law.nd) (ssd_cons (sd_set 9 sc_law.nd (ed_ix (ed_lst false (ad_cons ed_str (ad_cons ed_str (ad_cons (ed_add false (ed_var 5) ed_str) (ad_cons ed_non (ad_cons ed_int (ad_cons (ed_lst false (ad_cons (ed_var 5) ad_nil)) (ad_cons (ed_tup (ad_cons (ed_var 5) ad_nil)) (ad_cons ed_bl (ad_cons ed_dnew ad_nil)))))))))) (ed_callD h__law_draw (hr.mono (by decide)) (ad_cons (ed_var 1) (ad_cons ed_int ad_nil)))))
    (ssd_one (sd_if (td_cmpR (op_neG hr.units) rr_ne (lost_at (sc := defScope s_law) TX HL h__law_word LE hcat TB rfl hmT hu hr (fun A2 outer2 s2 H2 E2 f2 c2 hr tk => (ex_call tk h_sectors (hr.mono (by decide)) (ad_cons (ed_var 3) (ad_cons (ed_var 9) ad_nil))))) ed_str (nomark _)) (ssd_one (sd_ret ed_bl)) ssd_nil))))
    (ssd_one (sd_ret (ed_cmpR (op_eqG hr.units) rr_eq (ed_repr calm (units_ok hr) TX.b_repr (ad_cons (ed_methD0 (ed_var 3) TX.cl_Fleet h_Fleet_plain (hr.mono (by decide))) ad_nil)) (ed_repr calm (units_ok hr) TX.b_repr (ad_cons (ed_var 2) ad_nil)) (nomark _))))))))))
end

end DL.K21
set_option Elab.async false
set_option linter.all false
set_option maxRecDepth 100000
set_option maxHeartbeats 4000001
namespace DL.K21
open PySem L2 K20
structure TopF (K : PySem.W.Frag) (Fleet BadText NoKind BadPoint BadSight Full BadMoment BadBoats BadMany NoFoe LightError c0 P0 : Addr) : Prop where
  f_is_number : FnF K "is_number" "is_number" (topS 14)
  f_is_point : FnF K "is_point" "is_point" (topS 15)
  f_is_name_of : FnF K "is_name_of" "is_name_of" (topS 16)
  f_check_point : FnF K "check_point" "check_point" (topS 18)
  f_shows : FnF K "shows" "shows" (topS 19)
  f_colours_at : FnF K "colours_at" "colours_at" (topS 20)
  f_kind_row : FnF K "kind_row" "kind_row" (topS 25)
  m_Fleet___init__ : MtF K Fleet "__init__" "Fleet.__init__" (inClass (topS 26) 0)
  m_Fleet_plain : MtF K Fleet "plain" "Fleet.plain" (inClass (topS 26) 1)
  m_Fleet_kinds : MtF K Fleet "kinds" "Fleet.kinds" (inClass (topS 26) 2)
  m_Fleet__row : MtF K Fleet "_row" "Fleet._row" (inClass (topS 26) 5)
  m_Fleet_lamps : MtF K Fleet "lamps" "Fleet.lamps" (inClass (topS 26) 4)
  f_seen : FnF K "seen" "seen" (topS 21)
  f_looks_of_boat : FnF K "looks_of_boat" "looks_of_boat" (topS 22)
  f_sectors : FnF K "sectors" "sectors" (topS 23)
  f__law_mixed : FnF K "_law_mixed" "_law_mixed" (topS 28)
  f__law_folded : FnF K "_law_folded" "_law_folded" (topS 29)
  f__law_draw : FnF K "_law_draw" "_law_draw" (topS 30)
  f__law_names : FnF K "_law_names" "_law_names" (topS 31)
  f__law_lamp : FnF K "_law_lamp" "_law_lamp" (topS 32)
  f__law_lamps : FnF K "_law_lamps" "_law_lamps" (topS 33)
  f__law_fleet : FnF K "_law_fleet" "_law_fleet" (topS 34)
  f__law_begun : FnF K "_law_begun" "_law_begun" (topS 35)
  f__law_word : FnF K "_law_word" "_law_word" (topS 36)
  f__law_points : FnF K "_law_points" "_law_points" (topS 38)
  f__law_shown : FnF K "_law_shown" "_law_shown" (topS 39)
  f__law_sectors : FnF K "_law_sectors" "_law_sectors" (topS 40)
  f__law_is_whole : FnF K "_law_is_whole" "_law_is_whole" (topS 41)
  f_law : LmF K "law" "law" (topS 42) c0 P0
  f__law_lost : FnF K "_law_lost" "_law_lost" (topS 37)
  nT0 : K.lookup P0 = none
  at_Fleet : PySem.W.nsIn K mainGlobals "Fleet" = some (some (.ref Fleet))
  at_BadText : PySem.W.nsIn K mainGlobals "BadText" = some (some (.ref BadText))
  at_NoKind : PySem.W.nsIn K mainGlobals "NoKind" = some (some (.ref NoKind))
  at_BadPoint : PySem.W.nsIn K mainGlobals "BadPoint" = some (some (.ref BadPoint))
  at_BadSight : PySem.W.nsIn K mainGlobals "BadSight" = some (some (.ref BadSight))
  at_Full : PySem.W.nsIn K mainGlobals "Full" = some (some (.ref Full))
  at_BadMoment : PySem.W.nsIn K mainGlobals "BadMoment" = some (some (.ref BadMoment))
  at_BadBoats : PySem.W.nsIn K mainGlobals "BadBoats" = some (some (.ref BadBoats))
  at_BadMany : PySem.W.nsIn K mainGlobals "BadMany" = some (some (.ref BadMany))
  at_NoFoe : PySem.W.nsIn K mainGlobals "NoFoe" = some (some (.ref NoFoe))
  at_LightError : PySem.W.nsIn K mainGlobals "LightError" = some (some (.ref LightError))
  c_LAST_POINT : ∃ t, PySem.W.nsIn K mainGlobals "LAST_POINT" = some (some (.int 31 t))
  c_POINTS : ∃ t, PySem.W.nsIn K mainGlobals "POINTS" = some (some (.int 32 t))
  z_ValueError : PySem.W.nsIn K mainGlobals "ValueError" = some none
  z_bool : PySem.W.nsIn K mainGlobals "bool" = some none
  z_enumerate : PySem.W.nsIn K mainGlobals "enumerate" = some none
  z_int : PySem.W.nsIn K mainGlobals "int" = some none
  z_isinstance : PySem.W.nsIn K mainGlobals "isinstance" = some none
  z_len : PySem.W.nsIn K mainGlobals "len" = some none
  z_list : PySem.W.nsIn K mainGlobals "list" = some none
  z_range : PySem.W.nsIn K mainGlobals "range" = some none
  z_repr : PySem.W.nsIn K mainGlobals "repr" = some none
  z_str : PySem.W.nsIn K mainGlobals "str" = some none
  z_sum : PySem.W.nsIn K mainGlobals "sum" = some none
  z_tuple : PySem.W.nsIn K mainGlobals "tuple" = some none
  z_zip : PySem.W.nsIn K mainGlobals "zip" = some none
  pg_Fleet : PySem.W.plainGet K Fleet Str.empty = true
  hd_Fleet : PySem.W.hasDictIn K Fleet = true
  po_Fleet : PySem.W.plainOver K Fleet = true
  sa_Fleet : PySem.W.findIn K (.ref Fleet) "__setattr__" = some (some (.builtin "object.__setattr__"))
  mk_Fleet : PySem.W.makesIn K Fleet = true
  kc_Fleet : PySem.W.keepIn K (.ref Fleet) = true
  n_Fleet__colours : NoAttr K Fleet "_colours"
  n_Fleet__rows : NoAttr K Fleet "_rows"
  ec_BadPoint : PySem.W.excIn K BadPoint veChain "ValueError.__new__" = true
  ek_BadPoint : PySem.W.keepIn K (.ref BadPoint) = true
  eb_BadPoint : PySem.W.subIn K (.ref BadPoint) (.type "BaseException") = some true
  et_BadPoint : PySem.W.typeIn K (.ref BadPoint) = some (.type "type")
  ec_NoKind : PySem.W.excIn K NoKind veChain "ValueError.__new__" = true
  ek_NoKind : PySem.W.keepIn K (.ref NoKind) = true
  eb_NoKind : PySem.W.subIn K (.ref NoKind) (.type "BaseException") = some true
  et_NoKind : PySem.W.typeIn K (.ref NoKind) = some (.type "type")
  xg_NoKind : PySem.W.findIn K (.ref NoKind) "__getattribute__" = some (some (.builtin "BaseException.__getattribute__"))
  xk_NoKind : PySem.W.findIn K (.ref NoKind) "__getattr__" = some none
  xs_NoKind : PySem.W.subIn K (.ref NoKind) (.type "BaseException") = some true
  xd_NoKind : PySem.W.hasDictIn K NoKind = true
  xa_NoKind : PySem.W.findIn K (.ref NoKind) "__class__" = some (some (.builtin "object.__class__"))
  xm_NoKind : PySem.W.mroIn K NoKind (.type "object") = some true
  xc_NoKind : PySem.W.exmOne K (.ref NoKind) (.ref LightError) = some true
  x_spec : PySem.W.specialIn K (.builtin "object.__class__") "__get__" = some (some (.builtin "getset_descriptor.__get__"))
  x_takes : PySem.W.takesIn K (.builtin "object.__class__") = some true
  k_err : ([(NoKind, Str.ofString "kind")].all fun p => (Er.row ⟨BadText, NoKind, BadPoint, BadSight, Full, BadMoment, BadBoats, BadMany, NoFoe⟩).all fun q => PySem.W.kitOne K (.ref p.1) (.ref q.1) == some (decide (p.2 = q.2))) = true
  k_val : ([(NoKind, Str.ofString "kind")].all fun p => PySem.W.kitOne K (.ref p.1) (.type "ValueError") == some true) = true
  k_ty : (tys.all fun t => ["int", "bool", "str", "list", "tuple"].all fun u => PySem.W.kitOne K (.type t) (.type u) == some (kitB t u)) = true
theorem the_tx {K : PySem.W.Frag} {Fleet BadText NoKind BadPoint BadSight Full BadMoment BadBoats BadMany NoFoe LightError : Addr} {c0 P0 : Addr} {h : Heap} {mg : Str → Option Value} (X : K.In h) (G : h.Ns mainGlobals mg) (F : TopF K Fleet BadText NoKind BadPoint BadSight Full BadMoment BadBoats BadMany NoFoe LightError c0 P0) : Tx K mg Fleet BadText NoKind BadPoint BadSight Full BadMoment BadBoats BadMany NoFoe LightError where
  c_LAST_POINT := F.c_LAST_POINT.elim fun t h => ⟨t, PySem.W.mg_of X G h⟩
  c_POINTS := F.c_POINTS.elim fun t h => ⟨t, PySem.W.mg_of X G h⟩
  b_ValueError := PySem.W.mg_none_of X G F.z_ValueError
  b_bool := PySem.W.mg_none_of X G F.z_bool
  b_enumerate := PySem.W.mg_none_of X G F.z_enumerate
  b_int := PySem.W.mg_none_of X G F.z_int
  b_isinstance := PySem.W.mg_none_of X G F.z_isinstance
  b_len := PySem.W.mg_none_of X G F.z_len
  b_list := PySem.W.mg_none_of X G F.z_list
  b_range := PySem.W.mg_none_of X G F.z_range
  b_repr := PySem.W.mg_none_of X G F.z_repr
  b_str := PySem.W.mg_none_of X G F.z_str
  b_sum := PySem.W.mg_none_of X G F.z_sum
  b_tuple := PySem.W.mg_none_of X G F.z_tuple
  b_zip := PySem.W.mg_none_of X G F.z_zip
  cl_Fleet := ⟨F.pg_Fleet, F.hd_Fleet, F.po_Fleet, F.sa_Fleet⟩
  n_Fleet__colours := F.n_Fleet__colours
  n_Fleet__rows := F.n_Fleet__rows
  o_BadBoats := PySem.W.mg_of X G F.at_BadBoats
  o_BadMany := PySem.W.mg_of X G F.at_BadMany
  o_BadMoment := PySem.W.mg_of X G F.at_BadMoment
  o_BadPoint := PySem.W.mg_of X G F.at_BadPoint
  o_BadSight := PySem.W.mg_of X G F.at_BadSight
  o_BadText := PySem.W.mg_of X G F.at_BadText
  o_Full := PySem.W.mg_of X G F.at_Full
  o_NoFoe := PySem.W.mg_of X G F.at_NoFoe
  o_NoKind := PySem.W.mg_of X G F.at_NoKind
  e_BadPoint := ⟨PySem.W.mg_of X G F.at_BadPoint, F.ec_BadPoint, F.ek_BadPoint, F.eb_BadPoint, F.et_BadPoint⟩
  e_NoKind := ⟨PySem.W.mg_of X G F.at_NoKind, F.ec_NoKind, F.ek_NoKind, F.eb_NoKind, F.et_NoKind⟩
abbrev tabT (P0 : Addr) : List (Addr × Str) := [(P0, (PyProof.Rows.envOfC "law" (defScope s_law) 0 0 .none).qual ++ "<lambda>")]
theorem tabT_nd (P0 : Addr) : ((tabT P0).map (·.1)).Nodup := by simp
theorem the_law {P : Program} {w : World} {K : PySem.W.Frag} {Fleet BadText NoKind BadPoint BadSight Full BadMoment BadBoats BadMany NoFoe LightError : Addr} {c0 P0 : Addr} {h : Heap} {mg : Str → Option Value} {fa : Addr} (X : K.In h) (G : h.Ns mainGlobals mg) (hfa : mg "law" = some (.ref fa))
    (tabs : ∀ y ∈ (["law"] : List Str), ∀ c Pa, PySem.W.tabIn K y = some (c, Pa) → PySem.W.CodeHd h c Pa ∧ h.get? Pa = some { cls := .none, data := .fields #[] }) (F : TopF K Fleet BadText NoKind BadPoint BadSight Full BadMoment BadBoats BadMany NoFoe LightError c0 P0) : LawG P w K 9 63 "_law_script" mg fa h := by
  have T := the_tx X G F
  have iok : IsaOk K (isaKs K [NoKind]) := isaKs_ok fun B hB => by
    simp only [List.mem_cons, List.not_mem_nil, or_false] at hB
    rcases hB with rfl
    · exact ⟨F.xg_NoKind, F.xk_NoKind, F.xs_NoKind, F.xd_NoKind, F.xa_NoKind, F.x_spec, F.x_takes, F.xm_NoKind⟩
  have ip : IsaP (isaKs K [NoKind]) := ⟨fun t ht u hu => eq_of_beq (all2 F.k_ty t ht u hu)⟩
  have ie : ErrIsa rw21 (isaKs K [NoKind]) ⟨BadText, NoKind, BadPoint, BadSight, Full, BadMoment, BadBoats, BadMany, NoFoe⟩ := ⟨fun p hp hr q hq => by
    have hm := rows_raised hp hr
    rw [isaKs_in (by
      simp only [List.mem_cons, List.not_mem_nil, or_false] at hm ⊢
      rcases hm with rfl <;> simp)]
    exact eq_of_beq (all2 F.k_err p hm q hq), fun p hp hr => by
    have hm := rows_raised hp hr
    rw [isaKs_in (by
      simp only [List.mem_cons, List.not_mem_nil, or_false] at hm ⊢
      rcases hm with rfl <;> simp)]
    exact eq_of_beq (List.all_eq_true.mp F.k_val p hm)⟩
  obtain ⟨f, oc, od, kV, doc, pm, an, ct, osl, o2, d2, vs, s2, a, l, cc, kk, l2, v⟩ := F.f_law.ex
  have e := hfa.symm.trans (PySem.W.mg_of X G a)
  cases e
  have tT : ∀ p ∈ ([(c0, P0)] : List (Addr × Addr)), PySem.W.CodeHd h p.1 p.2 ∧ h.get? p.2 = some { cls := .none, data := .fields #[] } := fun p hp => by
    simp only [List.mem_cons, List.not_mem_nil, or_false] at hp
    rcases hp with rfl
    · exact tabs _ (.head _) _ _ F.f_law.tab
  refine ⟨PySem.W.fnOf "law" "law" (defArgs s_law) (defBody s_law) (defScope s_law) .none kV doc pm an (.ref c0) ct, [(c0, P0)], spD K (P_law (tabT P0)), fun p hp => (tT p hp).2, fun p hp => ?_, fun p hp => (tT p hp).1, fun s u => .of_eq (fd := PySem.W.fnOf "law" "law" (defArgs s_law) (defBody s_law) (defScope s_law) .none kV doc pm an (.ref c0) ct) rfl, fun H a ns hn hH hS => ?_, fun base _ _ tb => ?_⟩
  · simp only [List.mem_cons, List.not_mem_nil, or_false] at hp
    rcases hp with rfl
    · exact F.nT0
  · have nd := tabT_nd P0
    refine startT nd (fun p hp => ?_) hS fun Q q => ⟨ns, rfl, hn, tabs_muT nd, q⟩
    simp only [List.mem_cons, List.not_mem_nil, or_false] at hp
    rcases hp with rfl
    · exact hH _ (.head _)
  have HL := F.f__law_lost.here X G (ps := ps__law_lost) (fun _ _ _ _ _ _ us hl => match us, hl with | [_], _ => rfl)
  have h_is_number : DefAt P w K mg base "is_number" 1 ps_is_number P_is_number := defAt (F.f_is_number.here X G (fun _ _ _ _ _ _ us hl => match us, hl with | [_, _], _ => rfl)) sc_is_number (by
      intro ds μ Q h
      first
        | (obtain ⟨_, rfl, _⟩ := h; rfl)
        | (obtain ⟨_, _, rfl, _⟩ := h; rfl)
        | (obtain ⟨_, _, _, rfl, _⟩ := h; rfl)
        | (obtain ⟨_, _, _, _, rfl, _⟩ := h; rfl)
        | (obtain ⟨_, _, _, _, _, rfl, _⟩ := h; rfl)
        | (obtain ⟨_, _, _, _, _, _, rfl, _⟩ := h; rfl)
        | (obtain ⟨_, _, _, _, _, _, _, rfl, _⟩ := h; rfl)
        | (obtain ⟨_, _, _, _, _, _, _, _, rfl, _⟩ := h; rfl)
        | (obtain ⟨_, _, _, _, _, _, _, _, _, rfl, _⟩ := h; rfl)) (tm_is_number T iok) (rd_is_number ip)
  have h_is_point : DefAt P w K mg base "is_point" 2 ps_is_point P_is_point := defAt (F.f_is_point.here X G (fun _ _ _ _ _ _ us hl => match us, hl with | [_], _ => rfl)) sc_is_point (by
      intro ds μ Q h
      first
        | (obtain ⟨_, rfl, _⟩ := h; rfl)
        | (obtain ⟨_, _, rfl, _⟩ := h; rfl)
        | (obtain ⟨_, _, _, rfl, _⟩ := h; rfl)
        | (obtain ⟨_, _, _, _, rfl, _⟩ := h; rfl)
        | (obtain ⟨_, _, _, _, _, rfl, _⟩ := h; rfl)
        | (obtain ⟨_, _, _, _, _, _, rfl, _⟩ := h; rfl)
        | (obtain ⟨_, _, _, _, _, _, _, rfl, _⟩ := h; rfl)
        | (obtain ⟨_, _, _, _, _, _, _, _, rfl, _⟩ := h; rfl)
        | (obtain ⟨_, _, _, _, _, _, _, _, _, rfl, _⟩ := h; rfl)) (tm_is_point T h_is_number) rd_is_point
  have h_is_name_of : DefAt P w K mg base "is_name_of" 1 ps_is_name_of P_is_name_of := defAt (F.f_is_name_of.here X G (fun _ _ _ _ _ _ us hl => match us, hl with | [_, _], _ => rfl)) sc_is_name_of (by
      intro ds μ Q h
      first
        | (obtain ⟨_, rfl, _⟩ := h; rfl)
        | (obtain ⟨_, _, rfl, _⟩ := h; rfl)
        | (obtain ⟨_, _, _, rfl, _⟩ := h; rfl)
        | (obtain ⟨_, _, _, _, rfl, _⟩ := h; rfl)
        | (obtain ⟨_, _, _, _, _, rfl, _⟩ := h; rfl)
        | (obtain ⟨_, _, _, _, _, _, rfl, _⟩ := h; rfl)
        | (obtain ⟨_, _, _, _, _, _, _, rfl, _⟩ := h; rfl)
        | (obtain ⟨_, _, _, _, _, _, _, _, rfl, _⟩ := h; rfl)
        | (obtain ⟨_, _, _, _, _, _, _, _, _, rfl, _⟩ := h; rfl)) (tm_is_name_of T iok) (rd_is_name_of ip)
  have h_check_point : DefAtX P w K mg base "check_point" 3 ps_check_point (P_check_point BadPoint) := defAtX (F.f_check_point.here X G (fun _ _ _ _ _ _ us hl => match us, hl with | [_, _], _ => rfl)) sc_check_point (by
      intro ds μ Q E h
      first
        | (obtain ⟨_, rfl, _⟩ := h; rfl)
        | (obtain ⟨_, _, rfl, _⟩ := h; rfl)
        | (obtain ⟨_, _, _, rfl, _⟩ := h; rfl)
        | (obtain ⟨_, _, _, _, rfl, _⟩ := h; rfl)
        | (obtain ⟨_, _, _, _, _, rfl, _⟩ := h; rfl)
        | (obtain ⟨_, _, _, _, _, _, rfl, _⟩ := h; rfl)
        | (obtain ⟨_, _, _, _, _, _, _, rfl, _⟩ := h; rfl)
        | (obtain ⟨_, _, _, _, _, _, _, _, rfl, _⟩ := h; rfl)
        | (obtain ⟨_, _, _, _, _, _, _, _, _, rfl, _⟩ := h; rfl)) (tm_check_point T h_is_point) rd_check_point
  have h_shows : DefAt P w K mg base "shows" 1 ps_shows P_shows := defAt (F.f_shows.here X G (fun _ _ _ _ _ _ us hl => match us, hl with | [_, _, _], _ => rfl)) sc_shows (by
      intro ds μ Q h
      first
        | (obtain ⟨_, rfl, _⟩ := h; rfl)
        | (obtain ⟨_, _, rfl, _⟩ := h; rfl)
        | (obtain ⟨_, _, _, rfl, _⟩ := h; rfl)
        | (obtain ⟨_, _, _, _, rfl, _⟩ := h; rfl)
        | (obtain ⟨_, _, _, _, _, rfl, _⟩ := h; rfl)
        | (obtain ⟨_, _, _, _, _, _, rfl, _⟩ := h; rfl)
        | (obtain ⟨_, _, _, _, _, _, _, rfl, _⟩ := h; rfl)
        | (obtain ⟨_, _, _, _, _, _, _, _, rfl, _⟩ := h; rfl)
        | (obtain ⟨_, _, _, _, _, _, _, _, _, rfl, _⟩ := h; rfl)) (tm_shows T ) rd_shows
  have h_colours_at : DefAt P w K mg base "colours_at" 2 ps_colours_at P_colours_at := defAt (F.f_colours_at.here X G (fun _ _ _ _ _ _ us hl => match us, hl with | [_, _], _ => rfl)) sc_colours_at (by
      intro ds μ Q h
      first
        | (obtain ⟨_, rfl, _⟩ := h; rfl)
        | (obtain ⟨_, _, rfl, _⟩ := h; rfl)
        | (obtain ⟨_, _, _, rfl, _⟩ := h; rfl)
        | (obtain ⟨_, _, _, _, rfl, _⟩ := h; rfl)
        | (obtain ⟨_, _, _, _, _, rfl, _⟩ := h; rfl)
        | (obtain ⟨_, _, _, _, _, _, rfl, _⟩ := h; rfl)
        | (obtain ⟨_, _, _, _, _, _, _, rfl, _⟩ := h; rfl)
        | (obtain ⟨_, _, _, _, _, _, _, _, rfl, _⟩ := h; rfl)
        | (obtain ⟨_, _, _, _, _, _, _, _, _, rfl, _⟩ := h; rfl)) (tm_colours_at T h_shows) rd_colours_at
  have h_kind_row : DefAt P w K mg base "kind_row" 1 ps_kind_row P_kind_row := defAt (F.f_kind_row.here X G (fun _ _ _ _ _ _ us hl => match us, hl with | [_], _ => rfl)) sc_kind_row (by
      intro ds μ Q h
      first
        | (obtain ⟨_, rfl, _⟩ := h; rfl)
        | (obtain ⟨_, _, rfl, _⟩ := h; rfl)
        | (obtain ⟨_, _, _, rfl, _⟩ := h; rfl)
        | (obtain ⟨_, _, _, _, rfl, _⟩ := h; rfl)
        | (obtain ⟨_, _, _, _, _, rfl, _⟩ := h; rfl)
        | (obtain ⟨_, _, _, _, _, _, rfl, _⟩ := h; rfl)
        | (obtain ⟨_, _, _, _, _, _, _, rfl, _⟩ := h; rfl)
        | (obtain ⟨_, _, _, _, _, _, _, _, rfl, _⟩ := h; rfl)
        | (obtain ⟨_, _, _, _, _, _, _, _, _, rfl, _⟩ := h; rfl)) (tm_kind_row T ) rd_kind_row
  have h_Fleet : MakeAt P w K mg base "Fleet" Fleet 2 ps_Fleet___init__ (P_Fleet___init__ Fleet) := makeAt (F.m_Fleet___init__.hereI X G F.at_Fleet F.mk_Fleet F.kc_Fleet (fun _ _ _ _ _ _ us hl => match us, hl with | [_, _], _ => rfl)) sc_Fleet___init__ (by
      intro ds μ Q h
      first
        | (obtain ⟨_, rfl, _⟩ := h; rfl)
        | (obtain ⟨_, _, rfl, _⟩ := h; rfl)
        | (obtain ⟨_, _, _, rfl, _⟩ := h; rfl)
        | (obtain ⟨_, _, _, _, rfl, _⟩ := h; rfl)
        | (obtain ⟨_, _, _, _, _, rfl, _⟩ := h; rfl)
        | (obtain ⟨_, _, _, _, _, _, rfl, _⟩ := h; rfl)
        | (obtain ⟨_, _, _, _, _, _, _, rfl, _⟩ := h; rfl)
        | (obtain ⟨_, _, _, _, _, _, _, _, rfl, _⟩ := h; rfl)
        | (obtain ⟨_, _, _, _, _, _, _, _, _, rfl, _⟩ := h; rfl)) (tm_Fleet___init__ T h_kind_row) rd_Fleet___init__
  have h_Fleet_plain : MethAt P w K mg base Fleet "plain" 1 ps_Fleet_plain (P_Fleet_plain Fleet) := methAt (F.m_Fleet_plain.here (fun _ _ _ _ _ _ us hl => match us, hl with | [_], _ => rfl)) sc_Fleet_plain (by
      intro ds μ Q h
      first
        | (obtain ⟨_, rfl, _⟩ := h; rfl)
        | (obtain ⟨_, _, rfl, _⟩ := h; rfl)
        | (obtain ⟨_, _, _, rfl, _⟩ := h; rfl)
        | (obtain ⟨_, _, _, _, rfl, _⟩ := h; rfl)
        | (obtain ⟨_, _, _, _, _, rfl, _⟩ := h; rfl)
        | (obtain ⟨_, _, _, _, _, _, rfl, _⟩ := h; rfl)
        | (obtain ⟨_, _, _, _, _, _, _, rfl, _⟩ := h; rfl)
        | (obtain ⟨_, _, _, _, _, _, _, _, rfl, _⟩ := h; rfl)
        | (obtain ⟨_, _, _, _, _, _, _, _, _, rfl, _⟩ := h; rfl)) (tm_Fleet_plain T ) rd_Fleet_plain
  have h_Fleet_kinds : MethAt P w K mg base Fleet "kinds" 1 ps_Fleet_kinds (P_Fleet_kinds Fleet) := methAt (F.m_Fleet_kinds.here (fun _ _ _ _ _ _ us hl => match us, hl with | [_], _ => rfl)) sc_Fleet_kinds (by
      intro ds μ Q h
      first
        | (obtain ⟨_, rfl, _⟩ := h; rfl)
        | (obtain ⟨_, _, rfl, _⟩ := h; rfl)
        | (obtain ⟨_, _, _, rfl, _⟩ := h; rfl)
        | (obtain ⟨_, _, _, _, rfl, _⟩ := h; rfl)
        | (obtain ⟨_, _, _, _, _, rfl, _⟩ := h; rfl)
        | (obtain ⟨_, _, _, _, _, _, rfl, _⟩ := h; rfl)
        | (obtain ⟨_, _, _, _, _, _, _, rfl, _⟩ := h; rfl)
        | (obtain ⟨_, _, _, _, _, _, _, _, rfl, _⟩ := h; rfl)
        | (obtain ⟨_, _, _, _, _, _, _, _, _, rfl, _⟩ := h; rfl)) (tm_Fleet_kinds T ) rd_Fleet_kinds
  have h_Fleet__row : MethAtX P w K mg base Fleet "_row" 2 ps_Fleet__row (P_Fleet__row Fleet NoKind) := methAtX (F.m_Fleet__row.here (fun _ _ _ _ _ _ us hl => match us, hl with | [_, _], _ => rfl)) sc_Fleet__row (by
      intro ds μ Q E h
      first
        | (obtain ⟨_, rfl, _⟩ := h; rfl)
        | (obtain ⟨_, _, rfl, _⟩ := h; rfl)
        | (obtain ⟨_, _, _, rfl, _⟩ := h; rfl)
        | (obtain ⟨_, _, _, _, rfl, _⟩ := h; rfl)
        | (obtain ⟨_, _, _, _, _, rfl, _⟩ := h; rfl)
        | (obtain ⟨_, _, _, _, _, _, rfl, _⟩ := h; rfl)
        | (obtain ⟨_, _, _, _, _, _, _, rfl, _⟩ := h; rfl)
        | (obtain ⟨_, _, _, _, _, _, _, _, rfl, _⟩ := h; rfl)
        | (obtain ⟨_, _, _, _, _, _, _, _, _, rfl, _⟩ := h; rfl)) (tm_Fleet__row T h_Fleet_kinds h_is_name_of) rd_Fleet__row
  have h_Fleet_lamps : MethAtX P w K mg base Fleet "lamps" 3 ps_Fleet_lamps (P_Fleet_lamps Fleet NoKind) := methAtX (F.m_Fleet_lamps.here (fun _ _ _ _ _ _ us hl => match us, hl with | [_, _], _ => rfl)) sc_Fleet_lamps (by
      intro ds μ Q E h
      first
        | (obtain ⟨_, rfl, _⟩ := h; rfl)
        | (obtain ⟨_, _, rfl, _⟩ := h; rfl)
        | (obtain ⟨_, _, _, rfl, _⟩ := h; rfl)
        | (obtain ⟨_, _, _, _, rfl, _⟩ := h; rfl)
        | (obtain ⟨_, _, _, _, _, rfl, _⟩ := h; rfl)
        | (obtain ⟨_, _, _, _, _, _, rfl, _⟩ := h; rfl)
        | (obtain ⟨_, _, _, _, _, _, _, rfl, _⟩ := h; rfl)
        | (obtain ⟨_, _, _, _, _, _, _, _, rfl, _⟩ := h; rfl)
        | (obtain ⟨_, _, _, _, _, _, _, _, _, rfl, _⟩ := h; rfl)) (tm_Fleet_lamps T h_Fleet__row) rd_Fleet_lamps
  have h_seen : DefAtX P w K mg base "seen" 4 ps_seen (P_seen Fleet NoKind BadPoint) := defAtX (F.f_seen.here X G (fun _ _ _ _ _ _ us hl => match us, hl with | [_, _, _, _], _ => rfl)) sc_seen (by
      intro ds μ Q E h
      first
        | (obtain ⟨_, rfl, _⟩ := h; rfl)
        | (obtain ⟨_, _, rfl, _⟩ := h; rfl)
        | (obtain ⟨_, _, _, rfl, _⟩ := h; rfl)
        | (obtain ⟨_, _, _, _, rfl, _⟩ := h; rfl)
        | (obtain ⟨_, _, _, _, _, rfl, _⟩ := h; rfl)
        | (obtain ⟨_, _, _, _, _, _, rfl, _⟩ := h; rfl)
        | (obtain ⟨_, _, _, _, _, _, _, rfl, _⟩ := h; rfl)
        | (obtain ⟨_, _, _, _, _, _, _, _, rfl, _⟩ := h; rfl)
        | (obtain ⟨_, _, _, _, _, _, _, _, _, rfl, _⟩ := h; rfl)) (tm_seen T h_Fleet_lamps h_check_point h_colours_at) rd_seen
  have h_looks_of_boat : DefAtX P w K mg base "looks_of_boat" 5 ps_looks_of_boat (P_looks_of_boat Fleet NoKind) := defAtX (F.f_looks_of_boat.here X G (fun _ _ _ _ _ _ us hl => match us, hl with | [_, _], _ => rfl)) sc_looks_of_boat (by
      intro ds μ Q E h
      first
        | (obtain ⟨_, rfl, _⟩ := h; rfl)
        | (obtain ⟨_, _, rfl, _⟩ := h; rfl)
        | (obtain ⟨_, _, _, rfl, _⟩ := h; rfl)
        | (obtain ⟨_, _, _, _, rfl, _⟩ := h; rfl)
        | (obtain ⟨_, _, _, _, _, rfl, _⟩ := h; rfl)
        | (obtain ⟨_, _, _, _, _, _, rfl, _⟩ := h; rfl)
        | (obtain ⟨_, _, _, _, _, _, _, rfl, _⟩ := h; rfl)
        | (obtain ⟨_, _, _, _, _, _, _, _, rfl, _⟩ := h; rfl)
        | (obtain ⟨_, _, _, _, _, _, _, _, _, rfl, _⟩ := h; rfl)) (tm_looks_of_boat T h_seen) rd_looks_of_boat
  have h_sectors : DefAtX P w K mg base "sectors" 6 ps_sectors (P_sectors Fleet NoKind) := defAtX (F.f_sectors.here X G (fun _ _ _ _ _ _ us hl => match us, hl with | [_, _], _ => rfl)) sc_sectors (by
      intro ds μ Q E h
      first
        | (obtain ⟨_, rfl, _⟩ := h; rfl)
        | (obtain ⟨_, _, rfl, _⟩ := h; rfl)
        | (obtain ⟨_, _, _, rfl, _⟩ := h; rfl)
        | (obtain ⟨_, _, _, _, rfl, _⟩ := h; rfl)
        | (obtain ⟨_, _, _, _, _, rfl, _⟩ := h; rfl)
        | (obtain ⟨_, _, _, _, _, _, rfl, _⟩ := h; rfl)
        | (obtain ⟨_, _, _, _, _, _, _, rfl, _⟩ := h; rfl)
        | (obtain ⟨_, _, _, _, _, _, _, _, rfl, _⟩ := h; rfl)
        | (obtain ⟨_, _, _, _, _, _, _, _, _, rfl, _⟩ := h; rfl)) (tm_sectors T h_looks_of_boat) rd_sectors
  have h__law_mixed : DefAt P w K mg base "_law_mixed" 1 ps__law_mixed P__law_mixed := defAt (F.f__law_mixed.here X G (fun _ _ _ _ _ _ us hl => match us, hl with | [_, _], _ => rfl)) sc__law_mixed (by
      intro ds μ Q h
      first
        | (obtain ⟨_, rfl, _⟩ := h; rfl)
        | (obtain ⟨_, _, rfl, _⟩ := h; rfl)
        | (obtain ⟨_, _, _, rfl, _⟩ := h; rfl)
        | (obtain ⟨_, _, _, _, rfl, _⟩ := h; rfl)
        | (obtain ⟨_, _, _, _, _, rfl, _⟩ := h; rfl)
        | (obtain ⟨_, _, _, _, _, _, rfl, _⟩ := h; rfl)
        | (obtain ⟨_, _, _, _, _, _, _, rfl, _⟩ := h; rfl)
        | (obtain ⟨_, _, _, _, _, _, _, _, rfl, _⟩ := h; rfl)
        | (obtain ⟨_, _, _, _, _, _, _, _, _, rfl, _⟩ := h; rfl)) (tm__law_mixed T ) rd__law_mixed
  have h__law_folded : DefAt P w K mg base "_law_folded" 1 ps__law_folded P__law_folded := defAt (F.f__law_folded.here X G (fun _ _ _ _ _ _ us hl => match us, hl with | [_], _ => rfl)) sc__law_folded (by
      intro ds μ Q h
      first
        | (obtain ⟨_, rfl, _⟩ := h; rfl)
        | (obtain ⟨_, _, rfl, _⟩ := h; rfl)
        | (obtain ⟨_, _, _, rfl, _⟩ := h; rfl)
        | (obtain ⟨_, _, _, _, rfl, _⟩ := h; rfl)
        | (obtain ⟨_, _, _, _, _, rfl, _⟩ := h; rfl)
        | (obtain ⟨_, _, _, _, _, _, rfl, _⟩ := h; rfl)
        | (obtain ⟨_, _, _, _, _, _, _, rfl, _⟩ := h; rfl)
        | (obtain ⟨_, _, _, _, _, _, _, _, rfl, _⟩ := h; rfl)
        | (obtain ⟨_, _, _, _, _, _, _, _, _, rfl, _⟩ := h; rfl)) (tm__law_folded T ) rd__law_folded
  have h__law_draw : DefAt P w K mg base "_law_draw" 2 ps__law_draw P__law_draw := defAt (F.f__law_draw.here X G (fun _ _ _ _ _ _ us hl => match us, hl with | [_, _], _ => rfl)) sc__law_draw (by
      intro ds μ Q h
      first
        | (obtain ⟨_, rfl, _⟩ := h; rfl)
        | (obtain ⟨_, _, rfl, _⟩ := h; rfl)
        | (obtain ⟨_, _, _, rfl, _⟩ := h; rfl)
        | (obtain ⟨_, _, _, _, rfl, _⟩ := h; rfl)
        | (obtain ⟨_, _, _, _, _, rfl, _⟩ := h; rfl)
        | (obtain ⟨_, _, _, _, _, _, rfl, _⟩ := h; rfl)
        | (obtain ⟨_, _, _, _, _, _, _, rfl, _⟩ := h; rfl)
        | (obtain ⟨_, _, _, _, _, _, _, _, rfl, _⟩ := h; rfl)
        | (obtain ⟨_, _, _, _, _, _, _, _, _, rfl, _⟩ := h; rfl)) (tm__law_draw T h__law_mixed) rd__law_draw
  have h__law_names : DefAt P w K mg base "_law_names" 1 ps__law_names P__law_names := defAt (F.f__law_names.here X G (fun _ _ _ _ _ _ us hl => match us, hl with | [_, _], _ => rfl)) sc__law_names (by
      intro ds μ Q h
      first
        | (obtain ⟨_, rfl, _⟩ := h; rfl)
        | (obtain ⟨_, _, rfl, _⟩ := h; rfl)
        | (obtain ⟨_, _, _, rfl, _⟩ := h; rfl)
        | (obtain ⟨_, _, _, _, rfl, _⟩ := h; rfl)
        | (obtain ⟨_, _, _, _, _, rfl, _⟩ := h; rfl)
        | (obtain ⟨_, _, _, _, _, _, rfl, _⟩ := h; rfl)
        | (obtain ⟨_, _, _, _, _, _, _, rfl, _⟩ := h; rfl)
        | (obtain ⟨_, _, _, _, _, _, _, _, rfl, _⟩ := h; rfl)
        | (obtain ⟨_, _, _, _, _, _, _, _, _, rfl, _⟩ := h; rfl)) (tm__law_names T ) rd__law_names
  have h__law_lamp : DefAt P w K mg base "_law_lamp" 3 ps__law_lamp P__law_lamp := defAt (F.f__law_lamp.here X G (fun _ _ _ _ _ _ us hl => match us, hl with | [_, _], _ => rfl)) sc__law_lamp (by
      intro ds μ Q h
      first
        | (obtain ⟨_, rfl, _⟩ := h; rfl)
        | (obtain ⟨_, _, rfl, _⟩ := h; rfl)
        | (obtain ⟨_, _, _, rfl, _⟩ := h; rfl)
        | (obtain ⟨_, _, _, _, rfl, _⟩ := h; rfl)
        | (obtain ⟨_, _, _, _, _, rfl, _⟩ := h; rfl)
        | (obtain ⟨_, _, _, _, _, _, rfl, _⟩ := h; rfl)
        | (obtain ⟨_, _, _, _, _, _, _, rfl, _⟩ := h; rfl)
        | (obtain ⟨_, _, _, _, _, _, _, _, rfl, _⟩ := h; rfl)
        | (obtain ⟨_, _, _, _, _, _, _, _, _, rfl, _⟩ := h; rfl)) (tm__law_lamp T h__law_draw) rd__law_lamp
  have h__law_lamps : DefAt P w K mg base "_law_lamps" 4 ps__law_lamps P__law_lamps := defAt (F.f__law_lamps.here X G (fun _ _ _ _ _ _ us hl => match us, hl with | [_, _, _], _ => rfl)) sc__law_lamps (by
      intro ds μ Q h
      first
        | (obtain ⟨_, rfl, _⟩ := h; rfl)
        | (obtain ⟨_, _, rfl, _⟩ := h; rfl)
        | (obtain ⟨_, _, _, rfl, _⟩ := h; rfl)
        | (obtain ⟨_, _, _, _, rfl, _⟩ := h; rfl)
        | (obtain ⟨_, _, _, _, _, rfl, _⟩ := h; rfl)
        | (obtain ⟨_, _, _, _, _, _, rfl, _⟩ := h; rfl)
        | (obtain ⟨_, _, _, _, _, _, _, rfl, _⟩ := h; rfl)
        | (obtain ⟨_, _, _, _, _, _, _, _, rfl, _⟩ := h; rfl)
        | (obtain ⟨_, _, _, _, _, _, _, _, _, rfl, _⟩ := h; rfl)) (tm__law_lamps T h__law_draw h__law_lamp) rd__law_lamps
  have h__law_fleet : DefAt P w K mg base "_law_fleet" 5 ps__law_fleet P__law_fleet := defAt (F.f__law_fleet.here X G (fun _ _ _ _ _ _ us hl => match us, hl with | [_], _ => rfl)) sc__law_fleet (by
      intro ds μ Q h
      first
        | (obtain ⟨_, rfl, _⟩ := h; rfl)
        | (obtain ⟨_, _, rfl, _⟩ := h; rfl)
        | (obtain ⟨_, _, _, rfl, _⟩ := h; rfl)
        | (obtain ⟨_, _, _, _, rfl, _⟩ := h; rfl)
        | (obtain ⟨_, _, _, _, _, rfl, _⟩ := h; rfl)
        | (obtain ⟨_, _, _, _, _, _, rfl, _⟩ := h; rfl)
        | (obtain ⟨_, _, _, _, _, _, _, rfl, _⟩ := h; rfl)
        | (obtain ⟨_, _, _, _, _, _, _, _, rfl, _⟩ := h; rfl)
        | (obtain ⟨_, _, _, _, _, _, _, _, _, rfl, _⟩ := h; rfl)) (tm__law_fleet T h__law_draw h__law_lamps) rd__law_fleet
  have h__law_begun : DefAt P w K mg base "_law_begun" 3 ps__law_begun P__law_begun := defAt (F.f__law_begun.here X G (fun _ _ _ _ _ _ us hl => match us, hl with | [_], _ => rfl)) sc__law_begun (by
      intro ds μ Q h
      first
        | (obtain ⟨_, rfl, _⟩ := h; rfl)
        | (obtain ⟨_, _, rfl, _⟩ := h; rfl)
        | (obtain ⟨_, _, _, rfl, _⟩ := h; rfl)
        | (obtain ⟨_, _, _, _, rfl, _⟩ := h; rfl)
        | (obtain ⟨_, _, _, _, _, rfl, _⟩ := h; rfl)
        | (obtain ⟨_, _, _, _, _, _, rfl, _⟩ := h; rfl)
        | (obtain ⟨_, _, _, _, _, _, _, rfl, _⟩ := h; rfl)
        | (obtain ⟨_, _, _, _, _, _, _, _, rfl, _⟩ := h; rfl)
        | (obtain ⟨_, _, _, _, _, _, _, _, _, rfl, _⟩ := h; rfl)) (tm__law_begun T h__law_folded h__law_draw h__law_names) rd__law_begun
  have h__law_word : DefAt P w K mg base "_law_word" 1 ps__law_word (P__law_word BadText NoKind BadPoint BadSight Full BadMoment BadBoats BadMany NoFoe) := defAt (F.f__law_word.here X G (fun _ _ _ _ _ _ us hl => match us, hl with | [_], _ => rfl)) sc__law_word (by
      intro ds μ Q h
      first
        | (obtain ⟨_, rfl, _⟩ := h; rfl)
        | (obtain ⟨_, _, rfl, _⟩ := h; rfl)
        | (obtain ⟨_, _, _, rfl, _⟩ := h; rfl)
        | (obtain ⟨_, _, _, _, rfl, _⟩ := h; rfl)
        | (obtain ⟨_, _, _, _, _, rfl, _⟩ := h; rfl)
        | (obtain ⟨_, _, _, _, _, _, rfl, _⟩ := h; rfl)
        | (obtain ⟨_, _, _, _, _, _, _, rfl, _⟩ := h; rfl)
        | (obtain ⟨_, _, _, _, _, _, _, _, rfl, _⟩ := h; rfl)
        | (obtain ⟨_, _, _, _, _, _, _, _, _, rfl, _⟩ := h; rfl)) (tm__law_word T iok) (rd__law_word ie)
  have h__law_points : DefAt P w K mg base "_law_points" 1 ps__law_points P__law_points := defAt (F.f__law_points.here X G (fun _ _ _ _ _ _ us hl => match us, hl with | [_, _], _ => rfl)) sc__law_points (by
      intro ds μ Q h
      first
        | (obtain ⟨_, rfl, _⟩ := h; rfl)
        | (obtain ⟨_, _, rfl, _⟩ := h; rfl)
        | (obtain ⟨_, _, _, rfl, _⟩ := h; rfl)
        | (obtain ⟨_, _, _, _, rfl, _⟩ := h; rfl)
        | (obtain ⟨_, _, _, _, _, rfl, _⟩ := h; rfl)
        | (obtain ⟨_, _, _, _, _, _, rfl, _⟩ := h; rfl)
        | (obtain ⟨_, _, _, _, _, _, _, rfl, _⟩ := h; rfl)
        | (obtain ⟨_, _, _, _, _, _, _, _, rfl, _⟩ := h; rfl)
        | (obtain ⟨_, _, _, _, _, _, _, _, _, rfl, _⟩ := h; rfl)) (tm__law_points T ) rd__law_points
  have h__law_shown : DefAt P w K mg base "_law_shown" 2 ps__law_shown P__law_shown := defAt (F.f__law_shown.here X G (fun _ _ _ _ _ _ us hl => match us, hl with | [_, _], _ => rfl)) sc__law_shown (by
      intro ds μ Q h
      first
        | (obtain ⟨_, rfl, _⟩ := h; rfl)
        | (obtain ⟨_, _, rfl, _⟩ := h; rfl)
        | (obtain ⟨_, _, _, rfl, _⟩ := h; rfl)
        | (obtain ⟨_, _, _, _, rfl, _⟩ := h; rfl)
        | (obtain ⟨_, _, _, _, _, rfl, _⟩ := h; rfl)
        | (obtain ⟨_, _, _, _, _, _, rfl, _⟩ := h; rfl)
        | (obtain ⟨_, _, _, _, _, _, _, rfl, _⟩ := h; rfl)
        | (obtain ⟨_, _, _, _, _, _, _, _, rfl, _⟩ := h; rfl)
        | (obtain ⟨_, _, _, _, _, _, _, _, _, rfl, _⟩ := h; rfl)) (tm__law_shown T h__law_points) rd__law_shown
  have h__law_sectors : DefAt P w K mg base "_law_sectors" 3 ps__law_sectors P__law_sectors := defAt (F.f__law_sectors.here X G (fun _ _ _ _ _ _ us hl => match us, hl with | [_], _ => rfl)) sc__law_sectors (by
      intro ds μ Q h
      first
        | (obtain ⟨_, rfl, _⟩ := h; rfl)
        | (obtain ⟨_, _, rfl, _⟩ := h; rfl)
        | (obtain ⟨_, _, _, rfl, _⟩ := h; rfl)
        | (obtain ⟨_, _, _, _, rfl, _⟩ := h; rfl)
        | (obtain ⟨_, _, _, _, _, rfl, _⟩ := h; rfl)
        | (obtain ⟨_, _, _, _, _, _, rfl, _⟩ := h; rfl)
        | (obtain ⟨_, _, _, _, _, _, _, rfl, _⟩ := h; rfl)
        | (obtain ⟨_, _, _, _, _, _, _, _, rfl, _⟩ := h; rfl)
        | (obtain ⟨_, _, _, _, _, _, _, _, _, rfl, _⟩ := h; rfl)) (tm__law_sectors T h__law_shown) rd__law_sectors
  have h__law_is_whole : DefAt P w K mg base "_law_is_whole" 1 ps__law_is_whole P__law_is_whole := defAt (F.f__law_is_whole.here X G (fun _ _ _ _ _ _ us hl => match us, hl with | [_], _ => rfl)) sc__law_is_whole (by
      intro ds μ Q h
      first
        | (obtain ⟨_, rfl, _⟩ := h; rfl)
        | (obtain ⟨_, _, rfl, _⟩ := h; rfl)
        | (obtain ⟨_, _, _, rfl, _⟩ := h; rfl)
        | (obtain ⟨_, _, _, _, rfl, _⟩ := h; rfl)
        | (obtain ⟨_, _, _, _, _, rfl, _⟩ := h; rfl)
        | (obtain ⟨_, _, _, _, _, _, rfl, _⟩ := h; rfl)
        | (obtain ⟨_, _, _, _, _, _, _, rfl, _⟩ := h; rfl)
        | (obtain ⟨_, _, _, _, _, _, _, _, rfl, _⟩ := h; rfl)
        | (obtain ⟨_, _, _, _, _, _, _, _, _, rfl, _⟩ := h; rfl)) (tm__law_is_whole T ) rd__law_is_whole
  exact fnG_lam l cc sc_law (by
      intro ds μ Q h
      obtain ⟨_, rfl, _⟩ := h
      rfl) (tm_law (cat := fun C => PySem.W.exmOne K (.ref C) (.ref LightError)) (c := c0) (Pa := P0) T iok h__law_begun h__law_fleet h_Fleet h_sectors h__law_sectors h__law_is_whole h__law_draw h_Fleet_plain HL h__law_word (PySem.W.mg_of X G F.at_LightError) (fun _ _ h => h) (tb _ (.head _)) (.head _) (fun p hp _ => by rw [List.mem_singleton.mp hp])) (rd_law ip F.xc_NoKind)
end DL.K21
open PySem PySem.W PyProof.Rows in
set_option maxRecDepth 100000 in
set_option maxHeartbeats 0 in
theorem PySem.Challenge.cw_lanternwatch_k21_sectors_holds : PySem.Challenge.rw_lanternwatch_k21_sectors.Holds := by
  w_on; o_law; k_head; (case hw => w_witness2)
  k_fill
  refine DL.walkH (l := PySem.Challenge.rw_lanternwatch_k21_sectors) (n := 63) (k := 9) (x := "_law_script") ["law"] ?R rfl (by decide) rfl ⟨rfl, by decide, by decide⟩ (fun w h Y => PySem.W.km_in_of Y) ?F
  case R => decide +kernel
  case F =>
    intro w mg fa h Y KX G hmg tabs
    refine' DL.K21.the_law KX G hmg tabs ?FF
    case FF =>
      refine' { f_is_number := ?f_is_number, f_is_point := ?f_is_point, f_is_name_of := ?f_is_name_of, f_check_point := ?f_check_point, f_shows := ?f_shows, f_colours_at := ?f_colours_at, f_kind_row := ?f_kind_row, m_Fleet___init__ := ?m_Fleet___init__, m_Fleet_plain := ?m_Fleet_plain, m_Fleet_kinds := ?m_Fleet_kinds, m_Fleet__row := ?m_Fleet__row, m_Fleet_lamps := ?m_Fleet_lamps, f_seen := ?f_seen, f_looks_of_boat := ?f_looks_of_boat, f_sectors := ?f_sectors, f__law_mixed := ?f__law_mixed, f__law_folded := ?f__law_folded, f__law_draw := ?f__law_draw, f__law_names := ?f__law_names, f__law_lamp := ?f__law_lamp, f__law_lamps := ?f__law_lamps, f__law_fleet := ?f__law_fleet, f__law_begun := ?f__law_begun, f__law_word := ?f__law_word, f__law_points := ?f__law_points, f__law_shown := ?f__law_shown, f__law_sectors := ?f__law_sectors, f__law_is_whole := ?f__law_is_whole, f_law := ?f_law, f__law_lost := ?f__law_lost, nT0 := ?nT0, at_Fleet := ?at_Fleet, at_BadText := ?at_BadText, at_NoKind := ?at_NoKind, at_BadPoint := ?at_BadPoint, at_BadSight := ?at_BadSight, at_Full := ?at_Full, at_BadMoment := ?at_BadMoment, at_BadBoats := ?at_BadBoats, at_BadMany := ?at_BadMany, at_NoFoe := ?at_NoFoe, at_LightError := ?at_LightError, c_LAST_POINT := ?c_LAST_POINT, c_POINTS := ?c_POINTS, z_ValueError := ?z_ValueError, z_bool := ?z_bool, z_enumerate := ?z_enumerate, z_int := ?z_int, z_isinstance := ?z_isinstance, z_len := ?z_len, z_list := ?z_list, z_range := ?z_range, z_repr := ?z_repr, z_str := ?z_str, z_sum := ?z_sum, z_tuple := ?z_tuple, z_zip := ?z_zip, pg_Fleet := ?pg_Fleet, hd_Fleet := ?hd_Fleet, po_Fleet := ?po_Fleet, sa_Fleet := ?sa_Fleet, mk_Fleet := ?mk_Fleet, kc_Fleet := ?kc_Fleet, n_Fleet__colours := ?n_Fleet__colours, n_Fleet__rows := ?n_Fleet__rows, ec_BadPoint := ?ec_BadPoint, ek_BadPoint := ?ek_BadPoint, eb_BadPoint := ?eb_BadPoint, et_BadPoint := ?et_BadPoint, ec_NoKind := ?ec_NoKind, ek_NoKind := ?ek_NoKind, eb_NoKind := ?eb_NoKind, et_NoKind := ?et_NoKind, xg_NoKind := ?xg_NoKind, xk_NoKind := ?xk_NoKind, xs_NoKind := ?xs_NoKind, xd_NoKind := ?xd_NoKind, xa_NoKind := ?xa_NoKind, xm_NoKind := ?xm_NoKind, xc_NoKind := ?xc_NoKind, x_spec := ?x_spec, x_takes := ?x_takes, k_err := ?k_err, k_val := ?k_val, k_ty := ?k_ty }
      (case at_Fleet => (k_is))
      (case at_BadText => (k_is))
      (case at_NoKind => (k_is))
      (case at_BadPoint => (k_is))
      (case at_BadSight => (k_is))
      (case at_Full => (k_is))
      (case at_BadMoment => (k_is))
      (case at_BadBoats => (k_is))
      (case at_BadMany => (k_is))
      (case at_NoFoe => (k_is))
      (case at_LightError => (k_is))
      (case f_is_number => (refine' DL.fnF ?a ?l ?c ?k; (case a => k_is); (case l => k_is); (case c => k_is); (case k => k_is)))
      (case f_is_point => (refine' DL.fnF ?a ?l ?c ?k; (case a => k_is); (case l => k_is); (case c => k_is); (case k => k_is)))
      (case f_is_name_of => (refine' DL.fnF ?a ?l ?c ?k; (case a => k_is); (case l => k_is); (case c => k_is); (case k => k_is)))
      (case f_check_point => (refine' DL.fnF ?a ?l ?c ?k; (case a => k_is); (case l => k_is); (case c => k_is); (case k => k_is)))
      (case f_shows => (refine' DL.fnF ?a ?l ?c ?k; (case a => k_is); (case l => k_is); (case c => k_is); (case k => k_is)))
      (case f_colours_at => (refine' DL.fnF ?a ?l ?c ?k; (case a => k_is); (case l => k_is); (case c => k_is); (case k => k_is)))
      (case f_kind_row => (refine' DL.fnF ?a ?l ?c ?k; (case a => k_is); (case l => k_is); (case c => k_is); (case k => k_is)))
      (case m_Fleet___init__ => (refine' DL.mtF ?a ?i ?l ?c ?k; (case a => k_is); (case i => k_is); (case l => k_is); (case c => k_is); (case k => k_is)))
      (case m_Fleet_plain => (refine' DL.mtF ?a ?i ?l ?c ?k; (case a => k_is); (case i => k_is); (case l => k_is); (case c => k_is); (case k => k_is)))
      (case m_Fleet_kinds => (refine' DL.mtF ?a ?i ?l ?c ?k; (case a => k_is); (case i => k_is); (case l => k_is); (case c => k_is); (case k => k_is)))
      (case m_Fleet__row => (refine' DL.mtF ?a ?i ?l ?c ?k; (case a => k_is); (case i => k_is); (case l => k_is); (case c => k_is); (case k => k_is)))
      (case m_Fleet_lamps => (refine' DL.mtF ?a ?i ?l ?c ?k; (case a => k_is); (case i => k_is); (case l => k_is); (case c => k_is); (case k => k_is)))
      (case f_seen => (refine' DL.fnF ?a ?l ?c ?k; (case a => k_is); (case l => k_is); (case c => k_is); (case k => k_is)))
      (case f_looks_of_boat => (refine' DL.fnF ?a ?l ?c ?k; (case a => k_is); (case l => k_is); (case c => k_is); (case k => k_is)))
      (case f_sectors => (refine' DL.fnF ?a ?l ?c ?k; (case a => k_is); (case l => k_is); (case c => k_is); (case k => k_is)))
      (case f__law_mixed => (refine' DL.fnF ?a ?l ?c ?k; (case a => k_is); (case l => k_is); (case c => k_is); (case k => k_is)))
      (case f__law_folded => (refine' DL.fnF ?a ?l ?c ?k; (case a => k_is); (case l => k_is); (case c => k_is); (case k => k_is)))
      (case f__law_draw => (refine' DL.fnF ?a ?l ?c ?k; (case a => k_is); (case l => k_is); (case c => k_is); (case k => k_is)))
      (case f__law_names => (refine' DL.fnF ?a ?l ?c ?k; (case a => k_is); (case l => k_is); (case c => k_is); (case k => k_is)))
      (case f__law_lamp => (refine' DL.fnF ?a ?l ?c ?k; (case a => k_is); (case l => k_is); (case c => k_is); (case k => k_is)))
      (case f__law_lamps => (refine' DL.fnF ?a ?l ?c ?k; (case a => k_is); (case l => k_is); (case c => k_is); (case k => k_is)))
      (case f__law_fleet => (refine' DL.fnF ?a ?l ?c ?k; (case a => k_is); (case l => k_is); (case c => k_is); (case k => k_is)))
      (case f__law_begun => (refine' DL.fnF ?a ?l ?c ?k; (case a => k_is); (case l => k_is); (case c => k_is); (case k => k_is)))
      (case f__law_word => (refine' DL.fnF ?a ?l ?c ?k; (case a => k_is); (case l => k_is); (case c => k_is); (case k => k_is)))
      (case f__law_points => (refine' DL.fnF ?a ?l ?c ?k; (case a => k_is); (case l => k_is); (case c => k_is); (case k => k_is)))
      (case f__law_shown => (refine' DL.fnF ?a ?l ?c ?k; (case a => k_is); (case l => k_is); (case c => k_is); (case k => k_is)))
      (case f__law_sectors => (refine' DL.fnF ?a ?l ?c ?k; (case a => k_is); (case l => k_is); (case c => k_is); (case k => k_is)))
      (case f__law_is_whole => (refine' DL.fnF ?a ?l ?c ?k; (case a => k_is); (case l => k_is); (case c => k_is); (case k => k_is)))
      (case f_law => (refine' DL.lmF ?a ?l ?e ?k ?l2 ?v; (case a => k_is); (case l => k_is); (case e => k_is); (case k => k_is); (case l2 => k_is); (case v => rfl)))
      (case f__law_lost => (refine' DL.fnF ?a ?l ?c ?k; (case a => k_is); (case l => k_is); (case c => k_is); (case k => k_is)))
      (case c_LAST_POINT => (refine' DL.intF ?a; (case a => k_is)))
      (case c_POINTS => (refine' DL.intF ?a; (case a => k_is)))
      (case z_ValueError => (first | k_is | kernel_rfl | rfl))
      (case z_bool => (first | k_is | kernel_rfl | rfl))
      (case z_enumerate => (first | k_is | kernel_rfl | rfl))
      (case z_int => (first | k_is | kernel_rfl | rfl))
      (case z_isinstance => (first | k_is | kernel_rfl | rfl))
      (case z_len => (first | k_is | kernel_rfl | rfl))
      (case z_list => (first | k_is | kernel_rfl | rfl))
      (case z_range => (first | k_is | kernel_rfl | rfl))
      (case z_repr => (first | k_is | kernel_rfl | rfl))
      (case z_str => (first | k_is | kernel_rfl | rfl))
      (case z_sum => (first | k_is | kernel_rfl | rfl))
      (case z_tuple => (first | k_is | kernel_rfl | rfl))
      (case z_zip => (first | k_is | kernel_rfl | rfl))
      (case pg_Fleet => (first | k_is | kernel_rfl | rfl))
      (case hd_Fleet => (first | k_is | kernel_rfl | rfl))
      (case po_Fleet => (first | k_is | kernel_rfl | rfl))
      (case sa_Fleet => (first | k_is | kernel_rfl | rfl))
      (case mk_Fleet => (first | k_is | kernel_rfl | rfl))
      (case kc_Fleet => (first | k_is | kernel_rfl | rfl))
      (case n_Fleet__colours => (first | k_is | kernel_rfl | rfl))
      (case n_Fleet__rows => (first | k_is | kernel_rfl | rfl))
      (case ec_BadPoint => (first | k_is | kernel_rfl | rfl))
      (case ek_BadPoint => (first | k_is | kernel_rfl | rfl))
      (case eb_BadPoint => (first | k_is | kernel_rfl | rfl))
      (case et_BadPoint => (first | k_is | kernel_rfl | rfl))
      (case ec_NoKind => (first | k_is | kernel_rfl | rfl))
      (case ek_NoKind => (first | k_is | kernel_rfl | rfl))
      (case eb_NoKind => (first | k_is | kernel_rfl | rfl))
      (case et_NoKind => (first | k_is | kernel_rfl | rfl))
      (case xg_NoKind => (first | k_is | kernel_rfl | rfl))
      (case xk_NoKind => (first | k_is | kernel_rfl | rfl))
      (case xs_NoKind => (first | k_is | kernel_rfl | rfl))
      (case xd_NoKind => (first | k_is | kernel_rfl | rfl))
      (case xa_NoKind => (first | k_is | kernel_rfl | rfl))
      (case xm_NoKind => (first | k_is | kernel_rfl | rfl))
      (case xc_NoKind => (first | k_is | kernel_rfl | rfl))
      (case x_spec => (first | k_is | kernel_rfl | rfl))
      (case x_takes => (first | k_is | kernel_rfl | rfl))
      (case nT0 => (first | kernel_rfl | k_is | rfl))
      (case k_err => (first | kernel_rfl | k_is | rfl))
      (case k_val => (first | kernel_rfl | k_is | rfl))
      (case k_ty => (first | kernel_rfl | k_is | rfl))
