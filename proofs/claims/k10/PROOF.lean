import PyProof.Rows.All
import Wide.All
import OpenK.AllK
import Wide.FinOn
import HandS.ForMost
import HandS.ForExc
import HandS.Flow
import HandS.More
import HandS.Strs
import HandS.IsInst
import HandS.TupAny
import KE.KExcSuper
import KE.KSuper
import HandS.ExcField
import HandS.ExcIs
import HandS.ExcValue
import HandS.FStr
import HandS.Defaults
import KE.GoesEnumKw
import KE.GoesMore
import PyProof.Rows.CallKwBuiltin
import HandS.WordsExc
import KE.KStrOpen
import PySem.Challenge.RW_lanternwatch_k10_lines_told
set_option Elab.async false
set_option linter.all false
set_option maxRecDepth 100000
set_option maxHeartbeats 1000001
/-! An error of the program that sets its own line behind super().__init__(..): made, raised. -/
namespace BTX
open PySem PySem.W PySem.Calls PyProof.Rows PySem.HandSPX
/-! its __init__, as it stands in the text -/
def bArgs (p1 p2 p3 : Pos) (j : Nat) : Arguments := { posonlyargs := [], args := [{ arg := "self", annotation := none, pos := p1 }, { arg := "line", annotation := none, pos := p2 }], vararg := none, kwonlyargs := [], kw_defaults := [], kwarg := none, defaults := [.Constant (.int 0) j p3] }
def bBody (msg : Str) (j : Nat) (a1 a2 a3 a4 a5 b1 b2 b3 b4 c1 c2 c3 c4 : Pos) : List Stmt :=
  [.Expr (.Call (.Attribute (.Call (.Name "super" a1) [] [] a2) "__init__" a3) [.JoinedStr [.Constant (.str msg) j b1, .FormattedValue (.Name "line" b2) (-1) none b3] b4] [] a4) a5,
   .Assign [.Attribute (.Name "self" c1) "line" c2] (.Name "line" c3) c4]
def bScope : Scope := { kind := .function, names := [(PySem.Str.ofString "self", .local), (PySem.Str.ofString "line", .local), (PySem.Str.ofString "__class__", .free), (PySem.Str.ofString "super", .globalImplicit)], isGenerator := false, isCoroutine := false, more := [] }
/-- what the program's top has written of the class at C and of its __init__ at fI -/
structure BadTxt (prog : Program) (K : Frag) (mg : Str → Option Value) (x : Str) (C fI : Addr) : Prop where
  here : mg x = some (.ref C)
  noSuper : mg "super" = none
  cls : ∃ nm q N bs bm sn sub ab col dd k0 k1 k2 k3 k5, K.lookup C = some (excClassObj nm q C N bs bm true sn sub ab col dd k0 k1 k2 k3 k5 "ValueError.__new__") ∧ refsVE bm = true
  sets : findIn K (.ref C) "__setattr__" = some (some (.builtin "object.__setattr__"))
  gets : findIn K (.ref C) "__getattribute__" = some (some (.builtin "BaseException.__getattribute__"))
  noGet : findIn K (.ref C) "__getattr__" = some none
  noLine : findIn K (.ref C) "line" = some none
  ini : findIn K (.ref C) "__init__" = some (some (.ref fI))
  iniTy : typeIn K (.ref fI) = some (.type "function")
  keep : keepIn K (.ref C) = true
  exc : subIn K (.ref C) (.type "BaseException") = some true
  ty : typeIn K (.ref C) = some (.type "type")
  dict : hasDictIn K C = true
  up : ks_superIn K C C "__init__" = some (some (.builtin "ValueError.__init__"))
  noAny : nsIn K cStatics "thirdparty.any" = some none
  val : subIn K (.ref C) (.type "ValueError") = some true
  self : mroIn K C (.ref C) = some true
  top : (prog.main.scope.names.lookup ("super" : Str)).isSome = false
  fn : ∃ (oc : Value) (od : Option Addr) (dT : Addr) (doc pm : Value) (an : Option Addr) (cda cc : Addr) (ct : Value) (osl : Array (Option Value)) (msg : Str) (j j' : Nat) (p1 p2 p3 a1 a2 a3 a4 a5 b1 b2 b3 b4 c1 c2 c3 c4 : Pos),
    K.lookup fI = some ⟨oc, od, .func (ksFn "__init__" (x ++ ".__init__") (bArgs p1 p2 p3 j') (bBody msg j a1 a2 a3 a4 a5 b1 b2 b3 b4 c1 c2 c3 c4) bScope (.ref dT) .none doc pm an (.ref cda) ct cc), osl⟩ ∧ codeIn K (.ref cda) (x ++ ".__init__") = true ∧
    (∃ (o2 : Value) (d2 : Option Addr) (vs : Array Value) (s2 : Array (Option Value)) (file : Str) (tf : Tok), K.lookup cda = some ⟨o2, d2, .fields vs, s2⟩ ∧ vs[2]? = some (.str file tf) ∧ ((prog.main.file : Str) == file) = true) ∧
    (∃ (o3 : Value) (d3 : Option Addr) (s3 : Array (Option Value)), K.lookup cc = some ⟨o3, d3, .cell (some (.ref C)), s3⟩) ∧ msg.length ≤ 200 ∧ (a3.endLine == a4.line) = true ∧ ∃ (oT : Obj) (d0 : Value) (m : Nat), K.lookup dT = some oT ∧ oT.data = .seq #[d0] m
/-- behind __init__ of a fresh one at x -/
structure After (h h' : Heap) (x C dx t1 : Addr) (v : Value) : Prop where
  old : ∀ b o, b ≠ x → h.get? b = some o → h'.get? b = some o
  it : h'.get? x = some { cls := .ref C, dict := some dx, data := .fields #[.ref t1, .none, .none, .none, .bool false, .none] }
  far : h.objs.size ≤ dx
  apart : dx ≠ x
  line : h'.Ns1 dx (fun y => if y = "line" then some v else none)
/-- one made -/
structure MadeOne (h h' : Heap) (e C d : Addr) (v : Value) : Prop where
  old : ∀ b o, h.get? b = some o → h'.get? b = some o
  fresh : h.objs.size ≤ e
  it : ∃ oe vs, h'.get? e = some oe ∧ oe.cls = .ref C ∧ oe.dict = some d ∧ oe.data = .fields vs ∧ vs[1]? = some .none
  far : h.objs.size ≤ d
  apart : d ≠ e
  line : h'.Ns1 d (fun y => if y = "line" then some v else none)
/-- a method's call whose dot stands in the call's first line -/
theorem mcall_line {o : Expr} {name : Str} {apos pos : Pos} {args : List Expr} {env : Env} (hl : (apos.endLine == pos.line) = true) (few : methodCallForm (args.length + 0) (backTo pos (starEach args env)) [] = true) : eval (.Call (.Attribute o name apos) args [] pos) env = (do
      let ov ← attributeBase o name env (eval o env)
      standAt apos.atName
      let (f, first) ← holding [ov] (getMethod ov name (do return (← importBound o env).getD true))
      callWith pos f first (backTo pos (starEach args env)) []) := by
  have e2 : backToKw pos (keywordEach [] env) = [] := by rfl
  rw [arm_eval_Call, e2]
  simp only [methodCall, calleeOf, methodCallPos, List.length_nil, few, hl, if_true, Bool.or_true, pure_bind, Bool.not_true, Bool.false_or]
section
variable {prog : Program} {w : World} {A : Around} {E : Value → Shared → Prop} {R : Result → Shared → Prop} {K : Frag} {mg : Str → Option Value} {C fI : Addr} {nx : Str}
/-- ValueError.__init__, bound to the object by super, called -/
theorem up_call {h : Heap} {g : Array GenState} {d : Drawn} {t : Nat} {os : OsState} {nm q : Str} {N : Addr} {bs bm : List Value} {hdct : Bool} {sn : List Str} {sub : List Value} {ab : Bool} {col : Option Bool} {dd : Option Addr} {k0 k1 k2 k3 k5 : Option Value}
    {u e t0 : Addr} {rest : List Value} {Q : Value → Shared → Prop} (hc : h.get? C = some (excClassObj nm q C N bs bm hdct sn sub ab col dd k0 k1 k2 k3 k5 "ValueError.__new__")) (hx : h.get? e = some (excO C t0)) (hw : h.get? u = some (kxs_mw "ValueError.__init__" e)) (few : rest.length ≤ sizeLine)
    (hq : ∀ h' t1, (∀ b o, b ≠ e → h.get? b = some o → h'.get? b = some o) → h'.get? e = some (excO C t1) → Q .none ⟨h', g, d, t, os⟩) :
    wpAny (model prog w) A (call (.ref u) rest) Q E ⟨h, g, d, t, os⟩ := by
  refine wpAny_call (codeAny_of_tree ?_)
  show wpAny _ A.in1 (callAny (.ref u) ⟨rest, []⟩) _ _ _
  simp only [callAny]
  refine wpAny_bind (wpAny_load hw ?_)
  simp only [kxs_mw, show (Value.type "method-wrapper" == Value.type "method" || Value.type "method-wrapper" == Value.type "builtin_function_or_method" || Value.type "method-wrapper" == Value.type "method-wrapper") = true by decide, if_true]
  refine KFB.if_so (by decide) ?_
  refine wpAny_bind (check_bound_init F.excBase_ValueError.toExcCallFacts hc hx rfl ?_)
  refine wpAny_bind (wpAny_pure (wpAny_pure ?_))
  refine ⟨plainId_quiet F.excBase_ValueError.init.plain _, codeAny_builtin F.excBase_ValueError.initEntry ?_⟩
  exact exc_init_tree (cls := .ref C) (t0 := t0) (dv := none) (c2 := .none) (c3 := .none) (b4 := .bool false) hx few fun h' k e' _ => hq h' _ k e'
theorem bad_init (T : BadTxt prog K mg nx C fI) {s : Shared} {x t0 : Addr} {n : Int} {t : Tok} {mb : Str → Option Value} (X : K.In s.heap) (hg : s.heap.Ns mainGlobals mg) (hb : s.heap.Ns builtinsNs mb) (hmb : mb "super" = bootBuiltins "super")
    (hlim : s.heap.NoLimit) (hx : s.heap.get? x = some (excO C t0)) (hroom : A.depth < recursionLimit) (hn : n.natAbs.log2 < 1920) (hz : (Str.ofString (toString n)).length ≤ 1000) (hxC : x ≠ C) (hnx : K.lookup x = none)
    (hq : ∀ h' tk dx t1, After s.heap h' x C dx t1 (.int n t) → R (.ok (.ret .none)) { s with heap := h', toks := tk }) :
    codeAny (model prog w) A (.call (.ref fI) ⟨[.ref x, .int n t], []⟩) R s := by
  obtain ⟨oc, od, dT, doc, pm, an, cda, cc, ct, osl, msg, j, j', p1, p2, p3, a1, a2, a3, a4, a5, b1, b2, b3, b4, c1, c2, c3, c4, ho, hcd, ⟨o2, d2, vs2, s2, file, tf, hcda, hv2, hfile⟩, ⟨o3, d3, s3, hcc⟩, hmsg, hdot, oT, d0, mT, lT, hT⟩ := T.fn
  obtain ⟨nm, q, N, bs, bm, sn, sub, ab, col, dd, k0, k1, k2, k3, k5, hC, hbm⟩ := T.cls
  have hcl : clsIn K C = some { name := nm, bases := bs, mro := .ref C :: bm, ns := N, qualname := q, hasDict := true, slotNames := sn, subclasses := sub, abstract := ab, collection := col, hasDel := false } := by unfold clsIn; rw [hC] <;> rfl
  refine ks_codeAny_call_defAt (binds := [("self", .ref x), ("line", .int n t)]) hroom (X _ _ ho) rfl hlim (codeRec_of X hcd) rfl (L2.BindsTo.of_looks fun M => L2.looks_items X lT hT (.of_pure rfl)) (show ∀ y ∈ bScope.names, y.2 ≠ .cell by decide) (fun y hy => by rcases List.mem_cons.mp hy with rfl | hy <;> first | rfl | (rcases List.mem_cons.mp hy with rfl | hy <;> first | rfl | cases hy)) (fun h1 hns k1 => ?_) rfl rfl rfl
  show PySem.wpAt _ _ _ (execs _ (ksEnv (nx ++ ".__init__") bScope s.heap.objs.size fI (.ref cda) cc)) _ _ _
  refine ks_wpAt_execs_cons (ks_wpAt_Expr_any ?_ rfl rfl)
  refine ks_wpAt_MethodCall ?_ (mcall_line hdot (by rfl))
  have X1 : K.In h1 := X.keeps k1
  have it1 := k1 _ _ hx
  have hC1 := X1 _ _ hC
  obtain ⟨hp, gg, dr, tk0, os⟩ := s
  refine ks_wpAt_super_base (env := ksEnv (nx ++ ".__init__") bScope hp.objs.size fI (.ref cda) cc) rfl rfl (by decide) rfl (k1 _ _ (X _ _ ho)) rfl rfl rfl (k1 _ _ (X _ _ hcda)) rfl hv2 hfile T.top ?_
  refine ks_loadName_global rfl rfl (loadGlobal_builtin (env := ksEnv (nx ++ ".__init__") bScope hp.objs.size fI (.ref cda) cc) (hg.keeps k1) T.noSuper (hb.keeps k1) (hmb.trans rfl) ⟨rfl, ?_⟩)
  refine wpAny_loadName_free rfl rfl rfl ⟨_, k1 _ _ (X _ _ hcc), rfl⟩ ?_
  refine wpAny_loadName_local rfl rfl hns (by first | rfl | with_unfolding_all rfl | kernel_rfl) ?_
  refine ks_wpAny_isType_cls hC1 rfl ⟨rfl, ?_⟩
  refine ks_wpAny_call_super hC1 rfl it1 rfl (fun c e => by cases e) (looks_mroIn X1 T.self) (fun h2 so k2 => ?_)
  have X2 : K.In h2 := X1.keeps k2
  have I2 : InstAt h2 x (excO C t0) C none := ⟨k2 _ _ it1, rfl, rfl, trivial⟩
  have up := T.up
  unfold ks_superIn at up
  rw [hcl, Option.bind_some] at up
  refine kxs_getMethod kxs_ValueError so (looks_opaque X2 T.noAny) (l₀ := .ref C :: bm) ?_ rfl X2 up (I2.type.andThen (looks_subIn X2 T.val)) hxC (by decide) ?_
  · exact fun A Q E s k q => wpAny_bind ((looks_clsIn X2 hcl) A _ E s k (wpAny_pure q))
  have k3 : ∀ b o, h2.get? b = some o → (h2.push (kxs_mw "ValueError.__init__" x)).get? b = some o := fun b o e => Heap.get?_push_of_some _ e
  have hu : (h2.push (kxs_mw "ValueError.__init__" x)).get? h2.objs.size = some (kxs_mw "ValueError.__init__" x) := Heap.get?_push_at rfl rfl
  refine kxs_callWith (i := "ValueError.__init__") (x := x) (by rfl) (evalArgs_plain (spliced_cons ?_))
  refine wpAny_JoinedStr (pos := b4) ?_
  show Joins _ _ _ [eval (.Constant (.str msg) j b1) _, eval (.FormattedValue (.Name "line" b2) (-1) none b3) _] _ _ _
  refine wpAny_Constant_str ⟨msg, _, rfl, by show (Str.empty ++ msg).length ≤ sizeLine; rw [Str.length_append]; show 0 + msg.length ≤ _; rw [sizeLine_eq]; omega, ?_⟩
  have hxL : hp.objs.size ≠ x := Nat.ne_of_gt (Heap.lt_size hx)
  have k13 : ∀ b o, h1.get? b = some o → (h2.push (kxs_mw "ValueError.__init__" x)).get? b = some o := fun b o e => k3 _ _ (k2 _ _ e)
  have hns3 := hns.keeps k13
  refine wpAny_FormattedValue_plain (wpAny_Name (wpAny_loadName_local (v := .int n t) rfl rfl hns3 (by first | rfl | with_unfolding_all rfl | kernel_rfl) ?_) (by decide))
  refine wpAny_formatField_int hn ?_
  have few : (Str.empty ++ msg ++ Str.ofString (toString n)).length ≤ sizeLine := by
    rw [Str.length_append, Str.length_append]
    show 0 + msg.length + _ ≤ _
    rw [sizeLine_eq]; omega
  refine ⟨Str.ofString (toString n), _, rfl, few, few, spliced_nil ⟨hu, ?_⟩⟩
  show wpAny _ _ (call (.ref h2.objs.size) [_]) _ _ _
  refine up_call (k3 _ _ (k2 _ _ hC1)) (k3 _ _ (k2 _ _ it1)) hu (by rw [sizeLine_eq]; exact (by decide : 1 ≤ 16777216)) (fun h4 t1 k4 it4 => ?_)
  have hns4 : h4.Ns hp.objs.size (fun y => List.lookup y (List.reverse [(("self" : Str), Value.ref x), ("line", .int n t)])) := by
    obtain ⟨oL, es, ep, hL, r⟩ := hns
    exact ⟨oL, es, ep, k4 _ _ hxL (k13 _ _ hL), r⟩
  have X4 : K.In h4 := fun b o e => k4 b o (fun z => by rw [z, hnx] at e; cases e) (k13 _ _ (X1 b o e))
  have k04 : ∀ b o, b ≠ x → hp.get? b = some o → h4.get? b = some o := fun b o hb e => k4 b o hb (k13 _ _ (k1 _ _ e))
  refine wpAt_of_wpAny (wpAny_execs_cons (plainObj_wpAny_Assign_Attribute ?_))
  refine wpAny_Name (wpAny_loadName_local (v := .int n t) rfl rfl hns4 (by first | rfl | with_unfolding_all rfl | kernel_rfl) ?_) (by decide)
  refine wpAny_Name (wpAny_loadName_local (v := .ref x) rfl rfl hns4 (by first | rfl | with_unfolding_all rfl | kernel_rfl) ?_) (by decide)
  refine set_plain X4 (ox := excO C t1) (od := none) ⟨it4, rfl, rfl, trivial⟩ T.sets ?_
  refine exc_osa X4 it4 hcl (show refsVE (.ref C :: bm) = true from hbm) rfl T.noLine (fun h5 tk5 dx k5 far apart it5 line5 => ?_)
  have z4 : hp.objs.size ≤ h4.objs.size := Nat.le_of_lt hns4.lt
  exact wpAny_execs_nil (hq h5 tk5 dx t1 ⟨fun b o hb e => k5 b o hb (k04 b o hb e), it5, Nat.le_trans z4 far, apart, line5⟩)
end
end BTX
set_option Elab.async false
set_option linter.all false
set_option maxRecDepth 100000
set_option maxHeartbeats 1000001
namespace BTX
open PySem PySem.W PySem.Calls PyProof.Rows PySem.HandSPX
section
variable {prog : Program} {w : World} {A : Around} {E : Value → Shared → Prop} {R : Result → Shared → Prop} {K : Frag} {mg : Str → Option Value} {C fI : Addr} {nx : Str}
theorem bad_made (T : BadTxt prog K mg nx C fI) {s : Shared} {n : Int} {t : Tok} {mb : Str → Option Value} (X : K.In s.heap) (hg : s.heap.Ns mainGlobals mg) (hb : s.heap.Ns builtinsNs mb) (hmb : mb "super" = bootBuiltins "super")
    (hlim : s.heap.NoLimit) (hroom : A.depth + 1 < recursionLimit) (hn : n.natAbs.log2 < 1920) (hz : (Str.ofString (toString n)).length ≤ 1000)
    (hq : ∀ h' tk e d, MadeOne s.heap h' e C d (.int n t) → R (.ok (.ret (.ref e))) { s with heap := h', toks := tk }) :
    codeAny (model prog w) A (.call (.ref C) ⟨[.int n t], []⟩) R s := by
  obtain ⟨nm, q, N, bs, bm, sn, sub, ab, col, dd, k0, k1, k2, k3, k5, hC, hbm⟩ := T.cls
  obtain ⟨hp, g, dr, tk, os⟩ := s
  have up : ∀ b o, hp.get? b = some o → ((hp.push (kdv_tup [.int n t])).push (excO C hp.objs.size)).get? b = some o := fun b o e => Heap.get?_push_of_some _ (Heap.get?_push_of_some _ e)
  have here : ((hp.push (kdv_tup [.int n t])).push (excO C hp.objs.size)).get? (hp.objs.size + 1) = some (excO C hp.objs.size) := by heap_get
  have new : ∀ b o, hp.get? b = some o → hp.objs.size + 1 ≠ b := fun b o e z => by
    have y := Heap.lt_size e
    rw [← z] at y
    exact absurd (Nat.lt_of_succ_lt y) (Nat.lt_irrefl _)
  have hnx : K.lookup (hp.objs.size + 1) = none := by
    cases e : K.lookup (hp.objs.size + 1) with
    | none => rfl
    | some o => exact absurd rfl (new _ o (X _ _ e))
  refine call_own F.excBase_ValueError (fun Y => refsVE_contains Y bm hbm) (X _ _ hC) (looks_findIn X T.ini) (fun self => bind_fn X self T.iniTy) (by rw [sizeLine_eq]; exact (by decide : 1 ≤ 16777216)) ?_
  refine bad_init (s := ⟨(hp.push (kdv_tup [.int n t])).push (excO C hp.objs.size), g, dr, tk, os⟩) T (X.keeps up) (hg.keeps up) (hb.keeps up) hmb (hlim.keeps up) here hroom hn hz (new _ _ (X _ _ hC)) hnx fun h' tk' dx t1 M => ?_
  have old : ∀ b o, hp.get? b = some o → h'.get? b = some o := fun b o e => M.old b o (fun z => new b o e z.symm) (up b o e)
  have z : hp.objs.size + 1 + 1 ≤ dx := by
    have q := M.far
    first
      | (simpa only [Heap.size_push] using q)
      | exact q
  exact ⟨rfl, hq h' tk' (hp.objs.size + 1) dx ⟨old, Nat.le_succ _, ⟨_, _, M.it, rfl, rfl, rfl, rfl⟩, (show hp.objs.size ≤ dx by omega), M.apart, M.line⟩⟩
end
end BTX
namespace L2
open PySem PySem.Spec PyProof.Rows
/-- what an error bears: its numbers by name -/
def numF (fs : List (Str × Int)) : List (Str × V) := fs.map fun q => (q.1, V.int q.2)
theorem line_rel {n : Int} {t : Tok} (f : Str) : RelO (List.lookup f (numF [(("line" : Str), n)])) (if f = "line" then some (.int n t) else none) := by
  unfold numF
  rw [List.map_cons, List.map_nil]
  by_cases hw : f = "line"
  · rw [if_pos hw]
    have e : List.lookup f [(("line" : Str), V.int n)] = some (.int n) := by rw [hw]; simp [List.lookup]
    rw [e]
    exact ⟨t, rfl⟩
  · rw [if_neg hw]
    have e : (f == ("line" : Str)) = false := by simpa using hw
    have e2 : List.lookup f [(("line" : Str), V.int n)] = none := by simp [List.lookup, e]
    rw [e2]
    trivial
/-- C(n), C such a class -/
def tBad (C : Addr) (ta : TA) : St → Hp → XK → Prop := fun σ H Q => ta σ H fun vs H1 => ∃ n : Int, vs = [.int n] ∧ n.natAbs.log2 < 1920 ∧ (Str.ofString (toString n)).length ≤ 1000 ∧ ∀ d, H1 d = none → Q (.ref C) (some d) (upd H1 d (.xd (numF [("line", n)])))
section
variable {X : Cx} {C fI : Addr} {nx : Str}
theorem pmk_bad {a : Expr} {ta : TA} {p pos : Pos} {k : Nat} (T : BTX.BadTxt X.prog X.K X.mg nx C fI) (hr : Room k X.A) (hk : 1 ≤ k) (ha : PA X [a] ta) (hg : Gl X nx) (hd : (nx == ("__debug__" : Str)) = false)
    (he : starEach (a :: []) X.env = (false, eval a X.env) :: starEach [] X.env := by rfl) (hpl : (backTo pos (starEach [] X.env)).any (·.1) = false := by rfl) :
    PMk X (.Call (.Name nx p) [a] [] pos) (tBad C ta) := by
  intro pins s σ H Q I h
  refine wpAny_Call_Name_kw (ld_glob I hg T.here ?_ hd)
  refine PySem.W.callWith_K (h₀ := X.base) I.ok.mod.kin T.keep (thn (ha.run pos pins s σ H _ I h) fun us s1 hh => ?_) he hpl
  obtain ⟨vs, H1, I1, r1, n, ev, hn, hz, q1⟩ := hh
  subst ev
  refine ⟨I1.kIn, ?_⟩
  cases r1 with
  | cons rv rn =>
    cases rn
    obtain ⟨t, rfl⟩ := rv
    show wpAny _ _ (call (.ref C) [.int n t]) _ _ _
    obtain ⟨mb, hb1, hb2⟩ := I1.mod.blt
    have hlim := I1.nolimit
    obtain ⟨hp, g, dr, tk, os⟩ := s1
    refine wpAny_call (BTX.bad_made T I1.kIn (I1.mod.glob.keeps I1.bk) (hb1.keeps I1.bk) (hb2 _ (by decide)) hlim (by have := hr.dp; omega) hn hz fun h' tk' e d M => ?_)
    show MkP X pins σ Q (.ref e) ⟨h', g, dr, tk', os⟩
    obtain ⟨oe, fv, hoe, hc, hd', hdat, h1⟩ := M.it
    obtain ⟨G', g1, g2⟩ := restrict h' fun b => decide (b ≠ e)
    have same : ∀ b, b ≠ e → G'.get? b = h'.get? b := fun b hb => g1 b (decide_eq_true hb)
    have gone : G'.get? e = none := g2 e (by simp)
    have old : ∀ b o, hp.get? b = some o → G'.get? b = some o := fun b o q => (same b (Nat.ne_of_lt (Nat.lt_of_lt_of_le (Heap.lt_size q) M.fresh))).trans (M.old b o q)
    have ob : ObjOk X.prog X.w (upd H1 d (.xd (numF [("line", n)]))) G' d (.xd (numF [("line", n)])) := ⟨_, M.line.at (fun o q => (same d M.apart).trans q), fun f => line_rel f⟩
    have J : Inv X pins σ (upd H1 d (.xd (numF [("line", n)]))) ⟨G', g, dr, tk', os⟩ := I1.laid (t' := tk') old M.far ob
    refine ⟨e, oe, fv, ⟨G', g, dr, tk', os⟩, _, .ref C, some d, rfl, J, fun b o q => ?_, gone, hoe, ⟨hc, hd'⟩, hdat, h1, ?_, rfl, I1.bare, raises_own T.exc T.ty, q1 d (I1.hok.fresh M.far)⟩
    · by_cases hb : b = e
      · have q' : G'.get? b = some o := q
        rw [hb, gone] at q'; cases q'
      · exact (same b hb).symm.trans q
    · rw [upd_ne (Ne.symm M.apart)]
      exact I1.hok.fresh M.fresh
end

/-! ### a caught one is tracked -/
/-- at a: an error of the class cls, its dict d, caught -/
def XT (cls : Value) (d : Option Addr) (a : Addr) : HO := .ext fun h => ∃ (oe : Obj) (vs : Array Value), h.get? a = some oe ∧ Zc cls d oe ∧ oe.data = .fields vs
theorem xt_ok {P : Program} {w : World} {H : Hp} {h : Heap} {a : Addr} {cls : Value} {d : Option Addr} {oe : Obj} {vs : Array Value} (e : h.get? a = some oe) (z : Zc cls d oe) (dd : oe.data = .fields vs) : ObjOk P w H h a (XT cls d a) :=
  ⟨⟨oe, vs, e, z, dd⟩, ⟨oe, e⟩, fun _ _ ⟨o, v, q, r⟩ k => ⟨o, v, k o q, r⟩⟩
theorem xt_at {P : Program} {w : World} {H : Hp} {h : Heap} {a : Addr} {cls : Value} {d : Option Addr} (x : ObjOk P w H h a (XT cls d a)) : ∃ (oe : Obj) (vs : Array Value), h.get? a = some oe ∧ Zc cls d oe ∧ oe.data = .fields vs := x.1
section
variable {X : Cx} {pins : List (Addr × Obj)} {σ : St} {H : Hp} {s : Shared}
theorem Inv.take {a : Addr} {o : HO} {oe : Obj} {vs : Array Value} (I : Inv X pins σ H s) (he : s.heap.get? a = some oe) (hd : oe.data = .fields vs) (n0 : X.s_0.heap.get? a = none) (na : H a = none) (nL : a ≠ X.env.locals) (nC : ∀ x c, X.env.cells.lookup x = some c → c ≠ a) (nP : ∀ p ∈ X.pn ++ pins, p.1 ≠ a)
    (new : ObjOk X.prog X.w (upd H a o) s.heap a o) : Inv X pins σ (upd H a o) s := by
  have nb : ∀ b ob, X.s_0.heap.get? b = some ob → b ≠ a := fun b ob q z => by rw [z, n0] at q; cases q
  refine ⟨I.ok, I.os, I.bare, ⟨I.base.keep, I.base.slot, fun b ob q n hx => ?_, I.base.there, fun b xs q => ?_, fun b ob u q => ?_, fun b ps q => ?_⟩, I.loc, I.cell, ?_, fun x c e => ?_, fun p hp => ?_, fun b u e => ?_, I.len⟩
  · rw [upd_ne (nb b ob q)]; exact I.base.free b ob q n hx
  · have y := I.base.tups b xs q
    rw [upd_ne (ne_of_none y na)]; exact y
  · have y := I.base.frzs b ob u q
    rw [upd_ne (ne_of_none y na)]; exact y
  · obtain ⟨m, y⟩ := I.base.tbls b ps q
    exact ⟨m, by rw [upd_ne (ne_of_none y na)]; exact y⟩
  · rw [upd_ne (Ne.symm nL)]; exact I.free
  · rw [upd_ne (nC x c e)]; exact I.freeC x c e
  · obtain ⟨h1, h2, h3⟩ := I.pin p hp
    exact ⟨h1, by rw [upd_ne (nP p hp)]; exact h2, h3⟩
  · by_cases hb : b = a
    · rw [hb, upd_same] at e
      cases e
      rw [hb]; exact new
    · rw [upd_ne hb] at e
      exact (I.hok b u e).stay (fun c v _ q => q) (fun c q => by rw [upd_ne (ne_of_none q na)]; exact q) fun c xs q => by rw [upd_ne (ne_of_none q na)]; exact q
end
end L2
set_option Elab.async false
set_option linter.all false
set_option maxRecDepth 100000
set_option maxHeartbeats 1000001
namespace L2
open PySem PySem.Spec PyProof.Rows
/-- what 'except x as n: y = n' wishes of an exception: slot i is n's, slot j is y's; the exception is kept -/
def wKeep (K : PySem.W.Frag) (c : Value) (i j : Nat) (Wout : WX) (D : Ends) : WX := fun cls d σ H =>
  ∃ b, PySem.W.exmOne K cls c = some b ∧ (b = true → ∀ a, H a = none → D.nx (((σ.set i (some (.ref a))).set j (some (.ref a))).set i none) (upd H a (XT cls d a))) ∧ (b = false → Wout cls d σ H)
section
variable {X : Cx} {x n y : Str} {c : Value} {i j : Nat} {body : List Stmt} {np yp mp ap pos pos' : Pos} {tb : WX → TS} {Wout : WX}
theorem ps_try_keep (st : X.stack = X.env :: X.outer) (fr : X.env.frame = some X.env.locals) (nd : X.N.Nodup) (iN : X.N[i]? = some n) (jN : X.N[j]? = some y) (nl : X.env.kindOf n = some .local) (yl : X.env.scope.names.lookup y = some .local) (nsl : X.env.scope.names.lookup n = some .local) (ij : i ≠ j)
    (names : Names X x c) (tk : Takes X Wout) (nex : X.ex = []) (ndb : (n == ("__debug__" : Str)) = false) (ncd : (n == ("__classdict__" : Str)) = false)
    (sw : ∀ (A : Cx), A.env = X.env → swapsWith (.Name n mp) (some (.Name y yp)) ap.line A.env = pure false)
    (hb : ∀ (W : WX) (pn : List (Addr × Obj)) (xe : Value → Shared → Prop), Takes (X.tr pn xe) W → PassesOwn (model X.prog X.w) X.A X.env xe → PSs (X.tr pn xe) body (tb W)) :
    PS X (.Try body [.ExceptHandler (some (.Name x np)) (some n) [.Assign [.Name y yp] (.Name n mp) ap] pos'] [] [] pos) (fun D σ H => tb (wKeep X.K c i j Wout D) D σ H) := by
  refine ⟨fun pins s σ H D I0 want => ?_⟩
  have okX := I0.ok
  have frm : X.A.frames = some (X.env :: X.outer) := by rw [okX.frames, st]
  refine wpAny_Try_except ?_
  refine wpAny_mono ((hb (wKeep X.K c i j Wout D) (X.pn ++ pins) (fun ev s₁ => wpAny (model X.prog X.w) X.A (noteFrame ev X.env) (fun _ s₂ => wpAny (model X.prog X.w) X.A (setFlight ev none) (fun _ s₃ =>
    wpAny (model X.prog X.w) X.A (handleBy ev X.env [.ExceptHandler (some (.Name x np)) (some n) [.Assign [.Name y yp] (.Name n mp) ap] pos']) (SP X pins D) X.xe s₃) X.xe s₂) X.xe s₁) (fun u s' air => ?_) PassesOwn.looking).run [] s σ H D (I0.toTry _) want) (fun fl s1 hsp => ?_) (fun _ _ z => z)
  · obtain ⟨a, B, sI, pins', σ', H', cls, d, rfl, Jt, nb, up, sky, na, os, ag, b, hb1, hyes, hno⟩ := air
    have J : Inv X pins σ' H' sI := Jt.ofTry okX
    have sky2 : Sky B (X.env :: X.outer) a (Zc cls d) X.env.locals s'.heap := by rw [← st]; exact sky
    have Ba : B.get? a = none := by
      rcases sky2 with z | z | z
      · exact z.2.1
      · exact z.2.1
      · exact z.2.1
    show wpAny (model X.prog X.w) X.A (noteFrame (.ref a) X.env) _ _ _
    refine Sky.land Zc.steady frm fr sky2 fun h3 fl3 up3 => ?_
    have J3 : Inv X pins σ' H' { s' with heap := h3 } := J.landed nb fl3.1 (up.trans up3) os ag
    obtain ⟨oe3, vs3, he3, hz3, hd3⟩ := fl3.there
    have nofr : ∀ {h : Heap} {o : Obj} {vs : Array Value}, h.FunFrames B (X.env :: X.outer) → h.get? a = some o → o.data = .fields vs → a ∉ frs (X.env :: X.outer) := fun {h o vs} ff q dd hm => by
      obtain ⟨_, o2, q2, hnf⟩ := ff.mem hm
      rw [q] at q2; cases q2
      exact hnf _ dd
    have nfr := nofr fl3.2.2.1 he3 hd3
    have nL : a ≠ X.env.locals := fun z => nfr (List.mem_filterMap.mpr ⟨X.env, List.mem_cons_self, by rw [fr, z]⟩)
    have nF : a ∉ X.fs := fun hm => by
      obtain ⟨ev, hev, q⟩ := List.mem_filterMap.mp hm
      exact nfr (List.mem_filterMap.mpr ⟨ev, List.mem_cons_of_mem _ hev, q⟩)
    have S3 := J3.suite he3 hd3 na nL nF
    have nI : sI.heap.get? a = none := by
      cases q : sI.heap.get? a with
      | none => rfl
      | some o =>
        have y := nb a o q (by rw [st]; exact nfr)
        rw [Ba] at y; cases y
    refine wpAny_handleBy_cons (codeAny_handlers_test ?_) (by intro q; cases q)
    have LT : PySem.W.Looks (model X.prog X.w) h3 (typeOf (.ref a)) cls := fun A Q E s k q => wpAny_typeOf_ref (k _ _ he3) (by rw [hz3.1]; exact q)
    have LM := PySem.W.exm_one (M := model X.prog X.w) (J3.kIn) LT hb1
    have test : ∀ {Q : Value → Shared → Prop} {E : Value → Shared → Prop}, Q c { s' with heap := h3 } → wpAny (model X.prog X.w) (X.A.mark (some (.ref a))) (eval (.Name x np) X.env) Q E { s' with heap := h3 } := fun {Q E} q => by
      obtain ⟨hg, hdb, hm | ⟨hm, hv, hnn⟩⟩ := names
      · exact ld_glob (X := X.suite a ((a, oe3) :: (X.pn ++ pins))) S3 hg hm q hdb
      · exact ld_blt (X := X.suite a ((a, oe3) :: (X.pn ++ pins))) S3 hg hm hv q hnn hdb
    refine test (LM.here ?_)
    cases b with
    | true =>
      refine codeAny_handlers_suite_as ?_
      refine HandSPX.lands_againZ fl3 fun h4 fl4 up4 => ?_
      have J4 : Inv X pins σ' H' { s' with heap := h4 } := J.landed nb fl4.1 ((up.trans up3).trans up4) os ag
      obtain ⟨oe4, vs4, he4, hz4, hd4⟩ := fl4.there
      have S4 := J4.suite he4 hd4 na nL nF
      refine store_ok (X := X.suite a ((a, oe4) :: (X.pn ++ pins))) (v := .ref a) S4 nd iN (.inl nl) rfl (fun s5 S5 => ?_) (.inr nl)
      have suite : PSs (X.suite a ((a, oe4) :: (X.pn ++ pins))) [.Assign [.Name y yp] (.Name n mp) ap] (tAsg (tVar i) (gName j)) := pss_one (ps_set (X := X.suite a ((a, oe4) :: (X.pn ++ pins))) nd jN (.inl yl) (pe_var iN (.inl nsl) ndb ncd) (sw _ rfl) (.inr yl))
      refine wpAny_mono (suite.run [] s5 _ H' { nx := fun σ6 H6 => σ6 = (σ'.set i (some (.ref a))).set j (some (.ref a)) ∧ H6 = H', rt := fun _ _ => False } S5 ?_) (fun fl s6 hsp => ?_) (fun _ _ z => False.elim z)
      · have lt : i < σ'.length := by
          rw [J.len]
          exact (List.getElem?_eq_some_iff.mp iN).1
        exact ⟨.ref a, List.getElem?_set_self lt, rfl, rfl⟩
      · cases fl with
        | next =>
          obtain ⟨σ6, H6, S6, e6, h6⟩ := hsp
          subst h6
          obtain ⟨here, _⟩ := S6.pin (a, oe4) (List.mem_append_left _ List.mem_cons_self)
          have U : Inv X pins σ6 H6 s6 := S6.unsuite okX
          have n0 : X.s_0.heap.get? a = none := by
            cases q : X.s_0.heap.get? a with
            | none => rfl
            | some o =>
              obtain ⟨o2, q2⟩ := J.base.there a o q (by rw [nex]; simp)
              rw [nI] at q2; cases q2
          have V : Inv X pins σ6 (upd H6 a (XT cls d a)) s6 := U.take here hd4 n0 na nL (fun z k e w => by
              obtain ⟨v, o, q, _⟩ := J.cell z k e
              rw [w, nI] at q; cases q)
            (fun p hp w => by
              have q := (J.pin p hp).1
              rw [w, nI] at q; cases q) (xt_ok here hz4 hd4)
          refine gone_ok V nd iN nl fun s7 J7 => ⟨_, _, J7, ?_⟩
          rw [e6]
          exact hyes rfl a na
        | brk => obtain ⟨_, _, _, q⟩ := hsp; exact q.elim
        | cont => obtain ⟨_, _, _, q⟩ := hsp; exact q.elim
        | ret u => obtain ⟨_, _, _, _, _, q⟩ := hsp; exact q.elim
    | false =>
      show wpAny _ X.A (handleBy (.ref a) X.env []) _ _ _
      refine wpAny_handleBy_nil ?_
      obtain ⟨k1, k2, k3, oe, vs, T, oT, ts', he, hz, hd, h1, hr⟩ := id fl3
      unfold PySem.passOn
      refine wpAny_bind (wpAny_field he hd h1 ?_)
      rw [if_neg (show ¬ ((Value.ref T == Value.none) = true) from by simp)]
      have fin : wpAny (model X.prog X.w) X.A (setFlight (.ref a) X.env.frame) (fun _ s4 => wpAny (model X.prog X.w) X.A (throw (.ref a) : Sem Flow) (SP X pins D) X.xe s4) X.xe { s' with heap := h3 } := by
        rw [fr]
        refine HandSPX.setFlight_upZ fl3 fun h4 hh4 up4 => wpAny_throw (tk _ _ ?_)
        exact ⟨a, B, sI, pins, σ', H', cls, d, rfl, J, nb, (up.trans up3).trans up4, .inr (.inr (by rw [st]; exact hh4)), na, os, ag, hno rfl⟩
      first
        | exact wpAny_bind (wpAny_pure (wpAny_bind fin))
        | exact wpAny_bind fin
  · cases fl with
    | next =>
      obtain ⟨σ', H', J', q⟩ := hsp
      exact wpAny_execs_nil ⟨σ', H', J'.ofTry okX, q⟩
    | brk =>
      obtain ⟨σ', H', J', q⟩ := hsp
      exact ⟨σ', H', J'.ofTry okX, q⟩
    | cont =>
      obtain ⟨σ', H', J', q⟩ := hsp
      exact ⟨σ', H', J'.ofTry okX, q⟩
    | ret u =>
      obtain ⟨v, σ', H', J', r, q⟩ := hsp
      exact ⟨v, σ', H', J'.ofTry okX, r, q⟩
end
end L2
set_option Elab.async false
set_option linter.all false
set_option maxRecDepth 100000
set_option maxHeartbeats 4000001
/-! Data over the heap: values as data (tuples and finished lists), the objects that change in a store of their own. -/
namespace DL
open PySem L2

inductive D where
  | non | bl (b : Bool) | int (i : Int) | str (s : Str) | ty (n : String)
  | tup (xs : List D) | lst (xs : List D) | scr (xs : List D) | obj (a : Addr)
  | exc (C : Addr) (fs : List (Str × Int))

/-- the own dict of an error: its numbers by name -/
def DicR (G : Hp) (d : Option Addr) (fs : List (Str × Int)) : Prop := (d = none ∧ fs = []) ∨ ∃ dd, d = some dd ∧ G dd = some (.xd (numF fs))
section
variable (K : PySem.W.Frag) (G : Hp)
mutual
/-- v in the standing heap G is the data d -/
def Rp : D → V → Prop
  | .non, v => v = .non
  | .bl b, v => v = .bl b
  | .int i, v => v = .int i
  | .str s, v => v = .str s
  | .ty n, v => v = .ty n
  | .tup ds, v => ∃ a vs, v = .ref a ∧ SqT K G a vs ∧ RpL ds vs
  | .lst ds, v => ∃ a vs, v = .ref a ∧ G a = some (.lst vs) ∧ RpL ds vs
  | .scr ds, v => ∃ a vs, v = .ref a ∧ SqL K G a vs ∧ RpL ds vs
  | .obj a, v => v = .ref a
  | .exc C fs, v => ∃ a d, v = .ref a ∧ G a = some (XT (.ref C) d a) ∧ DicR G d fs
def RpL : List D → List V → Prop
  | [], vs => vs = []
  | d :: ds, vs => ∃ v r, vs = v :: r ∧ Rp d v ∧ RpL ds r
end
end

/-- what stands stays -/
def Ex (H H' : Hp) : Prop := ∀ a o, H a = some o → H' a = some o
theorem Ex.refl (H : Hp) : Ex H H := fun _ _ h => h
theorem Ex.trans {H H1 H2 : Hp} (a : Ex H H1) (b : Ex H1 H2) : Ex H H2 := fun x o h => b x o (a x o h)
theorem Ex.new {H : Hp} {p : Addr} {o : HO} (h : H p = none) : Ex H (upd H p o) := fun a u e => by
  rw [upd_ne (ne_of_none e h)]
  exact e
theorem Ex.rd {H H' : Hp} {a : Addr} {u : HO} (e : Ex H H') (h : Rd H a u) : Rd H' a u := by
  rcases h with h | ⟨o, h⟩
  · exact Or.inl (e a _ h)
  · exact Or.inr ⟨o, e a _ h⟩
theorem Ex.l {K : PySem.W.Frag} {H H' : Hp} {a : Addr} {xs : List V} (e : Ex H H') (h : SqL K H a xs) : SqL K H' a xs := by
  rcases h with h | h
  · exact Or.inl (e.rd h)
  · exact Or.inr h
theorem Ex.t {K : PySem.W.Frag} {H H' : Hp} {a : Addr} {xs : List V} (e : Ex H H') (h : SqT K H a xs) : SqT K H' a xs := by
  rcases h with h | h
  · exact Or.inl (e.rd h)
  · exact Or.inr h
theorem Ex.free {H H' : Hp} {p : Addr} (e : Ex H H') (h : H' p = none) : H p = none := by
  cases h1 : H p with
  | none => rfl
  | some o =>
    rw [e p o h1] at h
    cases h

theorem DicR.mono {G G' : Hp} (e : Ex G G') {d : Option Addr} {fs : List (Str × Int)} (h : DicR G d fs) : DicR G' d fs := by
  rcases h with h | ⟨dd, h1, h2⟩
  · exact .inl h
  · exact .inr ⟨dd, h1, e _ _ h2⟩
section
variable {K : PySem.W.Frag} {G G' : Hp}
mutual
theorem Rp.mono (e : Ex G G') : ∀ (d : D) (v : V), Rp K G d v → Rp K G' d v
  | .non, _, h => h
  | .bl _, _, h => h
  | .int _, _, h => h
  | .str _, _, h => h
  | .ty _, _, h => h
  | .tup ds, _, ⟨a, vs, h1, h2, h3⟩ => ⟨a, vs, h1, e.t h2, RpL.mono e ds vs h3⟩
  | .lst ds, _, ⟨a, vs, h1, h2, h3⟩ => ⟨a, vs, h1, e _ _ h2, RpL.mono e ds vs h3⟩
  | .scr ds, _, ⟨a, vs, h1, h2, h3⟩ => ⟨a, vs, h1, e.l h2, RpL.mono e ds vs h3⟩
  | .obj _, _, h => h
  | .exc _ _, _, ⟨a, d, h1, h2, h3⟩ => ⟨a, d, h1, e _ _ h2, h3.mono e⟩
theorem RpL.mono (e : Ex G G') : ∀ (ds : List D) (vs : List V), RpL K G ds vs → RpL K G' ds vs
  | [], _, h => h
  | d :: ds, _, ⟨v, r, h1, h2, h3⟩ => ⟨v, r, h1, Rp.mono e d v h2, RpL.mono e ds r h3⟩
end
theorem RpL.len : ∀ {ds : List D} {vs : List V}, RpL K G ds vs → vs.length = ds.length
  | [], _, h => by rw [RpL] at h; rw [h]; rfl
  | d :: ds, _, ⟨v, r, h1, h2, h3⟩ => by rw [h1, List.length_cons, List.length_cons, RpL.len h3]
theorem RpL.get : ∀ {ds : List D} {vs : List V} {i : Nat} {d : D}, RpL K G ds vs → ds[i]? = some d → ∃ v, vs[i]? = some v ∧ Rp K G d v
  | [], _, i, d, h, e => by simp at e
  | d :: ds, _, 0, _, ⟨v, r, h1, h2, h3⟩, e => by simp at e; subst e; subst h1; exact ⟨v, rfl, h2⟩
  | d :: ds, _, i + 1, d', ⟨v, r, h1, h2, h3⟩, e => by
    subst h1
    obtain ⟨u, e1, e2⟩ := RpL.get (i := i) (d := d') h3 (by simpa using e)
    exact ⟨u, by simpa using e1, e2⟩
theorem RpL.getV : ∀ {ds : List D} {vs : List V} {i : Nat} {v : V}, RpL K G ds vs → vs[i]? = some v → ∃ d, ds[i]? = some d ∧ Rp K G d v := fun {ds vs i v} h e => by
  have l := h.len
  have hi : i < ds.length := by rw [← l]; exact (List.getElem?_eq_some_iff.mp e).1
  obtain ⟨u, e1, e2⟩ := h.get (i := i) (d := ds[i]) (by simp [hi])
  rw [e] at e1
  cases e1
  exact ⟨ds[i], by simp [hi], e2⟩
theorem RpL.app : ∀ {ds : List D} {vs : List V} {es : List D} {us : List V}, RpL K G ds vs → RpL K G es us → RpL K G (ds ++ es) (vs ++ us)
  | [], _, _, _, h, h' => by rw [h]; exact h'
  | d :: ds, _, _, _, ⟨v, r, h1, h2, h3⟩, h' => by rw [h1]; exact ⟨v, _, rfl, h2, RpL.app h3 h'⟩
theorem RpL.one {d : D} {v : V} (h : Rp K G d v) : RpL K G [d] [v] := ⟨v, [], rfl, h, rfl⟩
theorem RpL.set {e : D} {u : V} (hu : Rp K G e u) : ∀ {ds : List D} {vs : List V} (i : Nat), RpL K G ds vs → RpL K G (ds.set i e) (vs.set i u)
  | [], _, _, h => by rw [h]; rfl
  | d :: ds, _, 0, ⟨v, r, h1, h2, h3⟩ => by rw [h1]; exact ⟨u, r, rfl, hu, h3⟩
  | d :: ds, _, i + 1, ⟨v, r, h1, h2, h3⟩ => by rw [h1]; exact ⟨v, _, rfl, h2, RpL.set hu i h3⟩
theorem RpL.take : ∀ {ds : List D} {vs : List V} (n : Nat), RpL K G ds vs → RpL K G (ds.take n) (vs.take n)
  | _, _, 0, _ => rfl
  | [], _, n + 1, h => by rw [h]; rfl
  | d :: ds, _, n + 1, ⟨v, r, h1, h2, h3⟩ => by rw [h1]; exact ⟨v, _, rfl, h2, RpL.take n h3⟩
theorem RpL.drop : ∀ {ds : List D} {vs : List V} (n : Nat), RpL K G ds vs → RpL K G (ds.drop n) (vs.drop n)
  | _, _, 0, h => h
  | [], _, n + 1, h => by rw [h]; rfl
  | d :: ds, _, n + 1, ⟨v, r, h1, h2, h3⟩ => by rw [h1]; exact RpL.drop n h3
theorem RpL.nil_of {vs : List V} (h : RpL K G [] vs) : vs = [] := h
theorem RpL.ints : ∀ {ns : List Int} {vs : List V}, RpL K G (ns.map D.int) vs → vs = ns.map V.int
  | [], _, h => h
  | n :: ns, _, ⟨v, r, h1, h2, h3⟩ => by
    have h2' : v = .int n := h2
    rw [h1, h2', RpL.ints h3]; rfl
theorem RpL.strs : ∀ {ns : List Str} {vs : List V}, RpL K G (ns.map D.str) vs → vs = ns.map V.str
  | [], _, h => h
  | n :: ns, _, ⟨v, r, h1, h2, h3⟩ => by
    have h2' : v = .str n := h2
    rw [h1, h2', RpL.strs h3]; rfl
theorem RpL.bls : ∀ {ns : List Bool} {vs : List V}, RpL K G (ns.map D.bl) vs → vs = ns.map V.bl
  | [], _, h => h
  | n :: ns, _, ⟨v, r, h1, h2, h3⟩ => by
    have h2' : v = .bl n := h2
    rw [h1, h2', RpL.bls h3]; rfl
theorem RpL.eraseIdx : ∀ {ds : List D} {vs : List V} (n : Nat), RpL K G ds vs → RpL K G (ds.eraseIdx n) (vs.eraseIdx n)
  | [], _, n, h => by rw [h]; simp [List.eraseIdx, RpL]
  | d :: ds, _, 0, ⟨v, r, h1, h2, h3⟩ => by rw [h1]; exact h3
  | d :: ds, _, n + 1, ⟨v, r, h1, h2, h3⟩ => by rw [h1]; exact ⟨v, _, rfl, h2, RpL.eraseIdx n h3⟩
end

/-! ### the objects that change -/
inductive MO where
  | lst (xs : List D) | dK (kvs : List (Key × D)) | ins (C : Addr) (fs : List (Str × D))
abbrev Mu := Addr → Option MO
def put (μ : Mu) (a : Addr) (m : MO) : Mu := fun b => if b = a then some m else μ b
theorem put_same {μ : Mu} {a : Addr} {m : MO} : put μ a m a = some m := by unfold put; rw [if_pos rfl]
theorem put_ne {μ : Mu} {a b : Addr} {m : MO} (h : b ≠ a) : put μ a m b = μ b := by unfold put; rw [if_neg h]
theorem put_put {μ : Mu} {a : Addr} {m m' : MO} : put (put μ a m) a m' = put μ a m' := by funext b; unfold put; split <;> rfl
theorem put_comm {μ : Mu} {a b : Addr} {m m' : MO} (h : a ≠ b) : put (put μ a m) b m' = put (put μ b m') a m := by
  funext c; unfold put
  by_cases h1 : c = b
  · by_cases h2 : c = a
    · exact absurd (h2.symm.trans h1) h
    · rw [if_pos h1, if_neg h2, if_pos h1]
  · rw [if_neg h1, if_neg h1]
def SubM (μ ν : Mu) : Prop := ∀ a m, μ a = some m → ν a = some m
theorem SubM.refl (μ : Mu) : SubM μ μ := fun _ _ h => h
theorem SubM.trans {μ ν ρ : Mu} (a : SubM μ ν) (b : SubM ν ρ) : SubM μ ρ := fun x m h => b x m (a x m h)
theorem SubM.new {μ : Mu} {p : Addr} {m : MO} (h : μ p = none) : SubM μ (put μ p m) := fun a u e => by
  have : a ≠ p := fun z => by rw [z, h] at e; cases e
  rw [put_ne this]; exact e
theorem SubM.newR {μ ν : Mu} {p : Addr} {m : MO} (s : SubM μ ν) (h : μ p = none) : SubM μ (put ν p m) := fun a u e => by
  have : a ≠ p := fun z => by rw [z, h] at e; cases e
  rw [put_ne this]; exact s a u e

def RpK (K : PySem.W.Frag) (G : Hp) : List (Key × D) → List (Key × V) → Prop
  | [], vs => vs = []
  | (k, d) :: ds, vs => ∃ v r, vs = (k, v) :: r ∧ Rp K G d v ∧ RpK K G ds r
def RpF (K : PySem.W.Frag) (G : Hp) : List (Str × D) → List (Str × V) → Prop
  | [], vs => vs = []
  | (k, d) :: ds, vs => ∃ v r, vs = (k, v) :: r ∧ Rp K G d v ∧ RpF K G ds r
def RpO (K : PySem.W.Frag) (G : Hp) : MO → HO → Prop
  | .lst ds, o => ∃ vs, o = .lst vs ∧ RpL K G ds vs
  | .dK ds, o => ∃ vs, o = .dK vs ∧ RpK K G ds vs
  | .ins C ds, o => ∃ dx vs, o = .ins C dx vs ∧ RpF K G ds vs
section
variable {K : PySem.W.Frag} {G G' : Hp}
theorem RpK.mono (e : Ex G G') : ∀ {ds : List (Key × D)} {vs : List (Key × V)}, RpK K G ds vs → RpK K G' ds vs
  | [], _, h => h
  | (k, d) :: ds, _, ⟨v, r, h1, h2, h3⟩ => ⟨v, r, h1, Rp.mono e _ _ h2, RpK.mono e h3⟩
theorem RpF.mono (e : Ex G G') : ∀ {ds : List (Str × D)} {vs : List (Str × V)}, RpF K G ds vs → RpF K G' ds vs
  | [], _, h => h
  | (k, d) :: ds, _, ⟨v, r, h1, h2, h3⟩ => ⟨v, r, h1, Rp.mono e _ _ h2, RpF.mono e h3⟩
theorem RpO.mono (e : Ex G G') : ∀ {m : MO} {o : HO}, RpO K G m o → RpO K G' m o
  | .lst _, _, ⟨vs, h1, h2⟩ => ⟨vs, h1, RpL.mono e _ _ h2⟩
  | .dK _, _, ⟨vs, h1, h2⟩ => ⟨vs, h1, RpK.mono e h2⟩
  | .ins _ _, _, ⟨dx, vs, h1, h2⟩ => ⟨dx, vs, h1, RpF.mono e h2⟩

/-- the whole: G stands, F is another's, μ is what may change; all of them in H, apart -/
structure Wd (K : PySem.W.Frag) (G F : Hp) (μ : Mu) (H : Hp) : Prop where
  g : Ex G H
  f : ∀ a o, F a = some o → H a = some o ∧ G a = none ∧ μ a = none
  m : ∀ a m, μ a = some m → ∃ o, H a = some o ∧ RpO K G m o ∧ G a = none

variable {F : Hp} {μ μ' : Mu} {H : Hp}
theorem Wd.noG (w : Wd K G F μ H) {p : Addr} (h : H p = none) : G p = none := w.g.free h
theorem Wd.noM (w : Wd K G F μ H) {p : Addr} (h : H p = none) : μ p = none := by
  cases e : μ p with
  | none => rfl
  | some m =>
    obtain ⟨o, h1, _⟩ := w.m p m e
    rw [h] at h1; cases h1
theorem Wd.noF (w : Wd K G F μ H) {p : Addr} (h : H p = none) : F p = none := by
  cases e : F p with
  | none => rfl
  | some o =>
    have h1 := (w.f p o e).1
    rw [h] at h1; cases h1
theorem Wd.sub (w : Wd K G F μ H) (s : SubM μ' μ) : Wd K G F μ' H :=
  ⟨w.g, fun a o e => ⟨(w.f a o e).1, (w.f a o e).2.1, by
    cases q : μ' a with
    | none => rfl
    | some m =>
      have := s a m q
      rw [(w.f a o e).2.2] at this; cases this⟩, fun a m e => w.m a m (s a m e)⟩
/-- a new standing object -/
theorem Wd.newG (w : Wd K G F μ H) {p : Addr} {o : HO} (h : H p = none) : Wd K (upd G p o) F μ (upd H p o) := by
  have hG := w.noG h
  refine ⟨fun a u e => ?_, fun a u e => ?_, fun a m e => ?_⟩
  · by_cases q : a = p
    · subst q; rw [upd_same] at e ⊢; exact e
    · rw [upd_ne q] at e ⊢; exact w.g a u e
  · have q : a ≠ p := fun z => by rw [z, w.noF h] at e; cases e
    rw [upd_ne q, upd_ne q]; exact w.f a u e
  · have q : a ≠ p := fun z => by rw [z, w.noM h] at e; cases e
    rw [upd_ne q, upd_ne q]
    obtain ⟨u, h1, h2, h3⟩ := w.m a m e
    exact ⟨u, h1, h2.mono (Ex.new hG), h3⟩
/-- a new object that may change -/
theorem Wd.newM (w : Wd K G F μ H) {p : Addr} {o : HO} {m : MO} (h : H p = none) (r : RpO K G m o) : Wd K G F (put μ p m) (upd H p o) := by
  refine ⟨fun a u e => ?_, fun a u e => ?_, fun a n e => ?_⟩
  · rw [upd_ne (ne_of_none (w.g a u e) h)]; exact w.g a u e
  · have q : a ≠ p := fun z => by rw [z, w.noF h] at e; cases e
    rw [upd_ne q, put_ne q]; exact w.f a u e
  · by_cases q : a = p
    · subst q; rw [put_same] at e; cases e; exact ⟨o, upd_same, r, w.noG h⟩
    · rw [put_ne q] at e; rw [upd_ne q]; exact w.m a n e
/-- an object that is changed -/
theorem Wd.chg (w : Wd K G F μ H) {p : Addr} {o : HO} {m m0 : MO} (h : μ p = some m0) (r : RpO K G m o) : Wd K G F (put μ p m) (upd H p o) := by
  obtain ⟨o0, h1, h2, h3⟩ := w.m p m0 h
  refine ⟨fun a u e => ?_, fun a u e => ?_, fun a n e => ?_⟩
  · have q : a ≠ p := fun z => by rw [z, h3] at e; cases e
    rw [upd_ne q]; exact w.g a u e
  · have q : a ≠ p := fun z => by have := (w.f a u e).2.2; rw [z, h] at this; cases this
    rw [upd_ne q, put_ne q]; exact w.f a u e
  · by_cases q : a = p
    · subst q; rw [put_same] at e; cases e; exact ⟨o, upd_same, r, h3⟩
    · rw [put_ne q] at e; rw [upd_ne q]; exact w.m a n e
def del (μ : Mu) (p : Addr) : Mu := fun b => if b = p then none else μ b
/-- an object that changes no more stands from now on -/
theorem Wd.fix (w : Wd K G F μ H) {p : Addr} {o : HO} {m0 : MO} (h : μ p = some m0) (ho : H p = some o) : Wd K (upd G p o) F (del μ p) H ∧ Ex G (upd G p o) := by
  obtain ⟨o0, h1, h2, h3⟩ := w.m p m0 h
  have ex : Ex G (upd G p o) := Ex.new h3
  refine ⟨⟨fun a u e => ?_, fun a u e => ?_, fun a n e => ?_⟩, ex⟩
  · by_cases q : a = p
    · subst q; rw [upd_same] at e; cases e; exact ho
    · rw [upd_ne q] at e; exact w.g a u e
  · have q : a ≠ p := fun z => by have := (w.f a u e).2.2; rw [z, h] at this; cases this
    refine ⟨(w.f a u e).1, by rw [upd_ne q]; exact (w.f a u e).2.1, ?_⟩
    unfold del; rw [if_neg q]; exact (w.f a u e).2.2
  · unfold del at e
    by_cases q : a = p
    · rw [if_pos q] at e; cases e
    · rw [if_neg q] at e
      obtain ⟨u, z1, z2, z3⟩ := w.m a n e
      exact ⟨u, z1, z2.mono ex, by rw [upd_ne q]; exact z3⟩
/-- an object of another's is put by, and taken back -/
theorem Wd.lend (w : Wd K G F μ H) {p : Addr} {o : HO} (h : H p = none) : Wd K G (upd F p o) μ (upd H p o) := by
  refine ⟨fun a u e => ?_, fun a u e => ?_, fun a n e => ?_⟩
  · rw [upd_ne (ne_of_none (w.g a u e) h)]; exact w.g a u e
  · by_cases q : a = p
    · subst q; rw [upd_same] at e; cases e; exact ⟨upd_same, w.noG h, w.noM h⟩
    · rw [upd_ne q] at e ⊢; exact w.f a u e
  · have q : a ≠ p := fun z => by rw [z, w.noM h] at e; cases e
    rw [upd_ne q]; exact w.m a n e
theorem Wd.lendSet (w : Wd K G (upd F p o) μ H) {o' : HO} : Wd K G (upd F p o') μ (upd H p o') := by
  obtain ⟨h1, h2, h3⟩ := w.f p o upd_same
  refine ⟨fun a u e => ?_, fun a u e => ?_, fun a n e => ?_⟩
  · have q : a ≠ p := fun z => by rw [z, h2] at e; cases e
    rw [upd_ne q]; exact w.g a u e
  · by_cases q : a = p
    · subst q; rw [upd_same] at e; cases e; exact ⟨upd_same, h2, h3⟩
    · rw [upd_ne q] at e ⊢
      have := w.f a u (by rw [upd_ne q]; exact e)
      exact this
  · have q : a ≠ p := fun z => by rw [z, h3] at e; cases e
    rw [upd_ne q]; exact w.m a n e
theorem Wd.lendFix (w : Wd K G (upd F p o) μ H) (hF : F p = none) : Wd K (upd G p o) F μ H ∧ Ex G (upd G p o) := by
  obtain ⟨h1, h2, h3⟩ := w.f p o upd_same
  have ex : Ex G (upd G p o) := Ex.new h2
  refine ⟨⟨fun a u e => ?_, fun a u e => ?_, fun a n e => ?_⟩, ex⟩
  · by_cases q : a = p
    · subst q; rw [upd_same] at e; cases e; exact h1
    · rw [upd_ne q] at e; exact w.g a u e
  · have q : a ≠ p := fun z => by rw [z, hF] at e; cases e
    have := w.f a u (by rw [upd_ne q]; exact e)
    exact ⟨this.1, by rw [upd_ne q]; exact this.2.1, this.2.2⟩
  · have q : a ≠ p := fun z => by rw [z, h3] at e; cases e
    obtain ⟨u, z1, z2, z3⟩ := w.m a n e
    exact ⟨u, z1, z2.mono ex, by rw [upd_ne q]; exact z3⟩
theorem Wd.lendMu (w : Wd K G (upd F p o) μ H) {m : MO} (r : RpO K G m o) (hF : F p = none) : Wd K G F (put μ p m) H := by
  obtain ⟨h1, h2, h3⟩ := w.f p o upd_same
  refine ⟨w.g, fun a u e => ?_, fun a n e => ?_⟩
  · have q : a ≠ p := fun z => by rw [z, hF] at e; cases e
    have := w.f a u (by rw [upd_ne q]; exact e)
    exact ⟨this.1, this.2.1, by rw [put_ne q]; exact this.2.2⟩
  · by_cases q : a = p
    · subst q; rw [put_same] at e; cases e; exact ⟨o, h1, r, h2⟩
    · rw [put_ne q] at e; exact w.m a n e
end

/-! ### the slots -/
abbrev DSl := List (Option D)
def RpS (K : PySem.W.Frag) (G : Hp) : DSl → St → Prop
  | [], σ => σ = []
  | x :: ds, σ => ∃ y r, σ = y :: r ∧ (match x with | none => y = none | some d => ∃ v, y = some v ∧ Rp K G d v) ∧ RpS K G ds r
section
variable {K : PySem.W.Frag} {G G' : Hp}
theorem RpS.mono (e : Ex G G') : ∀ {ds : DSl} {σ : St}, RpS K G ds σ → RpS K G' ds σ
  | [], _, h => h
  | none :: ds, _, ⟨y, r, h1, h2, h3⟩ => ⟨y, r, h1, h2, RpS.mono e h3⟩
  | some d :: ds, _, ⟨y, r, h1, ⟨v, h2, h4⟩, h3⟩ => ⟨y, r, h1, ⟨v, h2, Rp.mono e _ _ h4⟩, RpS.mono e h3⟩
theorem RpS.get : ∀ {ds : DSl} {σ : St} {i : Nat} {d : D}, RpS K G ds σ → ds[i]? = some (some d) → ∃ v, σ[i]? = some (some v) ∧ Rp K G d v
  | [], _, i, d, h, e => by simp at e
  | x :: ds, _, 0, d, ⟨y, r, h1, h2, h3⟩, e => by
    simp at e; subst e
    obtain ⟨v, rfl, h4⟩ := h2
    subst h1
    exact ⟨v, rfl, h4⟩
  | x :: ds, _, i + 1, d', ⟨y, r, h1, h2, h3⟩, e => by
    subst h1
    obtain ⟨v, h4, h5⟩ := RpS.get (i := i) h3 (by simpa using e)
    exact ⟨v, by simpa using h4, h5⟩
theorem RpS.set {d : D} {v : V} (hd : Rp K G d v) : ∀ {ds : DSl} {σ : St} (i : Nat), RpS K G ds σ → RpS K G (ds.set i (some d)) (σ.set i (some v))
  | [], _, _, h => by rw [h]; rfl
  | x :: ds, _, 0, ⟨y, r, h1, h2, h3⟩ => by rw [h1]; exact ⟨some v, r, rfl, ⟨v, rfl, hd⟩, h3⟩
  | x :: ds, _, i + 1, ⟨y, r, h1, h2, h3⟩ => by rw [h1]; exact ⟨y, _, rfl, h2, RpS.set hd i h3⟩
theorem RpS.wipe1 : ∀ {ds : DSl} {σ : St} (i : Nat), RpS K G ds σ → RpS K G (ds.set i none) (σ.set i none)
  | [], _, _, h => by rw [h]; rfl
  | x :: ds, _, 0, ⟨y, r, h1, h2, h3⟩ => by rw [h1]; exact ⟨none, r, rfl, rfl, h3⟩
  | x :: ds, _, i + 1, ⟨y, r, h1, h2, h3⟩ => by rw [h1]; exact ⟨y, _, rfl, h2, RpS.wipe1 i h3⟩
theorem RpS.nones : ∀ {n : Nat}, RpS K G (List.replicate n none) (List.replicate n none)
  | 0 => rfl
  | n + 1 => ⟨none, _, rfl, rfl, RpS.nones⟩
theorem RpS.start : ∀ {ds : List D} {vs : List V} {n : Nat}, RpL K G ds vs → RpS K G (ds.map some ++ List.replicate n none) (vs.map some ++ List.replicate n none)
  | [], _, _, h => by rw [h]; exact RpS.nones
  | d :: ds, _, _, ⟨v, r, h1, h2, h3⟩ => by rw [h1]; exact ⟨some v, _, rfl, ⟨v, rfl, h2⟩, RpS.start h3⟩
end
end DL
set_option Elab.async false
set_option linter.all false
set_option maxRecDepth 100000
set_option maxHeartbeats 4000001
namespace DL
open PySem L2

abbrev TD := DSl → Mu → (D → Mu → Prop) → Prop
abbrev TTd := DSl → Mu → (Bool → Mu → Prop) → Prop
abbrev TAd := DSl → Mu → (List D → Mu → Prop) → Prop
abbrev TOd := DSl → Mu → (Option Int → Mu → Prop) → Prop
abbrev DK := D → Mu → Prop
section
variable (K : PySem.W.Frag)
def KQ (G F : Hp) (Qd : D → Mu → Prop) (Q : VK) : Prop := ∀ v d G' μ' H', Ex G G' → Wd K G' F μ' H' → Rp K G' d v → Qd d μ' → Q v H'
def KB (G F : Hp) (Qd : Bool → Mu → Prop) (Q : Bool → Hp → Prop) : Prop := ∀ b G' μ' H', Ex G G' → Wd K G' F μ' H' → Qd b μ' → Q b H'
def KL (G F : Hp) (Qd : List D → Mu → Prop) (Q : List V → Hp → Prop) : Prop := ∀ vs ds G' μ' H', Ex G G' → Wd K G' F μ' H' → RpL K G' ds vs → Qd ds μ' → Q vs H'
def KO (G F : Hp) (Qd : Option Int → Mu → Prop) (Q : Option Int → Hp → Prop) : Prop := ∀ o G' μ' H', Ex G G' → Wd K G' F μ' H' → Qd o μ' → Q o H'
def RE (te : TE) (td : TD) : Prop := ∀ σ ds G F μ H Qd Q, RpS K G ds σ → Wd K G F μ H → td ds μ Qd → KQ K G F Qd Q → te σ H Q
def RT (te : TT) (td : TTd) : Prop := ∀ σ ds G F μ H Qd Q, RpS K G ds σ → Wd K G F μ H → td ds μ Qd → KB K G F Qd Q → te σ H Q
def RA (te : TA) (td : TAd) : Prop := ∀ σ ds G F μ H Qd Q, RpS K G ds σ → Wd K G F μ H → td ds μ Qd → KL K G F Qd Q → te σ H Q
def RO (te : TO) (td : TOd) : Prop := ∀ σ ds G F μ H Qd Q, RpS K G ds σ → Wd K G F μ H → td ds μ Qd → KO K G F Qd Q → te σ H Q
def RR2 (r : R2) (dr : D → D → Mu → DK → Prop) : Prop := ∀ x y dx dy G F μ H Qd Q, Rp K G dx x → Rp K G dy y → Wd K G F μ H → dr dx dy μ Qd → KQ K G F Qd Q → r x y H Q
def RRL (r : List V → Hp → VK → Prop) (dr : List D → Mu → DK → Prop) : Prop := ∀ xs ds G F μ H Qd Q, RpL K G ds xs → Wd K G F μ H → dr ds μ Qd → KQ K G F Qd Q → r xs H Q
def RRM (r : V → List V → Hp → VK → Prop) (dr : D → List D → Mu → DK → Prop) : Prop := ∀ x xs dx ds G F μ H Qd Q, Rp K G dx x → RpL K G ds xs → Wd K G F μ H → dr dx ds μ Qd → KQ K G F Qd Q → r x xs H Q
end
section
variable {K : PySem.W.Frag} {G G1 F : Hp}
theorem KQ.up {Qd : DK} {Q : VK} (e : Ex G G1) (k : KQ K G F Qd Q) : KQ K G1 F Qd Q := fun v d G' μ' H' e' => k v d G' μ' H' (e.trans e')
theorem KB.up {Qd : Bool → Mu → Prop} {Q : Bool → Hp → Prop} (e : Ex G G1) (k : KB K G F Qd Q) : KB K G1 F Qd Q := fun v G' μ' H' e' => k v G' μ' H' (e.trans e')
theorem KL.up {Qd : List D → Mu → Prop} {Q : List V → Hp → Prop} (e : Ex G G1) (k : KL K G F Qd Q) : KL K G1 F Qd Q := fun v d G' μ' H' e' => k v d G' μ' H' (e.trans e')
theorem KO.up {Qd : Option Int → Mu → Prop} {Q : Option Int → Hp → Prop} (e : Ex G G1) (k : KO K G F Qd Q) : KO K G1 F Qd Q := fun v G' μ' H' e' => k v G' μ' H' (e.trans e')
/-- Q at a value that is scalar, the heap as it is -/
theorem KQ.here {Qd : DK} {Q : VK} (k : KQ K G F Qd Q) {v : V} {d : D} {μ : Mu} {H : Hp} (w : Wd K G F μ H) (r : Rp K G d v) (h : Qd d μ) : Q v H := k v d G μ H (Ex.refl G) w r h
end


/-! ### readings over data -/
/-- a list, whether it stands or may change -/
def LstAt (μ : Mu) (x : D) (xs : List D) : Prop := match x with
  | .lst ys => ys = xs
  | .obj a => μ a = some (.lst xs)
  | _ => False
/-- a list or a tuple, to be read -/
def SeqD (μ : Mu) (x : D) (xs : List D) : Prop := match x with
  | .lst ys => ys = xs
  | .tup ys => ys = xs
  | .scr ys => ys = xs
  | .obj a => μ a = some (.lst xs)
  | _ => False
def dVar (i : Nat) : TD := fun ds μ Q => match ds[i]? with
  | some (some d) => Q d μ
  | _ => False
def dC (d : D) : TD := fun _ μ Q => Q d μ
def dOp (r : D → D → Mu → DK → Prop) (da db : TD) : TD := fun ds μ Q => da ds μ fun x μ1 => db ds μ1 fun y μ2 => r x y μ2 Q
/-- a new list: one that stands, or one that may change -/
def newLst (m : Bool) (xs : List D) (μ : Mu) (Q : DK) : Prop := match m with
  | false => Q (.lst xs) μ
  | true => ∀ p, μ p = none → Q (.obj p) (put μ p (.lst xs))
def dAdd (m : Bool) : D → D → Mu → DK → Prop
  | .int i, .int j, μ, Q => Q (.int (i + j)) μ
  | .str a, .str b, μ, Q => a.length + b.length ≤ sizeLine ∧ Q (.str (a ++ b)) μ
  | .tup xs, .tup ys, μ, Q => xs.length + ys.length ≤ sizeLine ∧ Q (.tup (xs ++ ys)) μ
  | x, y, μ, Q => ∃ xs ys, LstAt μ x xs ∧ LstAt μ y ys ∧ xs.length + ys.length ≤ sizeLine ∧ newLst m (xs ++ ys) μ Q
def dSub : D → D → Mu → DK → Prop
  | .int i, .int j, μ, Q => Q (.int (i - j)) μ
  | _, _, _, _ => False
def repS (x : Str) (n : Int) : Str := ⟨(List.replicate n.toNat x.cps.toList).flatten.toArray⟩
def dMul (m : Bool) : D → D → Mu → DK → Prop
  | .int i, .int j, μ, Q => CMul i j ∧ Q (.int (i * j)) μ
  | .str a, .int k, μ, Q => 0 ≤ k ∧ k < 1000 ∧ a.length < 1000 ∧ Q (.str (repS a k)) μ
  | x, .int k, μ, Q => ∃ xs, LstAt μ x xs ∧ -(2 ^ 63) ≤ k ∧ k < 2 ^ 63 ∧ xs.length * k.toNat ≤ sizeLine ∧ newLst m (List.replicate k.toNat xs).flatten μ Q
  | _, _, _, _ => False
def dMod : D → D → Mu → DK → Prop
  | .int i, .int j, μ, Q => 0 < j ∧ Q (.int (i % j)) μ
  | _, _, _, _ => False
def dFDiv : D → D → Mu → DK → Prop
  | .int i, .int j, μ, Q => CDiv i j ∧ Q (.int (i / j)) μ
  | _, _, _, _ => False
def dPow : D → D → Mu → DK → Prop
  | .int i, .int j, μ, Q => CPow i j ∧ Q (.int (i ^ j.toNat)) μ
  | _, _, _, _ => False
def dCmp (p : Int → Int → Bool) : D → D → Mu → DK → Prop
  | .int i, .int j, μ, Q => Q (.bl (p i j)) μ
  | _, _, _, _ => False
mutual
/-- the plain data that a value is, deep -/
def pd : D → Option PyData
  | .non => some .none
  | .bl b => some (.bool b)
  | .int i => some (.int i)
  | .str s => some (.str s)
  | .tup xs => (pdL xs).map .tuple
  | .lst xs => (pdL xs).map .list
  | .scr xs => (pdL xs).map .list
  | _ => none
def pdL : List D → Option (List PyData)
  | [] => some []
  | x :: xs => match pd x, pdL xs with
    | some a, some as => some (a :: as)
    | _, _ => none
end
def pdM (μ : Mu) (x : D) : Option PyData := match x with
  | .obj a => match μ a with
    | some (.lst xs) => (pdL xs).map .list
    | _ => none
  | _ => pd x
def dEqn (neg : Bool) : D → D → Mu → DK → Prop
  | .int i, .int j, μ, Q => Q (.bl (if neg then !decide (i = j) else decide (i = j))) μ
  | .str i, .str j, μ, Q => Q (.bl (if neg then !decide (i = j) else decide (i = j))) μ
  | x, y, μ, Q => ∃ p q, pdM μ x = some p ∧ pdM μ y = some q ∧ SeqAt.shaped p = true ∧ SeqAt.shaped q = true ∧ Q (.bl (if neg then !PyData.eqv p q else PyData.eqv p q)) μ
def flatD : D → Bool
  | .non => true
  | .bl _ => true
  | .int _ => true
  | .str _ => true
  | _ => false
def vOf : D → V
  | .non => .non
  | .bl b => .bl b
  | .int i => .int i
  | .str s => .str s
  | _ => .non
def inD (x : D) (ds : List D) : Bool := inV (vOf x) (ds.map vOf)
def dIn (neg : Bool) : D → D → Mu → DK → Prop := fun x y μ Q => match y with
  | .str z => (∃ c : Nat, x = .str ⟨#[c]⟩ ∧ Q (.bl (if neg then !decide (c ∈ z.cps.toList) else decide (c ∈ z.cps.toList))) μ)
  | _ => ∃ xs, SeqD μ y xs ∧ flatD x = true ∧ xs.all flatD = true ∧ Q (.bl (if neg then !inD x xs else inD x xs)) μ
def isNon : D → Bool
  | .non => true
  | _ => false
def dIsN (neg : Bool) : D → D → Mu → DK → Prop := fun x y μ Q => match y with
  | .non => Q (.bl (if neg then !isNon x else isNon x)) μ
  | _ => False
def dIx : D → D → Mu → DK → Prop
  | .str z, .int i, μ, Q => z.length ≤ sizeLine ∧ ∃ c, atI z.cps.toList i = some c ∧ Q (.str ⟨#[c]⟩) μ
  | x, .int i, μ, Q => ∃ xs d, SeqD μ x xs ∧ atI xs i = some d ∧ Q d μ
  | _, _, _, _ => False
def cutD (xs : List D) (lo hi : Option Int) : List D := (xs.drop (HT.sIx xs.length 0 lo)).take (HT.sIx xs.length xs.length hi - HT.sIx xs.length 0 lo)
def dSl (m : Bool) (te : TD) (tl th : TOd) : TD := fun ds μ Q => te ds μ fun x μ1 => tl ds μ1 fun lo μ2 => th ds μ2 fun hi μ3 => match x with
  | .str z => z.length ≤ sizeLine ∧ Q (.str (cutS z lo hi)) μ3
  | .tup xs => Q (.tup (cutD xs lo hi)) μ3
  | _ => ∃ xs, SeqD μ3 x xs ∧ newLst m (cutD xs lo hi) μ3 Q
def dNoPart : TOd := fun _ μ Q => Q none μ
def dPart (t : TD) : TOd := fun ds μ Q => t ds μ fun x μ1 => match x with
  | .int i => Q (some i) μ1
  | _ => False
def dNilA : TAd := fun _ μ Q => Q [] μ
def dConsA (ta : TD) (tr : TAd) : TAd := fun ds μ Q => ta ds μ fun x μ1 => tr ds μ1 fun xs μ2 => Q (x :: xs) μ2
def dTup (t : TAd) : TD := fun ds μ Q => t ds μ fun xs μ1 => xs.length ≤ sizeLine ∧ Q (.tup xs) μ1
def dLst (m : Bool) (t : TAd) : TD := fun ds μ Q => t ds μ fun xs μ1 => xs.length ≤ sizeLine ∧ newLst m xs μ1 Q
def dCB (r : List D → Mu → DK → Prop) (t : TAd) : TD := fun ds μ Q => t ds μ fun xs μ1 => r xs μ1 Q
def dBM (r : D → List D → Mu → DK → Prop) (to : TD) (t : TAd) : TD := fun ds μ Q => to ds μ fun x μ1 => t ds μ1 fun xs μ2 => r x xs μ2 Q
/-! tests -/
def dTest (t : TD) : TTd := fun ds μ Q => t ds μ fun x μ1 => match x with
  | .bl b => Q b μ1
  | _ => False
def truD (μ : Mu) : D → Option Bool
  | .non => some false
  | .bl b => some b
  | .int i => some (i != 0)
  | .str y => some (!y.cps.toList.isEmpty)
  | .tup xs => some (!xs.isEmpty)
  | .lst xs => some (!xs.isEmpty)
  | .scr xs => some (!xs.isEmpty)
  | .obj a => match μ a with
    | some (.lst xs) => some (!xs.isEmpty)
    | _ => none
  | _ => none
/-- a text's length is within the line -/
def lenOk : D → Prop
  | .str y => y.length ≤ sizeLine
  | _ => True
def dTru (t : TD) : TTd := fun ds μ Q => t ds μ fun x μ1 => lenOk x ∧ match truD μ1 x with
  | some b => Q b μ1
  | none => False
def dAndT (t u : TTd) : TTd := fun ds μ Q => t ds μ fun c μ1 => if c = true then u ds μ1 Q else Q false μ1
def dOrT (t u : TTd) : TTd := fun ds μ Q => t ds μ fun c μ1 => if c = true then Q true μ1 else u ds μ1 Q
def dNotT (t : TTd) : TTd := fun ds μ Q => t ds μ fun c μ1 => Q (!c) μ1
def dAndV (ta tb : TD) : TD := fun ds μ Q => ta ds μ fun x μ1 => match x with
  | .bl c => if c = true then tb ds μ1 Q else Q (.bl false) μ1
  | _ => False
def dOrV (ta tb : TD) : TD := fun ds μ Q => ta ds μ fun x μ1 => match x with
  | .bl c => if c = true then Q (.bl true) μ1 else tb ds μ1 Q
  | _ => False
def dNotV (ta : TD) : TD := fun ds μ Q => ta ds μ fun x μ1 => lenOk x ∧ match truD μ1 x with
  | some b => Q (.bl (!b)) μ1
  | none => False
def dIf (t : TTd) (ta tb : TD) : TD := fun ds μ Q => t ds μ fun c μ1 => if c = true then ta ds μ1 Q else tb ds μ1 Q
def dChain (r r' : D → D → Mu → DK → Prop) (ta tb tc : TD) : TD := fun ds μ Q => ta ds μ fun x μ1 => tb ds μ1 fun y μ2 => r x y μ2 fun z μ3 => match z with
  | .bl k => if k = true then tc ds μ3 fun w μ4 => r' y w μ4 Q else Q (.bl false) μ3
  | _ => False

section
variable {K : PySem.W.Frag} {G F : Hp} {μ : Mu} {H : Hp}
theorem LstAt.h (w : Wd K G F μ H) {x : D} {v : V} {xs : List D} (r : Rp K G x v) (h : LstAt μ x xs) : ∃ a vs, v = .ref a ∧ H a = some (.lst vs) ∧ RpL K G xs vs := by
  cases x with
  | lst ys =>
    obtain ⟨a, vs, h1, h2, h3⟩ := r
    have h' : ys = xs := h
    subst h'
    exact ⟨a, vs, h1, w.g _ _ h2, h3⟩
  | obj a =>
    have r' : v = .ref a := r
    have h' : μ a = some (.lst xs) := h
    obtain ⟨o, h1, ⟨vs, h2, h4⟩, h3⟩ := w.m a _ h'
    subst h2
    exact ⟨a, vs, r', h1, h4⟩
  | _ => exact False.elim h
theorem SeqD.h (w : Wd K G F μ H) : ∀ {x : D} {v : V} {xs : List D}, Rp K G x v → SeqD μ x xs → ∃ a vs, v = .ref a ∧ (SqL K H a vs ∨ SqT K H a vs) ∧ RpL K G xs vs
  | .lst ys, v, xs, ⟨a, vs, h1, h2, h3⟩, (h : ys = xs) => ⟨a, vs, h1, .inl (SqL.of (w.g _ _ h2)), h ▸ h3⟩
  | .tup ys, v, xs, ⟨a, vs, h1, h2, h3⟩, (h : ys = xs) => ⟨a, vs, h1, .inr (w.g.t h2), h ▸ h3⟩
  | .scr ys, v, xs, ⟨a, vs, h1, h2, h3⟩, (h : ys = xs) => ⟨a, vs, h1, .inl (w.g.l h2), h ▸ h3⟩
  | .obj a, v, xs, (r : v = .ref a), (h : μ a = some (.lst xs)) => by
    obtain ⟨o, h1, ⟨vs, h2, h4⟩, h3⟩ := w.m a _ h
    subst h2
    exact ⟨a, vs, r, .inl (SqL.of h1), h4⟩
theorem Rp.vOf_eq : ∀ {x : D} {v : V}, flatD x = true → Rp K G x v → v = vOf x ∧ flatV v = true
  | .non, _, _, (h : _ = V.non) => by rw [h]; exact ⟨rfl, rfl⟩
  | .bl b, _, _, (h : _ = V.bl b) => by rw [h]; exact ⟨rfl, rfl⟩
  | .int b, _, _, (h : _ = V.int b) => by rw [h]; exact ⟨rfl, rfl⟩
  | .str b, _, _, (h : _ = V.str b) => by rw [h]; exact ⟨rfl, rfl⟩
theorem RpL.vOf_eq : ∀ {xs : List D} {vs : List V}, xs.all flatD = true → RpL K G xs vs → vs = xs.map vOf ∧ vs.all flatV = true
  | [], _, _, h => by rw [RpL] at h; rw [h]; exact ⟨rfl, rfl⟩
  | x :: xs, _, hf, ⟨v, r, h1, h2, h3⟩ => by
    rw [List.all_cons, Bool.and_eq_true] at hf
    obtain ⟨e1, e2⟩ := Rp.vOf_eq hf.1 h2
    obtain ⟨e3, e4⟩ := RpL.vOf_eq hf.2 h3
    rw [h1]
    exact ⟨by rw [e1, e3]; rfl, by rw [List.all_cons, e2, e4]; rfl⟩
mutual
theorem pd_dp (e : Ex G H) : ∀ (x : D) (v : V) (p : PyData), Rp K G x v → pd x = some p → Dp K H v p
  | .non, _, p, h, q => by
    have h' : _ = V.non := h
    have q' : p = PyData.none := (Option.some.inj q).symm
    rw [h', q']; exact .non
  | .bl b, _, p, h, q => by
    have h' : _ = V.bl b := h
    have q' : p = PyData.bool b := (Option.some.inj q).symm
    rw [h', q']; exact .bl b
  | .int b, _, p, h, q => by
    have h' : _ = V.int b := h
    have q' : p = PyData.int b := (Option.some.inj q).symm
    rw [h', q']; exact .int b
  | .str b, _, p, h, q => by
    have h' : _ = V.str b := h
    have q' : p = PyData.str b := (Option.some.inj q).symm
    rw [h', q']; exact .str b
  | .tup xs, _, p, ⟨a, vs, h1, h2, h3⟩, q => by
    cases e1 : pdL xs with
    | none => rw [pd, e1] at q; cases q
    | some ps =>
      rw [pd, e1] at q; cases q
      rw [h1]
      exact .tup (e.t h2) (pdL_dp e xs vs ps h3 e1)
  | .lst xs, _, p, ⟨a, vs, h1, h2, h3⟩, q => by
    cases e1 : pdL xs with
    | none => rw [pd, e1] at q; cases q
    | some ps =>
      rw [pd, e1] at q; cases q
      rw [h1]
      exact .lst (SqL.of (e _ _ h2)) (pdL_dp e xs vs ps h3 e1)
  | .scr xs, _, p, ⟨a, vs, h1, h2, h3⟩, q => by
    cases e1 : pdL xs with
    | none => rw [pd, e1] at q; cases q
    | some ps =>
      rw [pd, e1] at q; cases q
      rw [h1]
      exact .lst (e.l h2) (pdL_dp e xs vs ps h3 e1)
  | .obj _, _, _, _, q => by rw [pd] at q; cases q; all_goals (intros; contradiction)
  | .ty _, _, _, _, q => by rw [pd] at q; cases q; all_goals (intros; contradiction)
theorem pdL_dp (e : Ex G H) : ∀ (xs : List D) (vs : List V) (ps : List PyData), RpL K G xs vs → pdL xs = some ps → DpAll K H vs ps
  | [], _, ps, h, q => by
    rw [RpL] at h; rw [pdL] at q; cases q; rw [h]; exact .nil
  | x :: xs, _, ps, ⟨v, r, h1, h2, h3⟩, q => by
    rw [pdL] at q
    cases e1 : pd x with
    | none => rw [e1] at q; cases q
    | some p =>
      cases e2 : pdL xs with
      | none => rw [e1, e2] at q; cases q
      | some ps' =>
        rw [e1, e2] at q; cases q
        rw [h1]
        exact .cons (pd_dp e x v p h2 e1) (pdL_dp e xs r ps' h3 e2)
end
theorem pdM_dp (w : Wd K G F μ H) {x : D} {v : V} {p : PyData} (r : Rp K G x v) (q : pdM μ x = some p) : Dp K H v p := by
  cases x with
  | obj a =>
    have r' : v = .ref a := r
    unfold pdM at q
    simp only at q
    split at q
    · rename_i xs hm
      obtain ⟨o, h1, ⟨vs, h2, h4⟩, h3⟩ := w.m a _ hm
      subst h2
      cases e1 : pdL xs with
      | none => rw [e1] at q; cases q
      | some ps =>
        rw [e1] at q; cases q
        rw [r']
        exact .lst (SqL.of h1) (pdL_dp w.g xs vs ps h4 e1)
    · cases q
  | _ => exact pd_dp w.g _ _ _ r q
end

/-! ### a rule of values is a rule of data -/
section
variable {K : PySem.W.Frag} {ta tb tc : TE} {da db dc : TD} {tA tB' : TT} {dA dB : TTd}
theorem re_var {i : Nat} : RE K (tVar i) (dVar i) := fun σ ds G F μ H Qd Q hs hw h kq => by
  unfold dVar at h
  split at h
  · rename_i d e
    obtain ⟨v, e1, r⟩ := hs.get e
    exact ⟨v, e1, kq.here hw r h⟩
  · exact h.elim
theorem re_c {v : V} {d : D} (r : ∀ G, Rp K G d v) : RE K (tC v) (dC d) := fun σ ds G F μ H Qd Q hs hw h kq => kq.here hw (r G) h
theorem re_op {r : R2} {dr : D → D → Mu → DK → Prop} (hr : RR2 K r dr) (ha : RE K ta da) (hb : RE K tb db) : RE K (tOp r ta tb) (dOp dr da db) :=
  fun σ ds G F μ H Qd Q hs hw h kq => ha σ ds G F μ H _ _ hs hw h fun x dx G1 μ1 H1 e1 w1 rx h1 => hb σ ds G1 F μ1 H1 _ _ (hs.mono e1) w1 h1 fun y dy G2 μ2 H2 e2 w2 ry h2 =>
    hr x y dx dy G2 F μ2 H2 Qd Q (Rp.mono e2 _ _ rx) ry w2 h2 (kq.up (e1.trans e2))
theorem re_test (h : RE K ta da) : RT K (tTest ta) (dTest da) := fun σ ds G F μ H Qd Q hs hw hd kq => h σ ds G F μ H _ _ hs hw hd fun x dx G1 μ1 H1 e1 w1 rx h1 => by
  cases dx with
  | bl b => exact ⟨b, rx, kq b G1 μ1 H1 e1 w1 h1⟩
  | _ => exact h1.elim
theorem re_B (h : RE K ta da) : RT K (tB ta) (dTest da) := fun σ ds G F μ H Qd Q hs hw hd kq => h σ ds G F μ H _ _ hs hw hd fun x dx G1 μ1 H1 e1 w1 rx h1 => by
  cases dx with
  | bl b => exact ⟨b, rx, kq b G1 μ1 H1 e1 w1 h1⟩
  | _ => exact h1.elim
theorem emp_len (y : Str) : (((y.length : Int) != 0)) = !y.cps.toList.isEmpty := by
  have : y.length = y.cps.toList.length := rfl
  rw [this]
  cases y.cps.toList with
  | nil => rfl
  | cons a l => simp; omega
theorem truD_V {G F : Hp} {μ : Mu} {H : Hp} (w : Wd K G F μ H) {x : D} {v : V} {b : Bool} (r : Rp K G x v) (hl : lenOk x) (h : truD μ x = some b) : TruV K v H b := by
  cases x with
  | non => have r' : v = V.non := r; rw [r']; exact (Option.some.inj h).symm
  | bl c => have r' : v = V.bl c := r; rw [r']; exact (Option.some.inj h).symm
  | int c => have r' : v = V.int c := r; rw [r']; exact (Option.some.inj h).symm
  | str c => have r' : v = V.str c := r; rw [r']; exact ⟨hl, by rw [emp_len]; exact (Option.some.inj h).symm⟩
  | ty c => cases h
  | exc c f => cases h
  | tup xs =>
    obtain ⟨a, vs, rfl, h2, h3⟩ := r
    refine Or.inr (Or.inl ⟨vs, w.g.t h2, ?_⟩)
    have l := h3.len
    rw [← Option.some.inj h]
    cases xs <;> cases vs <;> first | rfl | (simp at l)
  | lst xs =>
    obtain ⟨a, vs, rfl, h2, h3⟩ := r
    refine Or.inl ⟨vs, SqL.of (w.g _ _ h2), ?_⟩
    have l := h3.len
    rw [← Option.some.inj h]
    cases xs <;> cases vs <;> first | rfl | (simp at l)
  | scr xs =>
    obtain ⟨a, vs, rfl, h2, h3⟩ := r
    refine Or.inl ⟨vs, w.g.l h2, ?_⟩
    have l := h3.len
    rw [← Option.some.inj h]
    cases xs <;> cases vs <;> first | rfl | (simp at l)
  | obj a =>
    have r' : v = V.ref a := r
    unfold truD at h
    simp only at h
    split at h
    · rename_i xs hm
      obtain ⟨o, h1, ⟨vs, h2, h4⟩, h3⟩ := w.m a _ hm
      subst h2
      rw [r']
      refine Or.inl ⟨vs, SqL.of h1, ?_⟩
      have l := h4.len
      rw [← Option.some.inj h]
      cases xs <;> cases vs <;> first | rfl | (simp at l)
    · cases h
theorem re_tru (h : RE K ta da) : RT K (fun σ H Q => ta σ H fun x H' => ∃ k, TruV K x H' k ∧ Q k H') (dTru da) := fun σ ds G F μ H Qd Q hs hw hd kq => h σ ds G F μ H _ _ hs hw hd fun x dx G1 μ1 H1 e1 w1 rx h1 => by
  obtain ⟨hl, h1⟩ := h1
  split at h1
  · rename_i b hb
    exact ⟨b, truD_V w1 rx hl hb, kq b G1 μ1 H1 e1 w1 h1⟩
  · exact h1.elim
theorem re_notV (h : RE K ta da) : RE K (tNotT K ta) (dNotV da) := fun σ ds G F μ H Qd Q hs hw hd kq => h σ ds G F μ H _ _ hs hw hd fun x dx G1 μ1 H1 e1 w1 rx h1 => by
  obtain ⟨hl, h1⟩ := h1
  split at h1
  · rename_i b hb
    exact ⟨b, truD_V w1 rx hl hb, kq _ (.bl (!b)) G1 μ1 H1 e1 w1 rfl h1⟩
  · exact h1.elim
theorem re_andT (h1 : RT K tA dA) (h2 : RT K tB' dB) : RT K (tAnd tA tB') (dAndT dA dB) := fun σ ds G F μ H Qd Q hs hw hd kq => h1 σ ds G F μ H _ _ hs hw hd fun b G1 μ1 H1 e1 w1 q => by
  cases b with
  | true => exact h2 σ ds G1 F μ1 H1 Qd Q (hs.mono e1) w1 q (kq.up e1)
  | false => exact kq false G1 μ1 H1 e1 w1 q
theorem re_orT (h1 : RT K tA dA) (h2 : RT K tB' dB) : RT K (tOr tA tB') (dOrT dA dB) := fun σ ds G F μ H Qd Q hs hw hd kq => h1 σ ds G F μ H _ _ hs hw hd fun b G1 μ1 H1 e1 w1 q => by
  cases b with
  | false => exact h2 σ ds G1 F μ1 H1 Qd Q (hs.mono e1) w1 q (kq.up e1)
  | true => exact kq true G1 μ1 H1 e1 w1 q
theorem re_notT (h1 : RT K tA dA) : RT K (tNot tA) (dNotT dA) := fun σ ds G F μ H Qd Q hs hw hd kq => h1 σ ds G F μ H _ _ hs hw hd fun b G1 μ1 H1 e1 w1 q => kq (!b) G1 μ1 H1 e1 w1 q
theorem re_andV (h1 : RE K ta da) (h2 : RE K tb db) : RE K (tAndV ta tb) (dAndV da db) := fun σ ds G F μ H Qd Q hs hw hd kq => h1 σ ds G F μ H _ _ hs hw hd fun x dx G1 μ1 H1 e1 w1 rx q => by
  cases dx with
  | bl b =>
    refine ⟨b, rx, ?_⟩
    cases b with
    | true => exact h2 σ ds G1 F μ1 H1 Qd Q (hs.mono e1) w1 q (kq.up e1)
    | false => exact kq _ (.bl false) G1 μ1 H1 e1 w1 rfl q
  | _ => exact q.elim
theorem re_orV (h1 : RE K ta da) (h2 : RE K tb db) : RE K (tOrV ta tb) (dOrV da db) := fun σ ds G F μ H Qd Q hs hw hd kq => h1 σ ds G F μ H _ _ hs hw hd fun x dx G1 μ1 H1 e1 w1 rx q => by
  cases dx with
  | bl b =>
    refine ⟨b, rx, ?_⟩
    cases b with
    | false => exact h2 σ ds G1 F μ1 H1 Qd Q (hs.mono e1) w1 q (kq.up e1)
    | true => exact kq _ (.bl true) G1 μ1 H1 e1 w1 rfl q
  | _ => exact q.elim
theorem re_if (h0 : RT K tA dA) (h1 : RE K ta da) (h2 : RE K tb db) : RE K (tIf tA ta tb) (dIf dA da db) := fun σ ds G F μ H Qd Q hs hw hd kq => h0 σ ds G F μ H _ _ hs hw hd fun b G1 μ1 H1 e1 w1 q => by
  cases b with
  | true => exact h1 σ ds G1 F μ1 H1 Qd Q (hs.mono e1) w1 q (kq.up e1)
  | false => exact h2 σ ds G1 F μ1 H1 Qd Q (hs.mono e1) w1 q (kq.up e1)
theorem re_chain {r r' : R2} {dr dr' : D → D → Mu → DK → Prop} (hr : RR2 K r dr) (hr' : RR2 K r' dr') (ha : RE K ta da) (hb : RE K tb db) (hc : RE K tc dc) : RE K (tChain r r' ta tb tc) (dChain dr dr' da db dc) :=
  fun σ ds G F μ H Qd Q hs hw h kq => ha σ ds G F μ H _ _ hs hw h fun x dx G1 μ1 H1 e1 w1 rx h1 => hb σ ds G1 F μ1 H1 _ _ (hs.mono e1) w1 h1 fun y dy G2 μ2 H2 e2 w2 ry h2 =>
    hr x y dx dy G2 F μ2 H2 _ _ (Rp.mono e2 _ _ rx) ry w2 h2 fun z dz G3 μ3 H3 e3 w3 rz h3 => by
      cases dz with
      | bl k =>
        refine ⟨k, rz, ?_⟩
        cases k with
        | true =>
          exact hc σ ds G3 F μ3 H3 _ _ (hs.mono (e1.trans (e2.trans e3))) w3 h3 fun w dw G4 μ4 H4 e4 w4 rw4 h4 =>
            hr' y w dy dw G4 F μ4 H4 Qd Q (Rp.mono (e3.trans e4) _ _ ry) rw4 w4 h4 (kq.up (e1.trans (e2.trans (e3.trans e4))))
        | false => exact kq _ (.bl false) G3 μ3 H3 (e1.trans (e2.trans e3)) w3 rfl h3
      | _ => exact h3.elim
theorem ra_nil : RA K tNil dNilA := fun σ ds G F μ H Qd Q hs hw h kq => kq [] [] G μ H (Ex.refl G) hw rfl h
theorem ra_cons {tr : TA} {dr : TAd} (h1 : RE K ta da) (h2 : RA K tr dr) : RA K (tCons ta tr) (dConsA da dr) := fun σ ds G F μ H Qd Q hs hw h kq => h1 σ ds G F μ H _ _ hs hw h fun x dx G1 μ1 H1 e1 w1 rx h3 =>
  h2 σ ds G1 F μ1 H1 _ _ (hs.mono e1) w1 h3 fun xs dxs G2 μ2 H2 e2 w2 rxs h4 => kq (x :: xs) (dx :: dxs) G2 μ2 H2 (e1.trans e2) w2 ⟨x, xs, rfl, Rp.mono e2 _ _ rx, rxs⟩ h4
theorem re_tup {t : TA} {dt : TAd} (h1 : RA K t dt) : RE K (tTup t) (dTup dt) := fun σ ds G F μ H Qd Q hs hw h kq => h1 σ ds G F μ H _ _ hs hw h fun xs dxs G1 μ1 H1 e1 w1 rx h3 =>
  ⟨by rw [rx.len]; exact h3.1, fun p hp => kq (.ref p) (.tup dxs) (upd G1 p (.tup xs)) μ1 _ (e1.trans (Ex.new (w1.noG hp))) (w1.newG hp) ⟨p, xs, rfl, SqT.of upd_same, RpL.mono (Ex.new (w1.noG hp)) _ _ rx⟩ h3.2⟩
/-- a new list, by its values -/
theorem new_lst {G F : Hp} {μ : Mu} {H : Hp} {Qd : DK} {Q : VK} {m : Bool} {xs : List D} {vs : List V} (w : Wd K G F μ H) (r : RpL K G xs vs) (h : newLst m xs μ Qd) (kq : KQ K G F Qd Q) {p : Addr} (hp : H p = none) : Q (.ref p) (upd H p (.lst vs)) := by
  cases m with
  | false => exact kq (.ref p) (.lst xs) (upd G p (.lst vs)) μ _ (Ex.new (w.noG hp)) (w.newG hp) ⟨p, vs, rfl, upd_same, RpL.mono (Ex.new (w.noG hp)) _ _ r⟩ h
  | true => exact kq (.ref p) (.obj p) G (put μ p (.lst xs)) _ (Ex.refl G) (w.newM hp ⟨vs, rfl, r⟩) rfl (h p (w.noM hp))
theorem re_lst {m : Bool} {t : TA} {dt : TAd} (h1 : RA K t dt) : RE K (tLst t) (dLst m dt) := fun σ ds G F μ H Qd Q hs hw h kq => h1 σ ds G F μ H _ _ hs hw h fun xs dxs G1 μ1 H1 e1 w1 rx h3 =>
  ⟨by rw [rx.len]; exact h3.1, fun p hp => new_lst w1 rx h3.2 (kq.up e1) hp⟩
theorem re_cb {r : List V → Hp → VK → Prop} {dr : List D → Mu → DK → Prop} {t : TA} {dt : TAd} (hr : RRL K r dr) (h1 : RA K t dt) : RE K (tCB r t) (dCB dr dt) := fun σ ds G F μ H Qd Q hs hw h kq => h1 σ ds G F μ H _ _ hs hw h fun xs dxs G1 μ1 H1 e1 w1 rx h3 =>
  hr xs dxs G1 F μ1 H1 Qd Q rx w1 h3 (kq.up e1)
theorem ro_none : RO K tNoPart dNoPart := fun σ ds G F μ H Qd Q hs hw h kq => kq none G μ H (Ex.refl G) hw h
theorem ro_some (h1 : RE K ta da) : RO K (tPart ta) (dPart da) := fun σ ds G F μ H Qd Q hs hw h kq => h1 σ ds G F μ H _ _ hs hw h fun x dx G1 μ1 H1 e1 w1 rx h3 => by
  cases dx with
  | int i => exact ⟨i, rx, kq (some i) G1 μ1 H1 e1 w1 h3⟩
  | _ => exact h3.elim
end
end DL
set_option Elab.async false
set_option linter.all false
set_option maxRecDepth 100000
set_option maxHeartbeats 4000001
namespace DL
open PySem L2

/-! ### operators by any of several rules -/
theorem OpR.or {X : Cx} {f : Value → Value → Sem Value} {r r' : R2} (h : OpR X f r) (h' : OpR X f r') : OpR X f (fun x y H Q => r x y H Q ∨ r' x y H Q) := by
  intro pins s σ H x y v u Q I rx ry q
  rcases q with q | q
  · exact h pins s σ H x y v u Q I rx ry q
  · exact h' pins s σ H x y v u Q I rx ry q
theorem CallR.or {X : Cx} {f : Value} {r r' : List V → Hp → VK → Prop} (h : CallR X f r) (h' : CallR X f r') : CallR X f (fun xs H Q => r xs H Q ∨ r' xs H Q) := by
  intro pins s σ H xs us Q I rs q
  rcases q with q | q
  · exact h pins s σ H xs us Q I rs q
  · exact h' pins s σ H xs us Q I rs q
section
variable {X : Cx}
def hAdd (K : PySem.W.Frag) : R2 := fun x y H Q => rI0 (fun i j => .int (i + j)) x y H Q ∨ (∃ i j, x = .str i ∧ y = .str j ∧ i.length + j.length ≤ sizeLine ∧ Q (.str (i ++ j)) H) ∨ rCatA K x y H Q ∨ rCat x y H Q
theorem op_addG : OpR X (binaryOp .Add) (hAdd X.K) := OpR.or op_add (OpR.or op_add_str (OpR.or op_catA op_cat))
theorem lst_of_dAdd {m : Bool} {x y : D} {μ : Mu} {Q : DK} (h : dAdd m x y μ Q) : (∃ i j, x = .int i ∧ y = .int j ∧ Q (.int (i + j)) μ) ∨ (∃ a b, x = .str a ∧ y = .str b ∧ a.length + b.length ≤ sizeLine ∧ Q (.str (a ++ b)) μ) ∨
    (∃ xs ys, x = .tup xs ∧ y = .tup ys ∧ xs.length + ys.length ≤ sizeLine ∧ Q (.tup (xs ++ ys)) μ) ∨ ∃ xs ys, LstAt μ x xs ∧ LstAt μ y ys ∧ xs.length + ys.length ≤ sizeLine ∧ newLst m (xs ++ ys) μ Q := by
  unfold dAdd at h
  split at h
  · exact .inl ⟨_, _, rfl, rfl, h⟩
  · exact .inr (.inl ⟨_, _, rfl, rfl, h⟩)
  · exact .inr (.inr (.inl ⟨_, _, rfl, rfl, h⟩))
  · exact .inr (.inr (.inr h))
theorem rr_add {K : PySem.W.Frag} {m : Bool} : RR2 K (hAdd K) (dAdd m) := fun x y dx dy G F μ H Qd Q rx ry w h kq => by
  rcases lst_of_dAdd h with ⟨i, j, rfl, rfl, h⟩ | ⟨a, b, rfl, rfl, hz, h⟩ | ⟨xs, ys, rfl, rfl, hz, h⟩ | ⟨xs, ys, hx, hy, hz, h⟩
  · exact .inl ⟨i, j, rx, ry, kq.here w (d := .int (i + j)) rfl h⟩
  · exact .inr (.inl ⟨a, b, rx, ry, hz, kq.here w (d := .str (a ++ b)) rfl h⟩)
  · obtain ⟨p, vs, rfl, h2, h3⟩ := id rx
    obtain ⟨q, us, rfl, h4, h5⟩ := id ry
    have nilD : ∀ {zs : List D} {ws : List V}, RpL K G zs ws → ws = [] → zs = [] := fun r e => by have l := r.len; rw [e] at l; exact List.length_eq_zero_iff.mp l.symm
    refine .inr (.inr (.inl ⟨p, q, vs, us, rfl, rfl, w.g.t h2, w.g.t h4, by rw [h3.len, h5.len]; exact hz, fun e => ?_, fun _ e => ?_, fun _ _ l hl => ?_⟩))
    · have e' := nilD h3 e
      subst e'
      rw [List.nil_append] at h
      exact kq.here w ry h
    · have e' := nilD h5 e
      subst e'
      rw [List.append_nil] at h
      exact kq.here w rx h
    · exact kq (.ref l) (.tup (xs ++ ys)) (upd G l (.tup (vs ++ us))) μ _ (Ex.new (w.noG hl)) (w.newG hl) ⟨l, _, rfl, SqT.of upd_same, RpL.mono (Ex.new (w.noG hl)) _ _ (h3.app h5)⟩ h
  · obtain ⟨p, vs, rfl, h2, h3⟩ := hx.h w rx
    obtain ⟨q, us, rfl, h4, h5⟩ := hy.h w ry
    exact .inr (.inr (.inr ⟨p, q, vs, us, rfl, rfl, h2, h4, by rw [h3.len, h5.len]; exact hz, fun l hl => new_lst w (h3.app h5) h kq hl⟩))
theorem rr_sub {K : PySem.W.Frag} : RR2 K (rI0 fun i j => .int (i - j)) dSub := fun x y dx dy G F μ H Qd Q rx ry w h kq => by
  unfold dSub at h
  split at h
  · exact ⟨_, _, rx, ry, kq.here w (d := .int _) rfl h⟩
  · exact h.elim
theorem rr_mod {K : PySem.W.Frag} : RR2 K (rI (fun _ j => 0 < j) fun i j => .int (i % j)) dMod := fun x y dx dy G F μ H Qd Q rx ry w h kq => by
  unfold dMod at h
  split at h
  · exact ⟨_, _, rx, ry, h.1, kq.here w (d := .int _) rfl h.2⟩
  · exact h.elim
theorem rr_fdiv {K : PySem.W.Frag} : RR2 K (rI CDiv fun i j => .int (i / j)) dFDiv := fun x y dx dy G F μ H Qd Q rx ry w h kq => by
  unfold dFDiv at h
  split at h
  · exact ⟨_, _, rx, ry, h.1, kq.here w (d := .int _) rfl h.2⟩
  · exact h.elim
theorem rr_pow {K : PySem.W.Frag} : RR2 K (rI CPow fun i j => .int (i ^ j.toNat)) dPow := fun x y dx dy G F μ H Qd Q rx ry w h kq => by
  unfold dPow at h
  split at h
  · exact ⟨_, _, rx, ry, h.1, kq.here w (d := .int _) rfl h.2⟩
  · exact h.elim
theorem rr_cmp {K : PySem.W.Frag} {p : Int → Int → Bool} : RR2 K (rI0 fun i j => .bl (p i j)) (dCmp p) := fun x y dx dy G F μ H Qd Q rx ry w h kq => by
  unfold dCmp at h
  split at h
  · exact ⟨_, _, rx, ry, kq.here w (d := .bl _) rfl h⟩
  · exact h.elim
def rRepS : R2 := fun x y H Q => ∃ a k, x = .str a ∧ y = .int k ∧ 0 ≤ k ∧ k < 1000 ∧ a.length < 1000 ∧ Q (.str (repS a k)) H
theorem foldl_app (l : List (Array Nat)) (acc : Array Nat) : (l.foldl (· ++ ·) acc).toList = acc.toList ++ (l.map Array.toList).flatten := by
  induction l generalizing acc with
  | nil => simp
  | cons a l ih => rw [List.foldl_cons, ih]; simp
theorem len0 {a : Str} (h : a.length = 0) : a.cps.toList = [] := List.length_eq_zero_iff.mp (show a.cps.toList.length = 0 from h)
theorem op_repS : OpR X (binaryOp .Mult) rRepS := by
  intro pins s σ H x y v u Q I rx ry h
  obtain ⟨a, k, rfl, rfl, h0, h1, hl, q⟩ := h
  obtain ⟨t, rfl⟩ := rx
  obtain ⟨t', rfl⟩ := ry
  have hb : ¬ (a.length : Int) > (2 ^ 63 - 1) / k ∨ k < 1 := by
    by_cases hk : k < 1
    · exact .inr hk
    · left
      have : (1000 : Int) ≤ (2 ^ 63 - 1) / k := by
        rw [Int.le_ediv_iff_mul_le (by omega)]
        have : 1000 * k ≤ 1000 * 1000 := by omega
        omega
      omega
  refine P.mul_str ?_ (fun hn _ => by rcases hb with hb | hb; exact hb; exact absurd hb hn) (fun _ _ => ?_) ?_
  · have e1 : ¬ k < -(2 ^ 63 : Int) := by omega
    have e2 : ¬ k ≥ 2 ^ 63 := by omega
    rw [decide_eq_false e1, decide_eq_false e2]; rfl
  · have : a.length * k.toNat ≤ 1000 * 1000 := Nat.mul_le_mul (by omega) (by omega)
    have e : ¬ (a.length * k.toNat > sizeLine) := by
      have : sizeLine = 16777216 := rfl
      omega
    exact decide_eq_false e
  · by_cases hk : k < 1
    · rw [if_pos hk]
      have hk0 : k = 0 := by omega
      have e : repS a k = Str.empty := by subst hk0; rfl
      rw [e] at q
      exact ⟨by decide, ⟨.str Str.empty, H, I.tok _, ⟨_, rfl⟩, q⟩⟩
    · rw [if_neg hk]
      by_cases h2 : (k == 1 || a.length == 0) = true
      · rw [if_pos h2]
        have e : repS a k = a := by
          rw [Bool.or_eq_true] at h2
          rcases h2 with h2 | h2
          · have : k = 1 := by simpa using h2
            subst this
            show (⟨(List.replicate 1 a.cps.toList).flatten.toArray⟩ : Str) = a
            simp
          · have h8 : a.length = 0 := by simpa using h2
            have h3 : a.cps.toList = [] := len0 h8
            have h4 : a = ⟨#[]⟩ := by
              obtain ⟨c⟩ := a
              have : c.toList = [] := h3
              have h9 : c = #[] := Array.toList_eq_nil_iff.mp this
              rw [h9]
            have : (List.replicate k.toNat a.cps.toList).flatten = [] := by rw [h3]; simp
            unfold repS
            rw [this, h4]
        rw [e] at q
        exact ⟨.str a, H, I, ⟨t, rfl⟩, q⟩
      · rw [if_neg h2]
        have e : (⟨(List.replicate k.toNat a.cps).foldl (· ++ ·) #[]⟩ : Str) = repS a k := by
          unfold repS
          congr 1
          apply Array.ext'
          rw [foldl_app]
          simp
        rw [e]
        refine ⟨?_, ⟨.str _, H, I.tok _, ⟨_, rfl⟩, q⟩⟩
        have : (repS a k).length = a.length * k.toNat := by
          show (List.replicate k.toNat a.cps.toList).flatten.toArray.size = _
          have h9 : a.cps.size = a.length := rfl
          simp [Nat.mul_comm, h9]
        have h5 : a.length * k.toNat ≤ 1000 * 1000 := Nat.mul_le_mul (by omega) (by omega)
        rw [this]
        first | omega | (simp [sizeLine]; omega) | simp_all
def hMul : R2 := fun x y H Q => rI CMul (fun i j => .int (i * j)) x y H Q ∨ rRepS x y H Q ∨ rRep x y H Q
theorem op_mulG : OpR X (binaryOp .Mult) hMul := OpR.or op_mul (OpR.or op_repS op_rep)
theorem rpl_rep {K : PySem.W.Frag} {G : Hp} {xs : List D} {vs : List V} (h : RpL K G xs vs) : ∀ n : Nat, RpL K G (List.replicate n xs).flatten (List.replicate n vs).flatten
  | 0 => rfl
  | n + 1 => by rw [List.replicate_succ, List.replicate_succ, List.flatten_cons, List.flatten_cons]; exact h.app (rpl_rep h n)
theorem rr_mul {K : PySem.W.Frag} {m : Bool} : RR2 K hMul (dMul m) := fun x y dx dy G F μ H Qd Q rx ry w h kq => by
  unfold dMul at h
  split at h
  · exact .inl ⟨_, _, rx, ry, h.1, kq.here w (d := .int _) rfl h.2⟩
  · exact .inr (.inl ⟨_, _, rx, ry, h.1, h.2.1, h.2.2.1, kq.here w (d := .str _) rfl h.2.2.2⟩)
  · obtain ⟨xs, hx, h1, h2, hz, h⟩ := h
    obtain ⟨p, vs, rfl, h3, h4⟩ := hx.h w rx
    exact .inr (.inr ⟨p, _, vs, rfl, ry, h3, h1, h2, by rw [h4.len]; exact hz, fun l hl => new_lst w (rpl_rep h4 _) h kq hl⟩)
  · exact h.elim
def hEq (K : PySem.W.Frag) : R2 := fun x y H Q => rEq x y H Q ∨ rEqD K x y H Q
def hNe (K : PySem.W.Frag) : R2 := fun x y H Q => rNe x y H Q ∨ rNeD K x y H Q
theorem op_eqG (hu : X.A.units + 64 < cLine) : OpR X (compareOp .Eq) (hEq X.K) := OpR.or op_eq (op_eqD hu)
theorem op_neG (hu : X.A.units + 64 < cLine) : OpR X (compareOp .NotEq) (hNe X.K) := OpR.or op_ne (op_neD hu)
theorem dec_int (i j : Int) : decide (V.int i = V.int j) = decide (i = j) := by by_cases h : i = j <;> simp [h]
theorem dec_str (i j : Str) : decide (V.str i = V.str j) = decide (i = j) := by by_cases h : i = j <;> simp [h]
theorem rr_eq {K : PySem.W.Frag} : RR2 K (hEq K) (dEqn false) := fun x y dx dy G F μ H Qd Q rx ry w h kq => by
  unfold dEqn at h
  split at h
  · have rx' : x = V.int _ := rx
    have ry' : y = V.int _ := ry
    refine .inl ⟨by rw [rx', ry'] <;> rfl, kq.here w (d := .bl _) ?_ h⟩
    rw [rx', ry', dec_int] <;> rfl
  · have rx' : x = V.str _ := rx
    have ry' : y = V.str _ := ry
    refine .inl ⟨by rw [rx', ry'] <;> rfl, kq.here w (d := .bl _) ?_ h⟩
    rw [rx', ry', dec_str] <;> rfl
  · obtain ⟨p, q, h1, h2, s1, s2, h⟩ := h
    exact .inr ⟨p, q, pdM_dp w rx h1, pdM_dp w ry h2, s1, s2, kq.here w (d := .bl _) rfl h⟩
theorem rr_ne {K : PySem.W.Frag} : RR2 K (hNe K) (dEqn true) := fun x y dx dy G F μ H Qd Q rx ry w h kq => by
  unfold dEqn at h
  split at h
  · have rx' : x = V.int _ := rx
    have ry' : y = V.int _ := ry
    refine .inl ⟨by rw [rx', ry'] <;> rfl, kq.here w (d := .bl _) ?_ h⟩
    rw [rx', ry', dec_int] <;> rfl
  · have rx' : x = V.str _ := rx
    have ry' : y = V.str _ := ry
    refine .inl ⟨by rw [rx', ry'] <;> rfl, kq.here w (d := .bl _) ?_ h⟩
    rw [rx', ry', dec_str] <;> rfl
  · obtain ⟨p, q, h1, h2, s1, s2, h⟩ := h
    exact .inr ⟨p, q, pdM_dp w rx h1, pdM_dp w ry h2, s1, s2, kq.here w (d := .bl _) rfl h⟩
def hIn (K : PySem.W.Frag) (neg : Bool) : R2 := fun x y H Q => (∃ (c : Nat) (z : Str), x = .str ⟨#[c]⟩ ∧ y = .str z ∧ Q (.bl (if neg then !decide (c ∈ z.cps.toList) else decide (c ∈ z.cps.toList))) H) ∨ rIn K neg x y H Q
theorem op_inG : OpR X (compareOp .In) (hIn X.K false) := OpR.or (op_in_sign) op_in_seq
theorem op_notInG : OpR X (compareOp .NotIn) (hIn X.K true) := OpR.or (op_notIn_sign) op_notIn_seq
theorem rr_in {K : PySem.W.Frag} {neg : Bool} : RR2 K (hIn K neg) (dIn neg) := fun x y dx dy G F μ H Qd Q rx ry w h kq => by
  unfold dIn at h
  split at h
  · obtain ⟨c, rfl, h⟩ := h
    exact .inl ⟨c, _, rx, ry, kq.here w (d := .bl _) rfl h⟩
  · obtain ⟨xs, hs, f1, f2, h⟩ := h
    obtain ⟨a, vs, rfl, hq, hr⟩ := hs.h w ry
    obtain ⟨e1, e2⟩ := Rp.vOf_eq f1 rx
    obtain ⟨e3, e4⟩ := RpL.vOf_eq f2 hr
    refine .inr ⟨a, vs, rfl, hq, e2, e4, kq.here w (d := .bl _) ?_ h⟩
    rw [e1, e3]
    rfl
theorem isNon_dec {K : PySem.W.Frag} {G : Hp} {x : D} {v : V} (r : Rp K G x v) : decide (v = .non) = isNon x := by
  cases x with
  | non => have r' : v = V.non := r; rw [r'] <;> rfl
  | bl b => have r' : v = V.bl b := r; rw [r'] <;> rfl
  | int b => have r' : v = V.int b := r; rw [r'] <;> rfl
  | str b => have r' : v = V.str b := r; rw [r'] <;> rfl
  | ty b => have r' : v = V.ty b := r; rw [r'] <;> rfl
  | obj b => have r' : v = V.ref b := r; rw [r'] <;> rfl
  | tup _ => obtain ⟨a, _, rfl, _⟩ := r; rfl
  | lst _ => obtain ⟨a, _, rfl, _⟩ := r; rfl
  | scr _ => obtain ⟨a, _, rfl, _⟩ := r; rfl
  | exc _ _ => obtain ⟨a, _, rfl, _⟩ := r; rfl
theorem rr_isN {K : PySem.W.Frag} : RR2 K (fun x y H Q => y = .non ∧ Q (.bl (decide (x = .non))) H) (dIsN false) := fun x y dx dy G F μ H Qd Q rx ry w h kq => by
  unfold dIsN at h
  split at h
  · exact ⟨ry, kq.here w (d := .bl _) (by rw [isNon_dec rx] <;> rfl) h⟩
  · exact h.elim
theorem rr_notN {K : PySem.W.Frag} : RR2 K (fun x y H Q => y = .non ∧ Q (.bl (!decide (x = .non))) H) (dIsN true) := fun x y dx dy G F μ H Qd Q rx ry w h kq => by
  unfold dIsN at h
  split at h
  · exact ⟨ry, kq.here w (d := .bl _) (by rw [isNon_dec rx] <;> rfl) h⟩
  · exact h.elim
theorem RpL.atI {K : PySem.W.Frag} {G : Hp} {xs : List D} {vs : List V} {i : Int} {d : D} (h : RpL K G xs vs) (e : L2.atI xs i = some d) : ∃ v, L2.atI vs i = some v ∧ Rp K G d v := by
  unfold L2.atI at e ⊢
  rw [h.len]
  cases q : ixN xs.length i with
  | none => rw [q] at e; cases e
  | some j => rw [q] at e; exact h.get e
theorem rr_ix {K : PySem.W.Frag} : RR2 K (rIx K) dIx := fun x y dx dy G F μ H Qd Q rx ry w h kq => by
  unfold dIx at h
  split at h
  · obtain ⟨hz, c, hc, h⟩ := h
    exact .inr (.inr ⟨_, _, c, rx, ry, hz, hc, kq.here w (d := .str _) rfl h⟩)
  · obtain ⟨xs, d, hs, ha, h⟩ := h
    obtain ⟨a, vs, rfl, hq, hr⟩ := hs.h w rx
    obtain ⟨v, hv, rv⟩ := hr.atI ha
    rcases hq with hq | hq
    · exact .inl ⟨a, vs, _, v, rfl, ry, hq, hv, kq.here w rv h⟩
    · exact .inr (.inl ⟨a, vs, _, v, rfl, ry, hq, hv, kq.here w rv h⟩)
  · exact h.elim
theorem RpL.cut {K : PySem.W.Frag} {G : Hp} {xs : List D} {vs : List V} (h : RpL K G xs vs) (lo hi : Option Int) : RpL K G (cutD xs lo hi) (cutV vs lo hi) := by
  unfold cutD cutV
  rw [h.len]
  exact (h.drop _).take _
def hSl (K : PySem.W.Frag) : V → Option Int → Option Int → Hp → VK → Prop := fun x lo hi H Q => rSlS x lo hi H Q ∨ rSlA K x lo hi H Q ∨ rSlL K x lo hi H Q
theorem sl_G : SlR X (hSl X.K) := SlR.or sl_str (SlR.or sl_tupA sl_list)
theorem cut_all {α : Type} (xs : List α) (lo hi : Option Int) (h : HT.sIx xs.length 0 lo = 0 ∧ HT.sIx xs.length xs.length hi = xs.length) : (xs.drop (HT.sIx xs.length 0 lo)).take (HT.sIx xs.length xs.length hi - HT.sIx xs.length 0 lo) = xs := by
  rw [h.1, h.2]; simp
theorem re_sl {K : PySem.W.Frag} {m : Bool} {te : TE} {tl th : TO} {de : TD} {dl dh : TOd} (h1 : RE K te de) (h2 : RO K tl dl) (h3 : RO K th dh) : RE K (tSl (hSl K) te tl th) (dSl m de dl dh) :=
  fun σ ds G F μ H Qd Q hs hw h kq => h1 σ ds G F μ H _ _ hs hw h fun x dx G1 μ1 H1 e1 w1 rx q1 => h2 σ ds G1 F μ1 H1 _ _ (hs.mono e1) w1 q1 fun lo G2 μ2 H2 e2 w2 q2 =>
    h3 σ ds G2 F μ2 H2 _ _ (hs.mono (e1.trans e2)) w2 q2 fun hi G3 μ3 H3 e3 w3 q3 => by
      have rx3 := Rp.mono (e2.trans e3) _ _ rx
      have kq3 := kq.up (e1.trans (e2.trans e3))
      split at q3
      · exact .inl ⟨_, rx3, q3.1, kq3.here w3 (d := .str _) rfl q3.2⟩
      · rename_i xs
        obtain ⟨a, vs, rfl, hq, hr⟩ := id rx3
        refine .inr (.inl ⟨a, vs, rfl, w3.g.t hq, fun whole => ?_, fun _ p hp => kq3 (.ref p) (.tup _) (upd G3 p (.tup (cutV vs lo hi))) μ3 _ (Ex.new (w3.noG hp)) (w3.newG hp) ⟨p, _, rfl, SqT.of upd_same, RpL.mono (Ex.new (w3.noG hp)) _ _ (hr.cut lo hi)⟩ q3⟩)
        have e : cutD xs lo hi = xs := cut_all xs lo hi (by rw [← hr.len]; exact whole)
        rw [e] at q3
        exact kq3.here w3 rx3 q3
      · obtain ⟨xs, hq, q⟩ := q3
        rename_i d hno1 hno2
        have : ∃ a vs, x = .ref a ∧ SqL K H3 a vs ∧ RpL K G3 xs vs := by
          cases dx with
          | str z => exact absurd rfl (hno1 z)
          | tup ys => exact absurd rfl (hno2 ys)
          | lst ys =>
            obtain ⟨a, vs, h1, h2, h3⟩ := rx3
            have h' : ys = xs := hq
            subst h'
            exact ⟨a, vs, h1, SqL.of (w3.g _ _ h2), h3⟩
          | scr ys =>
            obtain ⟨a, vs, h1, h2, h3⟩ := rx3
            have h' : ys = xs := hq
            subst h'
            exact ⟨a, vs, h1, w3.g.l h2, h3⟩
          | obj a =>
            have r' : x = .ref a := rx3
            have h' : μ3 a = some (.lst xs) := hq
            obtain ⟨o, h1, ⟨vs, h2, h4⟩, h3⟩ := w3.m a _ h'
            subst h2
            exact ⟨a, vs, r', SqL.of h1, h4⟩
          | _ => exact False.elim hq
        obtain ⟨a, vs, rfl, hl, hr⟩ := this
        exact .inr (.inr ⟨a, vs, rfl, hl, fun p hp => new_lst w3 (hr.cut lo hi) q kq3 hp⟩)
/-! ### built-ins that are called -/
def hLen (K : PySem.W.Frag) : List V → Hp → VK → Prop := fun xs H Q => (∃ p ys, xs = [.ref p] ∧ (SqL K H p ys ∨ SqT K H p ys) ∧ Q (.int ys.length) H) ∨ ∃ z, xs = [.str z] ∧ z.length ≤ sizeLine ∧ Q (.int z.length) H
theorem call_lenG : CallR X (.builtin "len") (hLen X.K) := CallR.or call_len_seq call_len_str
def dLen : List D → Mu → DK → Prop
  | [.str z], μ, Q => z.length ≤ sizeLine ∧ Q (.int z.length) μ
  | [x], μ, Q => ∃ xs, SeqD μ x xs ∧ Q (.int xs.length) μ
  | _, _, _ => False
theorem rpl1 {K : PySem.W.Frag} {G : Hp} {x : D} {vs : List V} (h : RpL K G [x] vs) : ∃ v, vs = [v] ∧ Rp K G x v := by
  obtain ⟨v, r, h1, h2, h3⟩ := h
  rw [RpL] at h3
  subst h3
  exact ⟨v, h1, h2⟩
theorem rpl2 {K : PySem.W.Frag} {G : Hp} {x y : D} {vs : List V} (h : RpL K G [x, y] vs) : ∃ v u, vs = [v, u] ∧ Rp K G x v ∧ Rp K G y u := by
  obtain ⟨v, r, h1, h2, h3⟩ := h
  obtain ⟨u, rfl, h4⟩ := rpl1 h3
  exact ⟨v, u, h1, h2, h4⟩
theorem rl_len {K : PySem.W.Frag} : RRL K (hLen K) dLen := fun vs ds G F μ H Qd Q rs w h kq => by
  unfold dLen at h
  split at h
  · obtain ⟨v, rfl, rv⟩ := rpl1 rs
    have rv' : v = V.str _ := rv
    exact .inr ⟨_, by rw [rv'], h.1, kq.here w (d := .int _) rfl h.2⟩
  · obtain ⟨v, rfl, rv⟩ := rpl1 rs
    obtain ⟨xs, hs, h⟩ := h
    obtain ⟨a, us, rfl, hq, hr⟩ := hs.h w rv
    exact .inl ⟨a, us, rfl, hq, kq.here w (d := .int _) (by rw [hr.len] <;> rfl) h⟩
  · exact h.elim
def dInt : List D → Mu → DK → Prop
  | [.int i], μ, Q => Q (.int i) μ
  | [.bl k], μ, Q => Q (.int (if k then 1 else 0)) μ
  | _, _, _ => False
theorem rl_int {K : PySem.W.Frag} : RRL K (fun xs H Q => (∃ i, xs = [.int i] ∧ Q (.int i) H) ∨ ∃ k, xs = [.bl k] ∧ Q (.int (if k then 1 else 0)) H) dInt := fun vs ds G F μ H Qd Q rs w h kq => by
  unfold dInt at h
  split at h
  · obtain ⟨v, rfl, rv⟩ := rpl1 rs
    have rv' : v = V.int _ := rv
    exact .inl ⟨_, by rw [rv'], kq.here w (d := .int _) rfl h⟩
  · obtain ⟨v, rfl, rv⟩ := rpl1 rs
    have rv' : v = V.bl _ := rv
    exact .inr ⟨_, by rw [rv'], kq.here w (d := .int _) rfl h⟩
  · exact h.elim
def hStr : List V → Hp → VK → Prop := fun xs H Q => (∃ i, xs = [.int i] ∧ i.natAbs.log2 < 1920 ∧ Q (.str (toString i)) H) ∨ ∃ z, xs = [.str z] ∧ Q (.str z) H
theorem call_str_str : CallR X (.type "str") (fun xs H Q => ∃ z, xs = [.str z] ∧ Q (.str z) H) := by
  intro pins s σ H xs us Q I rs h
  obtain ⟨z, rfl, q⟩ := h
  cases rs with
  | cons r rr =>
    cases rr
    obtain ⟨t, rfl⟩ := r
    exact P.str_of_str ⟨.str z, H, I, ⟨t, rfl⟩, q⟩
theorem call_strG : CallR X (.type "str") hStr := CallR.or call_str_int call_str_str
def dStr : List D → Mu → DK → Prop
  | [.int i], μ, Q => i.natAbs.log2 < 1920 ∧ Q (.str (toString i)) μ
  | [.str z], μ, Q => Q (.str z) μ
  | _, _, _ => False
theorem rl_str {K : PySem.W.Frag} : RRL K hStr dStr := fun vs ds G F μ H Qd Q rs w h kq => by
  unfold dStr at h
  split at h
  · obtain ⟨v, rfl, rv⟩ := rpl1 rs
    have rv' : v = V.int _ := rv
    exact .inl ⟨_, by rw [rv'], h.1, kq.here w (d := .str _) rfl h.2⟩
  · obtain ⟨v, rfl, rv⟩ := rpl1 rs
    have rv' : v = V.str _ := rv
    exact .inr ⟨_, by rw [rv'], kq.here w (d := .str _) rfl h⟩
  · exact h.elim
def dTupOf : List D → Mu → DK → Prop
  | [.tup xs], μ, Q => Q (.tup xs) μ
  | [x], μ, Q => ∃ xs, SeqD μ x xs ∧ Q (.tup xs) μ
  | _, _, _ => False
theorem rl_tupOf {K : PySem.W.Frag} : RRL K (fun xs H Q => ∃ p ys, xs = [.ref p] ∧ ((SqL K H p ys ∧ ∀ l, H l = none → Q (.ref l) (upd H l (.tup ys))) ∨ (SqT K H p ys ∧ Q (.ref p) H))) dTupOf := fun vs ds G F μ H Qd Q rs w h kq => by
  unfold dTupOf at h
  split at h
  · obtain ⟨v, rfl, rv⟩ := rpl1 rs
    obtain ⟨a, us, rfl, hq, hr⟩ := id rv
    exact ⟨a, us, rfl, .inr ⟨w.g.t hq, kq.here w rv h⟩⟩
  · obtain ⟨v, rfl, rv⟩ := rpl1 rs
    obtain ⟨xs, hs, h⟩ := h
    obtain ⟨a, us, rfl, hq, hr⟩ := hs.h w rv
    rename_i x hx
    rcases hq with hq | hq
    · exact ⟨a, us, rfl, .inl ⟨hq, fun l hl => kq (.ref l) (.tup xs) (upd G l (.tup us)) μ _ (Ex.new (w.noG hl)) (w.newG hl) ⟨l, us, rfl, SqT.of upd_same, RpL.mono (Ex.new (w.noG hl)) _ _ hr⟩ h⟩⟩
    · cases x with
      | tup ys => exact absurd rfl (hx ys)
      | lst ys =>
        obtain ⟨b, ws, e1, e2, e3⟩ := rv
        cases e1
        have h' : ys = xs := hs
        subst h'
        exact ⟨_, ws, rfl, .inl ⟨SqL.of (w.g _ _ e2), fun l hl => kq (.ref l) (.tup ys) (upd G l (.tup ws)) μ _ (Ex.new (w.noG hl)) (w.newG hl) ⟨l, ws, rfl, SqT.of upd_same, RpL.mono (Ex.new (w.noG hl)) _ _ e3⟩ h⟩⟩
      | scr ys =>
        obtain ⟨b, ws, e1, e2, e3⟩ := rv
        cases e1
        have h' : ys = xs := hs
        subst h'
        exact ⟨_, ws, rfl, .inl ⟨w.g.l e2, fun l hl => kq (.ref l) (.tup ys) (upd G l (.tup ws)) μ _ (Ex.new (w.noG hl)) (w.newG hl) ⟨l, ws, rfl, SqT.of upd_same, RpL.mono (Ex.new (w.noG hl)) _ _ e3⟩ h⟩⟩
      | obj b =>
        have r' : V.ref a = .ref b := rv
        cases r'
        have h' : μ a = some (.lst xs) := hs
        obtain ⟨o, h1, ⟨ws, h2, h4⟩, h3⟩ := w.m a _ h'
        subst h2
        exact ⟨_, ws, rfl, .inl ⟨SqL.of h1, fun l hl => kq (.ref l) (.tup xs) (upd G l (.tup ws)) μ _ (Ex.new (w.noG hl)) (w.newG hl) ⟨l, ws, rfl, SqT.of upd_same, RpL.mono (Ex.new (w.noG hl)) _ _ h4⟩ h⟩⟩
      | _ => exact False.elim hs
  · exact h.elim
def dListOf (m : Bool) : List D → Mu → DK → Prop
  | [x], μ, Q => ∃ xs, SeqD μ x xs ∧ newLst m xs μ Q
  | _, _, _ => False
theorem rl_listOf {K : PySem.W.Frag} {m : Bool} : RRL K (fun xs H Q => ∃ p ys, xs = [.ref p] ∧ (SqL K H p ys ∨ SqT K H p ys) ∧ ∀ l, H l = none → Q (.ref l) (upd H l (.lst ys))) (dListOf m) := fun vs ds G F μ H Qd Q rs w h kq => by
  unfold dListOf at h
  split at h
  · obtain ⟨v, rfl, rv⟩ := rpl1 rs
    obtain ⟨xs, hs, h⟩ := h
    obtain ⟨a, us, rfl, hq, hr⟩ := hs.h w rv
    exact ⟨a, us, rfl, hq, fun l hl => new_lst w hr h kq hl⟩
  · exact h.elim
def dMax2 : List D → Mu → DK → Prop
  | [.int i, .int j], μ, Q => Q (.int (if j > i then j else i)) μ
  | _, _, _ => False
theorem rl_max2 {K : PySem.W.Frag} : RRL K (fun xs H Q => ∃ i j, xs = [.int i, .int j] ∧ Q (.int (if j > i then j else i)) H) dMax2 := fun vs ds G F μ H Qd Q rs w h kq => by
  unfold dMax2 at h
  split at h
  · obtain ⟨v, u, rfl, rv, ru⟩ := rpl2 rs
    have rv' : v = V.int _ := rv
    have ru' : u = V.int _ := ru
    exact ⟨_, _, by rw [rv', ru'], kq.here w (d := .int _) rfl h⟩
  · exact h.elim
def dSum : List D → Mu → DK → Prop
  | [x], μ, Q => ∃ ns : List Int, LstAt μ x (ns.map D.int) ∧ Q (.int ns.sum) μ
  | _, _, _ => False
theorem rl_sum {K : PySem.W.Frag} : RRL K (rSum K) dSum := fun vs ds G F μ H Qd Q rs w h kq => by
  unfold dSum at h
  split at h
  · obtain ⟨v, rfl, rv⟩ := rpl1 rs
    obtain ⟨ns, hs, h⟩ := h
    obtain ⟨a, us, rfl, hq, hr⟩ := hs.h w rv
    have := hr.ints
    subst this
    exact ⟨a, ns, rfl, SqL.of hq, kq.here w (d := .int _) rfl h⟩
  · exact h.elim
def dAll : List D → Mu → DK → Prop
  | [x], μ, Q => ∃ bs : List Bool, LstAt μ x (bs.map D.bl) ∧ Q (.bl (bs.all id)) μ
  | _, _, _ => False
theorem rl_all {K : PySem.W.Frag} : RRL K (rAll K) dAll := fun vs ds G F μ H Qd Q rs w h kq => by
  unfold dAll at h
  split at h
  · obtain ⟨v, rfl, rv⟩ := rpl1 rs
    obtain ⟨ns, hs, h⟩ := h
    obtain ⟨a, us, rfl, hq, hr⟩ := hs.h w rv
    have := hr.bls
    subst this
    exact ⟨a, ns, rfl, SqL.of hq, kq.here w (d := .bl _) rfl h⟩
  · exact h.elim
/-! ### methods of lists and texts -/
def dAppend : D → List D → Mu → DK → Prop
  | .obj a, [y], μ, Q => ∃ xs, μ a = some (.lst xs) ∧ xs.length < sizeLine ∧ Q .non (put μ a (.lst (xs ++ [y])))
  | _, _, _, _ => False
def dInsert : D → List D → Mu → DK → Prop
  | .obj a, [.int i, y], μ, Q => ∃ xs, μ a = some (.lst xs) ∧ xs.length < sizeLine ∧ 0 ≤ i ∧ i < 2 ^ 63 ∧ Q .non (put μ a (.lst (xs.take i.toNat ++ [y] ++ xs.drop i.toNat)))
  | _, _, _, _ => False
def dPopAt : D → List D → Mu → DK → Prop
  | .obj a, [.int i], μ, Q => ∃ xs y, μ a = some (.lst xs) ∧ 0 ≤ i ∧ i < 2 ^ 63 ∧ xs[i.toNat]? = some y ∧ Q y (put μ a (.lst (xs.eraseIdx i.toNat)))
  | _, _, _, _ => False
theorem Wd.lstM {K : PySem.W.Frag} {G F : Hp} {μ : Mu} {H : Hp} (w : Wd K G F μ H) {a : Addr} {xs : List D} (h : μ a = some (.lst xs)) : ∃ vs, H a = some (.lst vs) ∧ RpL K G xs vs := by
  obtain ⟨o, h1, ⟨vs, h2, h4⟩, h3⟩ := w.m a _ h
  subst h2
  exact ⟨vs, h1, h4⟩
theorem Wd.chgL {K : PySem.W.Frag} {G F : Hp} {μ : Mu} {H : Hp} (w : Wd K G F μ H) {p : Addr} {xs : List D} {vs : List V} {m0 : MO} (h : μ p = some m0) (r : RpL K G xs vs) : Wd K G F (put μ p (.lst xs)) (upd H p (.lst vs)) :=
  w.chg (m := .lst xs) h ⟨vs, rfl, r⟩
theorem rm_append {K : PySem.W.Frag} : RRM K rAppend dAppend := fun x xs dx ds G F μ H Qd Q rx rs w h kq => by
  unfold dAppend at h
  split at h
  · have rx' : x = V.ref _ := rx
    obtain ⟨v, rfl, rv⟩ := rpl1 rs
    obtain ⟨ys, hm, hz, h⟩ := h
    obtain ⟨vs, h1, h2⟩ := w.lstM hm
    exact ⟨_, vs, v, rx', rfl, h1, by rw [h2.len]; exact hz, kq _ .non G _ _ (Ex.refl G) (w.chgL hm (h2.app (RpL.one rv))) rfl h⟩
  · exact h.elim
theorem rm_insert {K : PySem.W.Frag} : RRM K (fun x vs H Q => ∃ (l : Addr) (xs : List V) (i : Int) (y : V), x = .ref l ∧ vs = [.int i, y] ∧ H l = some (.lst xs) ∧ xs.length < sizeLine ∧ 0 ≤ i ∧ i < 2 ^ 63 ∧ Q .non (upd H l (.lst (xs.take i.toNat ++ [y] ++ xs.drop i.toNat)))) dInsert := fun x xs dx ds G F μ H Qd Q rx rs w h kq => by
  unfold dInsert at h
  split at h
  · have rx' : x = V.ref _ := rx
    obtain ⟨v, u, rfl, rv, ru⟩ := rpl2 rs
    have rv' : v = V.int _ := rv
    obtain ⟨ys, hm, hz, h0, h63, h⟩ := h
    obtain ⟨vs, h1, h2⟩ := w.lstM hm
    exact ⟨_, vs, _, u, rx', by rw [rv'], h1, by rw [h2.len]; exact hz, h0, h63, kq _ .non G _ _ (Ex.refl G) (w.chgL hm (((h2.take _).app (RpL.one ru)).app (h2.drop _))) rfl h⟩
  · exact h.elim
theorem rm_popAt {K : PySem.W.Frag} : RRM K rPopAt dPopAt := fun x xs dx ds G F μ H Qd Q rx rs w h kq => by
  unfold dPopAt at h
  split at h
  · rename_i a i
    have rx' : x = V.ref _ := rx
    obtain ⟨v, rfl, rv⟩ := rpl1 rs
    have rv' : v = V.int _ := rv
    obtain ⟨ys, y, hm, h0, h63, hy, h⟩ := h
    obtain ⟨vs, h1, h2⟩ := w.lstM hm
    obtain ⟨u, hu, ru⟩ := h2.get hy
    have hlt : i.toNat < vs.length := (List.getElem?_eq_some_iff.mp hu).1
    refine ⟨_, vs, _, i.toNat, u, rx', by rw [rv'], h1, by omega, h63, ?_, hu, kq _ y G _ _ (Ex.refl G) (w.chgL hm (h2.eraseIdx _)) ru h⟩
    unfold seqIndex?
    first | (simp; omega) | (split <;> first | (simp; omega) | omega)
  · exact h.elim
def isLstM (μ : Mu) : D → Prop
  | .obj a => ∃ xs, μ a = some (.lst xs)
  | _ => False
/-- a method of a list that may change -/
def dBML (r : D → List D → Mu → DK → Prop) (to : TD) (t : TAd) : TD := fun ds μ Q => to ds μ fun x μ1 => isLstM μ1 x ∧ t ds μ1 fun xs μ2 => r x xs μ2 Q
theorem re_bml {K : PySem.W.Frag} {r : V → List V → Hp → VK → Prop} {dr : D → List D → Mu → DK → Prop} {to : TE} {t : TA} {dto : TD} {dt : TAd} (hr : RRM K r dr) (h1 : RE K to dto) (h2 : RA K t dt) : RE K (tBM K "list" r to t) (dBML dr dto dt) :=
  fun σ ds G F μ H Qd Q hs hw h kq => h1 σ ds G F μ H _ _ hs hw h fun x dx G1 μ1 H1 e1 w1 rx q1 => by
    obtain ⟨q0, q1⟩ := q1
    refine ⟨?_, h2 σ ds G1 F μ1 H1 _ _ (hs.mono e1) w1 q1 fun xs dxs G2 μ2 H2 e2 w2 rxs q2 => hr x xs dx dxs G2 F μ2 H2 Qd Q (Rp.mono e2 _ _ rx) rxs w2 q2 (kq.up (e1.trans e2))⟩
    cases dx with
    | obj a =>
      obtain ⟨xs, hm⟩ := q0
      obtain ⟨vs, h3, h4⟩ := w1.lstM hm
      have rx' : x = V.ref a := rx
      subst rx'
      exact .inl ⟨rfl, vs, SqL.of h3⟩
    | _ => exact False.elim q0
/-- a method of a text, one argument, none -/
def dM1 (r : D → List D → Mu → DK → Prop) (to te : TD) : TD := fun ds μ Q => to ds μ fun x μ1 => (∃ a, x = .str a) ∧ te ds μ1 fun y μ2 => r x [y] μ2 Q
def dM0 (r : D → List D → Mu → DK → Prop) (to : TD) : TD := fun ds μ Q => to ds μ fun x μ1 => (∃ a, x = .str a) ∧ r x [] μ1 Q
theorem re_m1 {K : PySem.W.Frag} {r : V → List V → Hp → VK → Prop} {dr : D → List D → Mu → DK → Prop} {to te : TE} {dto dte : TD} (hr : RRM K r dr) (h1 : RE K to dto) (h2 : RE K te dte) : RE K (tM1 r to te) (dM1 dr dto dte) :=
  fun σ ds G F μ H Qd Q hs hw h kq => h1 σ ds G F μ H _ _ hs hw h fun x dx G1 μ1 H1 e1 w1 rx q1 => by
    obtain ⟨⟨a, rfl⟩, q1⟩ := q1
    exact ⟨⟨a, rx⟩, h2 σ ds G1 F μ1 H1 _ _ (hs.mono e1) w1 q1 fun y dy G2 μ2 H2 e2 w2 ry q2 => hr x [y] (.str a) [dy] G2 F μ2 H2 Qd Q (Rp.mono e2 _ _ rx) (RpL.one ry) w2 q2 (kq.up (e1.trans e2))⟩
theorem re_m0 {K : PySem.W.Frag} {r : V → List V → Hp → VK → Prop} {dr : D → List D → Mu → DK → Prop} {to : TE} {dto : TD} (hr : RRM K r dr) (h1 : RE K to dto) : RE K (tM0 r to) (dM0 dr dto) :=
  fun σ ds G F μ H Qd Q hs hw h kq => h1 σ ds G F μ H _ _ hs hw h fun x dx G1 μ1 H1 e1 w1 rx q1 => by
    obtain ⟨⟨a, rfl⟩, q1⟩ := q1
    exact ⟨⟨a, rx⟩, hr x [] (.str a) [] G1 F μ1 H1 Qd Q rx rfl w1 q1 (kq.up e1)⟩
def dJoin : D → List D → Mu → DK → Prop
  | .str a, [x], μ, Q => ∃ ys : List Str, SeqD μ x (ys.map D.str) ∧ (ys.map (·.length)).sum + ys.length * a.length ≤ 16777216 ∧ Q (.str (Txt.join a ys)) μ
  | _, _, _, _ => False
theorem rm_join {K : PySem.W.Frag} : RRM K (fun x xs H Q => ∃ a p, ∃ ys : List Str, x = .str a ∧ xs = [.ref p] ∧ (SqL K H p (ys.map V.str) ∨ SqT K H p (ys.map V.str)) ∧
    (ys.map (·.length)).sum + ys.length * a.length ≤ 16777216 ∧ Q (.str (Txt.join a ys)) H) dJoin := fun x xs dx ds G F μ H Qd Q rx rs w h kq => by
  unfold dJoin at h
  split at h
  · obtain ⟨v, rfl, rv⟩ := rpl1 rs
    obtain ⟨ys, hs, hz, h⟩ := h
    obtain ⟨p, vs, rfl, hq, hr⟩ := hs.h w rv
    have := hr.strs
    subst this
    exact ⟨_, p, ys, rx, rfl, hq, hz, kq.here w (d := .str _) rfl h⟩
  · exact h.elim
def dSplit (m : Bool) : D → List D → Mu → DK → Prop
  | .str a, [.str b], μ, Q => (b.length == 0) = false ∧ a.length + 2 ≤ sizeLine ∧ newLst m ((Txt.split a b).map D.str) μ Q
  | _, _, _, _ => False
theorem rpl_strs {K : PySem.W.Frag} {G : Hp} : ∀ (ys : List Str), RpL K G (ys.map D.str) (ys.map V.str)
  | [] => rfl
  | y :: ys => ⟨.str y, _, rfl, rfl, rpl_strs ys⟩
theorem rpl_ints {K : PySem.W.Frag} {G : Hp} : ∀ (ys : List Int), RpL K G (ys.map D.int) (ys.map V.int)
  | [] => rfl
  | y :: ys => ⟨.int y, _, rfl, rfl, rpl_ints ys⟩
theorem rm_split {K : PySem.W.Frag} {m : Bool} : RRM K (fun x xs H Q => ∃ a b, x = .str a ∧ xs = [.str b] ∧ (b.length == 0) = false ∧ a.length + 2 ≤ sizeLine ∧ rNewStrs (Txt.split a b) H Q) (dSplit m) := fun x xs dx ds G F μ H Qd Q rx rs w h kq => by
  unfold dSplit at h
  split at h
  · obtain ⟨v, rfl, rv⟩ := rpl1 rs
    have rv' : v = V.str _ := rv
    exact ⟨_, _, rx, by rw [rv'], h.1, h.2.1, fun p hp => new_lst w (rpl_strs _) h.2.2 kq hp⟩
  · exact h.elim
def dUpper : D → List D → Mu → DK → Prop
  | .str a, [], μ, Q => a.length ≤ 5592405 ∧ Q (.str (Txt.upper a)) μ
  | _, _, _, _ => False
theorem rm_upper {K : PySem.W.Frag} : RRM K (fun x xs H Q => ∃ a, x = .str a ∧ xs = [] ∧ a.length ≤ 5592405 ∧ Q (.str (Txt.upper a)) H) dUpper := fun x xs dx ds G F μ H Qd Q rx rs w h kq => by
  unfold dUpper at h
  split at h
  · exact ⟨_, rx, rs, h.1, kq.here w (d := .str _) rfl h.2⟩
  · exact h.elim
end
end DL
set_option Elab.async false
set_option linter.all false
set_option maxRecDepth 100000
set_option maxHeartbeats 4000001
namespace DL
open PySem L2

/-! ### ends, statements -/
structure DEnds where
  nx : DSl → Mu → Prop
  rt : DK
  bk : DSl → Mu → Prop := fun _ _ => False
  ct : DSl → Mu → Prop := fun _ _ => False
abbrev DS := DEnds → DSl → Mu → Prop
section
variable (K : PySem.W.Frag)
def KS (G F : Hp) (Qd : DSl → Mu → Prop) (Q : St → Hp → Prop) : Prop := ∀ σ ds G' μ' H', Ex G G' → RpS K G' ds σ → Wd K G' F μ' H' → Qd ds μ' → Q σ H'
structure REn (G F : Hp) (E : Ends) (D : DEnds) : Prop where
  nx : KS K G F D.nx E.nx
  rt : KQ K G F D.rt E.rt
  bk : KS K G F D.bk E.bk
  ct : KS K G F D.ct E.ct
def RS (ts : TS) (td : DS) : Prop := ∀ σ ds G F μ H E D, RpS K G ds σ → Wd K G F μ H → td D ds μ → REn K G F E D → ts E σ H
end
theorem KS.up {K : PySem.W.Frag} {G G1 F : Hp} {Qd : DSl → Mu → Prop} {Q : St → Hp → Prop} (e : Ex G G1) (k : KS K G F Qd Q) : KS K G1 F Qd Q := fun σ ds G' μ' H' e' => k σ ds G' μ' H' (e.trans e')
theorem REn.up {K : PySem.W.Frag} {G G1 F : Hp} {E : Ends} {D : DEnds} (e : Ex G G1) (k : REn K G F E D) : REn K G1 F E D := ⟨k.nx.up e, k.rt.up e, k.bk.up e, k.ct.up e⟩

def dNext : DS := fun D ds μ => D.nx ds μ
def dSeq (t u : DS) : DS := fun D ds μ => t { D with nx := u D } ds μ
def dBreak : DS := fun D ds μ => D.bk ds μ
def dCont : DS := fun D ds μ => D.ct ds μ
def dDrop (te : TD) : DS := fun D ds μ => te ds μ fun _ μ1 => D.nx ds μ1
def dRet (te : TD) : DS := fun D ds μ => te ds μ D.rt
def dRetN : DS := fun D _ μ => D.rt .non μ
def dIfS (c : TTd) (t u : DS) : DS := fun D ds μ => c ds μ fun b μ1 => if b = true then t D ds μ1 else u D ds μ1
def dSet (i : Nat) (te : TD) : DS := fun D ds μ => te ds μ fun x μ1 => D.nx (ds.set i (some x)) μ1
def setAll : DSl → List Nat → List D → DSl
  | ds, i :: is, x :: xs => setAll (ds.set i (some x)) is xs
  | ds, _, _ => ds
/-- a target: what is stored, then what follows -/
abbrev DG := D → DSl → Mu → (DSl → Mu → Prop) → Prop
def dgName (i : Nat) : DG := fun d ds μ Q => Q (ds.set i (some d)) μ
def dgTup (is : List Nat) : DG := fun d ds μ Q => match d with
  | .tup xs => xs.length = is.length ∧ Q (setAll ds is xs) μ
  | _ => False
def dgSub (to ti : TD) : DG := fun d ds μ Q => to ds μ fun o μ1 => ti ds μ1 fun i μ2 => match o, i with
  | .obj a, .int k => ∃ xs j, μ2 a = some (.lst xs) ∧ ixN xs.length k = some j ∧ Q ds (put μ2 a (.lst (xs.set j d)))
  | _, _ => False
def dAsg (te : TD) (g : DG) : DS := fun D ds μ => te ds μ fun x μ1 => g x ds μ1 D.nx

section
variable {K : PySem.W.Frag}
theorem rs_next : RS K tNext dNext := fun σ ds G F μ H E D hs hw h k => k.nx σ ds G μ H (Ex.refl G) hs hw h
theorem rs_break : RS K tBreak dBreak := fun σ ds G F μ H E D hs hw h k => k.bk σ ds G μ H (Ex.refl G) hs hw h
theorem rs_cont : RS K tCont dCont := fun σ ds G F μ H E D hs hw h k => k.ct σ ds G μ H (Ex.refl G) hs hw h
theorem rs_seq {t u : TS} {dt du : DS} (h1 : RS K t dt) (h2 : RS K u du) : RS K (tSeq t u) (dSeq dt du) := fun σ ds G F μ H E D hs hw h k =>
  h1 σ ds G F μ H { E with nx := u E } { D with nx := du D } hs hw h ⟨fun σ' ds' G' μ' H' e s w q => h2 σ' ds' G' F μ' H' E D s w q (k.up e), k.rt, k.bk, k.ct⟩
theorem rs_drop {te : TE} {de : TD} (h1 : RE K te de) : RS K (tDrop te) (dDrop de) := fun σ ds G F μ H E D hs hw h k =>
  h1 σ ds G F μ H _ _ hs hw h fun v d G1 μ1 H1 e1 w1 r q => k.nx σ ds G1 μ1 H1 e1 (hs.mono e1) w1 q
theorem rs_ret {te : TE} {de : TD} (h1 : RE K te de) : RS K (tRet te) (dRet de) := fun σ ds G F μ H E D hs hw h k => h1 σ ds G F μ H _ _ hs hw h k.rt
theorem rs_retN : RS K tRetN dRetN := fun σ ds G F μ H E D hs hw h k => k.rt.here hw (d := .non) rfl h
theorem rs_if {c : TT} {t u : TS} {dc : TTd} {dt du : DS} (h0 : RT K c dc) (h1 : RS K t dt) (h2 : RS K u du) : RS K (tIfS c t u) (dIfS dc dt du) := fun σ ds G F μ H E D hs hw h k =>
  h0 σ ds G F μ H _ _ hs hw h fun b G1 μ1 H1 e1 w1 q => by
    cases b with
    | true => exact h1 σ ds G1 F μ1 H1 E D (hs.mono e1) w1 q (k.up e1)
    | false => exact h2 σ ds G1 F μ1 H1 E D (hs.mono e1) w1 q (k.up e1)
def RG (g : TG) (dg : DG) : Prop := ∀ v d σ ds G F μ H R Rd, Rp K G d v → RpS K G ds σ → Wd K G F μ H → dg d ds μ Rd → KS K G F Rd R → g v σ H R
theorem rg_name {i : Nat} : RG (K := K) (gName i) (dgName i) := fun v d σ ds G F μ H R Rd r hs hw h k => k _ _ G μ H (Ex.refl G) (hs.set r i) hw h
def RGs (gs : TGs) (is : List Nat) : Prop := ∀ vs xs σ ds G F μ H R Rd, RpL K G xs vs → xs.length = is.length → RpS K G ds σ → Wd K G F μ H → Rd (setAll ds is xs) μ → KS K G F Rd R → gs vs σ H R
theorem rgs_nil : RGs (K := K) gNil [] := fun vs xs σ ds G F μ H R Rd r hl hs hw h k => by
  have : xs = [] := List.length_eq_zero_iff.mp hl
  subst this
  exact ⟨r, k _ _ G μ H (Ex.refl G) hs hw h⟩
theorem rgs_cons {i : Nat} {is : List Nat} {gs : TGs} (h1 : RGs (K := K) gs is) : RGs (K := K) (gCons (gName i) gs) (i :: is) := fun vs xs σ ds G F μ H R Rd r hl hs hw h k => by
  cases xs with
  | nil => simp at hl
  | cons x xs =>
    obtain ⟨v, us, e, r1, r2⟩ := r
    exact ⟨v, us, e, h1 us xs _ _ G F μ H R Rd r2 (by simpa using hl) (hs.set r1 i) hw h k⟩
theorem rg_tup {n : Nat} {is : List Nat} {gs : TGs} (h1 : RGs (K := K) gs is) (hn : is.length = n) : RG (K := K) (gTup K n gs) (dgTup is) := fun v d σ ds G F μ H R Rd r hs hw h k => by
  cases d with
  | tup xs =>
    obtain ⟨a, vs, rfl, h2, h3⟩ := r
    exact ⟨a, vs, rfl, hw.g.t h2, by rw [h3.len, h.1, hn], h1 vs xs σ ds G F μ H R Rd h3 h.1 hs hw h.2 k⟩
  | _ => exact False.elim h
theorem rg_sub {to ti : TE} {dto dti : TD} (h1 : RE K to dto) (h2 : RE K ti dti) : RG (K := K) (gSub to ti rSetL) (dgSub dto dti) := fun v d σ ds G F μ H R Rd r hs hw h k =>
  h1 σ ds G F μ H _ _ hs hw h fun o do_ G1 μ1 H1 e1 w1 ro q1 => h2 σ ds G1 F μ1 H1 _ _ (hs.mono e1) w1 q1 fun i di G2 μ2 H2 e2 w2 ri q2 => by
    have ro' := Rp.mono e2 _ _ ro
    have r' := Rp.mono (e1.trans e2) _ _ r
    split at q2
    · obtain ⟨xs, j, hm, hj, q⟩ := q2
      obtain ⟨vs, h3, h4⟩ := w2.lstM hm
      exact ⟨_, vs, _, j, ro', ri, h3, by rw [h4.len]; exact hj, k σ ds G2 _ _ (e1.trans e2) (hs.mono (e1.trans e2)) (w2.chgL hm (h4.set r' j)) q⟩
    · exact q2.elim
theorem rs_asg {te : TE} {g : TG} {de : TD} {dg : DG} (h1 : RE K te de) (h2 : RG (K := K) g dg) : RS K (tAsg te g) (dAsg de dg) := fun σ ds G F μ H E D hs hw h k =>
  h1 σ ds G F μ H _ _ hs hw h fun v d G1 μ1 H1 e1 w1 r q => h2 v d σ ds G1 F μ1 H1 _ _ r (hs.mono e1) w1 q (k.nx.up e1)
end

/-! ### what is walked -/
/-- at turn i J hands out items[i] -/
def ItD (K : PySem.W.Frag) (G : Hp) (J : It) (items : List D) (keep : Mu → Prop) : Prop := ∀ i F G' μ H, Ex G G' → Wd K G' F μ H → keep μ →
  (i < items.length → J.go i H ∧ ∀ v H', J.yld i H v H' → ∃ G'' d, Ex G' G'' ∧ Wd K G'' F μ H' ∧ Rp K G'' d v ∧ items[i]? = some d ∧ ∀ G3 F3 μ3, Ex G G3 → Wd K G3 F3 μ3 H → True) ∧ (items.length ≤ i → J.stop i H)
abbrev DI := DSl → Mu → (List D → (Mu → Prop) → Mu → Prop) → Prop
def RI (K : PySem.W.Frag) (wi : TI) (wd : DI) : Prop := ∀ σ ds G F μ H R Rd, RpS K G ds σ → Wd K G F μ H → wd ds μ Rd →
  (∀ J items keep G' μ' H', Ex G G' → Wd K G' F μ' H' → ItD K G' J items keep → Rd items keep μ' → R J H') → wi σ H R
/-- a loop over these items, by an invariant over the turn, the slots, the store -/
def ForB (items : List D) (keep : Mu → Prop) (g : DG) (tb : DS) (D : DEnds) (ds : DSl) (μ1 : Mu) : Prop := ∃ I : Nat → DSl → Mu → Prop, I 0 ds μ1 ∧ (∀ i ds μ, i ≤ items.length → I i ds μ → keep μ) ∧
  (∀ i d ds μ, items[i]? = some d → I i ds μ → g d ds μ fun ds' μ' => tb { D with nx := I (i + 1), ct := I (i + 1), bk := D.nx } ds' μ') ∧ (∀ ds μ, I items.length ds μ → D.nx ds μ)
def dFor (wd : DI) (g : DG) (tb : DS) : DS := fun D ds μ => wd ds μ fun items keep μ1 => ForB items keep g tb D ds μ1
theorem rs_for {K : PySem.W.Frag} {wi : TI} {g : TG} {tb : TS} {wd : DI} {dg : DG} {db : DS} (h1 : RI K wi wd) (h2 : RG (K := K) g dg) (h3 : RS K tb db) : RS K (tFor wi g tb) (dFor wd dg db) := fun σ ds G F μ H E D hs hw h k =>
  h1 σ ds G F μ H _ _ hs hw h fun J items keep G1 μ1 H1 e1 w1 it q => by
    obtain ⟨I, i0, ik, is, ie⟩ := q
    refine ⟨fun i m σ' H' => m = items.length - i ∧ i ≤ items.length ∧ ∃ ds' μ' G', Ex G1 G' ∧ RpS K G' ds' σ' ∧ Wd K G' F μ' H' ∧ I i ds' μ', ⟨_, rfl, Nat.zero_le _, ds, μ1, G1, Ex.refl _, hs.mono e1, w1, i0⟩, ?_⟩
    rintro i m σ' H' ⟨rfl, hi, ds', μ', G', e', s', w', p⟩
    have kp := ik i ds' μ' hi p
    obtain ⟨t1, t2⟩ := it i F G' μ' H' e' w' kp
    by_cases hlt : i < items.length
    · obtain ⟨g1, g2⟩ := t1 hlt
      refine .inr ⟨g1, fun σ2 H2 => ∃ ds2 μ2 G2, Ex G1 G2 ∧ RpS K G2 ds2 σ2 ∧ Wd K G2 F μ2 H2 ∧ I (i + 1) ds2 μ2, fun σ2 H2 ⟨ds2, μ2, G2, x1, x2, x3, x4⟩ => ⟨items.length - (i + 1), by omega, rfl, hlt, ds2, μ2, G2, x1, x2, x3, x4⟩, fun v H2 y => ?_⟩
      obtain ⟨G2, d, e2, w2, rd, hd, _⟩ := g2 v H2 y
      refine h2 v d σ' ds' G2 F μ' H2 _ _ rd (s'.mono e2) w2 (is i d ds' μ' hd p) fun σ3 ds3 G3 μ3 H3 e3 s3 w3 q3 => ?_
      have up := e1.trans (e'.trans (e2.trans e3))
      refine h3 σ3 ds3 G3 F μ3 H3 _ _ s3 w3 q3 ⟨fun σ4 ds4 G4 μ4 H4 e4 s4 w4 q4 => ⟨ds4, μ4, G4, e'.trans (e2.trans (e3.trans e4)), s4, w4, q4⟩, k.rt.up up, k.nx.up up, fun σ4 ds4 G4 μ4 H4 e4 s4 w4 q4 => ⟨ds4, μ4, G4, e'.trans (e2.trans (e3.trans e4)), s4, w4, q4⟩⟩
    · have : i = items.length := by omega
      exact .inl ⟨t2 (by omega), k.nx σ' ds' G' μ' H' (e1.trans e') s' w' (ie ds' μ' (this ▸ p))⟩
/-- a list or a tuple -/
def iSeq (K : PySem.W.Frag) (tl : TE) : TI := fun σ H R => tl σ H fun x H1 => ∃ a, x = .ref a ∧ (((∃ xs, SqL K H1 a xs) ∧ R (Itl K a) H1) ∨ ((∃ xs, SqT K H1 a xs) ∧ R (Itt K a) H1))
theorem pi_seq {X : Cx} {tg l : Expr} {tl : TE} (hl : PE X l tl) : PI X tg l (iSeq X.K tl) := by
  refine ⟨fun pins s σ H R I h => ?_⟩
  refine thn (hl.run pins s σ H _ I h) fun v s1 ⟨x, H1, I1, r1, q1⟩ => ?_
  obtain ⟨a, e, q⟩ := q1
  subst e
  cases r1
  rcases q with ⟨⟨xs, hq⟩, q⟩ | ⟨⟨xs, hq⟩, q⟩
  · obtain ⟨its, rv, p, hz⟩ := I1.list hq
    refine wpAny_pyIter_list p.isList ?_
    refine ⟨s1.heap.objs.size, [s1.heap.objs.size], _, _, H1, rfl, I1.kept (t' := s1.toks) fun b o e => Heap.get?_push_of_some _ e, turn_list a _, ⟨_, Heap.get?_push_size _ rfl, rfl, rfl⟩, fun b hb => ?_, q⟩
    have e : b = s1.heap.objs.size := by simpa using hb
    subst e
    exact I1.fpOk (Nat.le_refl _) (I1.hok.fresh (Nat.le_refl _))
  · obtain ⟨its, rv, p, hz⟩ := I1.tuple hq
    refine wpAny_pyIter_tuple (show s1.heap.IsTuple a its.toArray from p) ?_
    refine ⟨s1.heap.objs.size, [s1.heap.objs.size], _, _, H1, rfl, I1.kept (t' := s1.toks) fun b o e => Heap.get?_push_of_some _ e, turn_tuple a _, ⟨_, Heap.get?_push_size _ rfl, rfl, rfl⟩, fun b hb => ?_, q⟩
    have e : b = s1.heap.objs.size := by simpa using hb
    subst e
    exact I1.fpOk (Nat.le_refl _) (I1.hok.fresh (Nat.le_refl _))
def keepOf (x : D) (xs : List D) : Mu → Prop := match x with
  | .obj a => fun μ => μ a = some (.lst xs)
  | _ => fun _ => True
def diSeq (t : TD) : DI := fun ds μ R => t ds μ fun x μ1 => ∃ xs, SeqD μ1 x xs ∧ R xs (keepOf x xs) μ1
theorem itd_l {K : PySem.W.Frag} {G : Hp} {a : Addr} {items : List D} {keep : Mu → Prop} (h : ∀ F G' μ H, Ex G G' → Wd K G' F μ H → keep μ → ∃ vs, SqL K H a vs ∧ RpL K G' items vs) : ItD K G (Itl K a) items keep := fun i F G' μ H e w k => by
  obtain ⟨vs, h1, h2⟩ := h F G' μ H e w k
  refine ⟨fun hi => ?_, fun hi => ⟨vs, h1, by rw [h2.len]; exact hi⟩⟩
  obtain ⟨v, hv, rv⟩ := h2.get (i := i) (d := items[i]) (by simp [hi])
  refine ⟨⟨vs, v, h1, hv⟩, fun u H' y => ?_⟩
  obtain ⟨rfl, y⟩ := y
  have := y vs h1
  rw [hv] at this
  cases this
  exact ⟨G', items[i], Ex.refl _, w, rv, by simp [hi], fun _ _ _ _ _ => trivial⟩
theorem itd_t {K : PySem.W.Frag} {G : Hp} {a : Addr} {items : List D} {keep : Mu → Prop} (h : ∀ F G' μ H, Ex G G' → Wd K G' F μ H → keep μ → ∃ vs, SqT K H a vs ∧ RpL K G' items vs) : ItD K G (Itt K a) items keep := fun i F G' μ H e w k => by
  obtain ⟨vs, h1, h2⟩ := h F G' μ H e w k
  refine ⟨fun hi => ?_, fun hi => ⟨vs, h1, by rw [h2.len]; exact hi⟩⟩
  obtain ⟨v, hv, rv⟩ := h2.get (i := i) (d := items[i]) (by simp [hi])
  refine ⟨⟨vs, v, h1, hv⟩, fun u H' y => ?_⟩
  obtain ⟨rfl, y⟩ := y
  have := y vs h1
  rw [hv] at this
  cases this
  exact ⟨G', items[i], Ex.refl _, w, rv, by simp [hi], fun _ _ _ _ _ => trivial⟩
theorem ri_seq {K : PySem.W.Frag} {te : TE} {de : TD} (h1 : RE K te de) : RI K (iSeq K te) (diSeq de) := fun σ ds G F μ H R Rd hs hw h k =>
  h1 σ ds G F μ H _ _ hs hw h fun v d G1 μ1 H1 e1 w1 r q => by
    obtain ⟨xs, hq, q⟩ := q
    cases d with
    | lst ys =>
      obtain ⟨a, vs, rfl, h2, h3⟩ := r
      have h' : ys = xs := hq
      subst h'
      exact ⟨a, rfl, .inl ⟨⟨vs, SqL.of (w1.g _ _ h2)⟩, k _ ys _ G1 μ1 H1 e1 w1 (itd_l fun F G' μ H e w _ => ⟨vs, SqL.of (w.g _ _ (e _ _ h2)), RpL.mono e _ _ h3⟩) q⟩⟩
    | scr ys =>
      obtain ⟨a, vs, rfl, h2, h3⟩ := r
      have h' : ys = xs := hq
      subst h'
      exact ⟨a, rfl, .inl ⟨⟨vs, w1.g.l h2⟩, k _ ys _ G1 μ1 H1 e1 w1 (itd_l fun F G' μ H e w _ => ⟨vs, w.g.l (e.l h2), RpL.mono e _ _ h3⟩) q⟩⟩
    | tup ys =>
      obtain ⟨a, vs, rfl, h2, h3⟩ := r
      have h' : ys = xs := hq
      subst h'
      exact ⟨a, rfl, .inr ⟨⟨vs, w1.g.t h2⟩, k _ ys _ G1 μ1 H1 e1 w1 (itd_t fun F G' μ H e w _ => ⟨vs, w.g.t (e.t h2), RpL.mono e _ _ h3⟩) q⟩⟩
    | obj a =>
      have r' : v = .ref a := r
      have h' : μ1 a = some (.lst xs) := hq
      obtain ⟨vs, h2, h3⟩ := w1.lstM h'
      exact ⟨a, r', .inl ⟨⟨vs, SqL.of h2⟩, k _ xs _ G1 μ1 H1 e1 w1 (itd_l fun F G' μ H e w kp => by
        obtain ⟨us, h4, h5⟩ := w.lstM (a := a) (xs := xs) kp
        exact ⟨us, SqL.of h4, h5⟩) q⟩⟩
    | _ => exact False.elim hq
def rngD (lo : Int) (n : Nat) : List D := (List.range n).map fun i => D.int (lo + (i : Nat))
theorem itd_r {K : PySem.W.Frag} {G : Hp} {lo : Int} {n : Nat} : ItD K G (Itr lo n) (rngD lo n) (fun _ => True) := fun i F G' μ H e w k => by
  have hl : (rngD lo n).length = n := by unfold rngD; simp
  rw [hl]
  refine ⟨fun hi => ⟨hi, fun v H' y => ?_⟩, fun hi => hi⟩
  obtain ⟨rfl, rfl⟩ := y
  exact ⟨G', .int (lo + (i : Nat)), Ex.refl _, w, rfl, by unfold rngD; simp [hi], fun _ _ _ _ _ => trivial⟩
def diRng1 (t : TAd) : DI := fun ds μ R => t ds μ fun xs μ1 => match xs with
  | [.int j] => (-(2 ^ 62) ≤ j ∧ j < 2 ^ 62) ∧ R (rngD 0 j.toNat) (fun _ => True) μ1
  | _ => False
def diRng2 (t : TAd) : DI := fun ds μ R => t ds μ fun xs μ1 => match xs with
  | [.int i, .int j] => (-(2 ^ 62) ≤ i ∧ i < 2 ^ 62 ∧ -(2 ^ 62) ≤ j ∧ j < 2 ^ 62) ∧ R (rngD i (j - i).toNat) (fun _ => True) μ1
  | _ => False
theorem ri_rng1 {K : PySem.W.Frag} {t : TA} {dt : TAd} (h1 : RA K t dt) : RI K (iRng1 t) (diRng1 dt) := fun σ ds G F μ H R Rd hs hw h k =>
  h1 σ ds G F μ H _ _ hs hw h fun vs xs G1 μ1 H1 e1 w1 r q => by
    split at q
    · obtain ⟨v, rfl, rv⟩ := rpl1 r
      have rv' : v = V.int _ := rv
      exact ⟨_, by rw [rv'], q.1.1, q.1.2, k _ _ _ G1 μ1 H1 e1 w1 itd_r q.2⟩
    · exact q.elim
theorem ri_rng2 {K : PySem.W.Frag} {t : TA} {dt : TAd} (h1 : RA K t dt) : RI K (iRng2 t) (diRng2 dt) := fun σ ds G F μ H R Rd hs hw h k =>
  h1 σ ds G F μ H _ _ hs hw h fun vs xs G1 μ1 H1 e1 w1 r q => by
    split at q
    · obtain ⟨v, u, rfl, rv, ru⟩ := rpl2 r
      have rv' : v = V.int _ := rv
      have ru' : u = V.int _ := ru
      exact ⟨_, _, by rw [rv', ru'], q.1, k _ _ _ G1 μ1 H1 e1 w1 itd_r q.2⟩
    · exact q.elim
/-- pairs of a place and an item -/
def enumD (k : Int) (xs : List D) : List D := xs.mapIdx fun i x => D.tup [.int (k + (i : Nat)), x]
theorem itd_e {K : PySem.W.Frag} {G : Hp} {a : Addr} {items : List D} {keep : Mu → Prop} (h : ∀ F G' μ H, Ex G G' → Wd K G' F μ H → keep μ → ∃ vs, SqL K H a vs ∧ RpL K G' items vs) : ItD K G (Ite K a) (enumD 0 items) keep := fun i F G' μ H e w k => by
  obtain ⟨vs, h1, h2⟩ := h F G' μ H e w k
  have hl : (enumD 0 items).length = items.length := by unfold enumD; simp
  rw [hl]
  refine ⟨fun hi => ?_, fun hi => ⟨vs, h1, by rw [h2.len]; exact hi⟩⟩
  obtain ⟨v, hv, rv⟩ := h2.get (i := i) (d := items[i]) (by simp [hi])
  refine ⟨⟨vs, v, h1, hv⟩, fun u H' y => ?_⟩
  obtain ⟨T, x, rfl, hT, rfl, y⟩ := y
  have := y vs h1
  rw [hv] at this
  cases this
  have ex : Ex G' (upd G' T (.tup [.int (i : Nat), v])) := Ex.new (w.noG hT)
  refine ⟨upd G' T (.tup [.int (i : Nat), v]), .tup [.int (0 + (i : Nat)), items[i]], ex, w.newG hT, ⟨T, _, rfl, SqT.of upd_same, ⟨_, _, rfl, ?_, _, _, rfl, Rp.mono ex _ _ rv, rfl⟩⟩, ?_, fun _ _ _ _ _ => trivial⟩
  · show V.int (i : Nat) = V.int (0 + (i : Nat))
    rw [Int.zero_add]
  · unfold enumD; simp [hi]
def diEnum (t : TAd) : DI := fun ds μ R => t ds μ fun xs μ1 => match xs with
  | [x] => ∃ ys, LstAt μ1 x ys ∧ R (enumD 0 ys) (keepOf x ys) μ1
  | _ => False
/-- the script, too -/
def diEnumS (t : TAd) : DI := fun ds μ R => t ds μ fun xs μ1 => match xs with
  | [.scr ys] => R (enumD 0 ys) (fun _ => True) μ1
  | _ => False
theorem ri_enum {K : PySem.W.Frag} {t : TA} {dt : TAd} (h1 : RA K t dt) : RI K (iEnum K t) (diEnum dt) := fun σ ds G F μ H R Rd hs hw h k =>
  h1 σ ds G F μ H _ _ hs hw h fun vs xs G1 μ1 H1 e1 w1 r q => by
    split at q
    · obtain ⟨v, rfl, rv⟩ := rpl1 r
      obtain ⟨ys, hq, q⟩ := q
      rename_i x
      cases x with
      | lst zs =>
        obtain ⟨a, us, rfl, h2, h3⟩ := rv
        have h' : zs = ys := hq
        subst h'
        exact ⟨a, us, rfl, SqL.of (w1.g _ _ h2), k _ _ _ G1 μ1 H1 e1 w1 (itd_e fun F G' μ H e w _ => ⟨us, SqL.of (w.g _ _ (e _ _ h2)), RpL.mono e _ _ h3⟩) q⟩
      | obj a =>
        have r' : v = .ref a := rv
        have h' : μ1 a = some (.lst ys) := hq
        obtain ⟨us, h2, h3⟩ := w1.lstM h'
        exact ⟨a, us, by rw [r'], SqL.of h2, k _ _ _ G1 μ1 H1 e1 w1 (itd_e fun F G' μ H e w kp => by
          obtain ⟨ws, h4, h5⟩ := w.lstM (a := a) (xs := ys) kp
          exact ⟨ws, SqL.of h4, h5⟩) q⟩
      | _ => exact False.elim hq
    · exact q.elim
theorem ri_enumS {K : PySem.W.Frag} {t : TA} {dt : TAd} (h1 : RA K t dt) : RI K (iEnum K t) (diEnumS dt) := fun σ ds G F μ H R Rd hs hw h k =>
  h1 σ ds G F μ H _ _ hs hw h fun vs xs G1 μ1 H1 e1 w1 r q => by
    split at q
    · obtain ⟨v, rfl, rv⟩ := rpl1 r
      obtain ⟨a, us, rfl, h2, h3⟩ := rv
      exact ⟨a, us, rfl, w1.g.l h2, k _ _ _ G1 μ1 H1 e1 w1 (itd_e fun F G' μ H e w _ => ⟨us, w.g.l (e.l h2), RpL.mono e _ _ h3⟩) q⟩
    · exact q.elim
def diStr (t : TD) : DI := fun ds μ R => t ds μ fun x μ1 => match x with
  | .str z => R (z.cps.toList.map fun c => D.str ⟨#[c]⟩) (fun _ => True) μ1
  | _ => False
theorem ri_str {K : PySem.W.Frag} {te : TE} {de : TD} (h1 : RE K te de) : RI K (iStr te) (diStr de) := fun σ ds G F μ H R Rd hs hw h k =>
  h1 σ ds G F μ H _ _ hs hw h fun v d G1 μ1 H1 e1 w1 r q => by
    split at q
    · rename_i z
      refine ⟨z, r, k _ _ _ G1 μ1 H1 e1 w1 (fun i F G' μ H e w _ => ?_) q⟩
      have hl : (z.cps.toList.map fun c => D.str ⟨#[c]⟩).length = z.cps.size := by simp
      rw [hl]
      refine ⟨fun hi => ⟨hi, fun u H' y => ?_⟩, fun hi => hi⟩
      obtain ⟨rfl, c, hc, rfl⟩ := y
      exact ⟨G', .str ⟨#[c]⟩, Ex.refl _, w, rfl, by simp [hc], fun _ _ _ _ _ => trivial⟩
    · exact q.elim

/-! ### comprehensions -/
theorem wipe_set {i : Nat} {y : Option V} : ∀ {vs : List Nat} {σ : St}, i ∈ vs → wipe (σ.set i y) vs = wipe σ vs := by
  have swap : ∀ (l : List (Option V)) (i j : Nat) (a b : Option V), i ≠ j → (l.set i a).set j b = (l.set j b).set i a := fun l i j a b h => List.set_comm a b h
  have idem : ∀ (vs : List Nat) (σ : St) (i : Nat) (y : Option V), wipe (σ.set i y) vs = if i ∈ vs then wipe σ vs else (wipe σ vs).set i y := by
    intro vs
    induction vs with
    | nil => intro σ i y; simp [wipe]
    | cons v vs ih =>
      intro σ i y
      show (wipe (σ.set i y) vs).set v none = _
      rw [ih]
      by_cases h1 : i ∈ vs
      · rw [if_pos h1, if_pos (List.mem_cons_of_mem _ h1)] <;> rfl
      · rw [if_neg h1]
        by_cases h2 : i = v
        · subst h2
          rw [if_pos (List.mem_cons_self)]
          show ((wipe σ vs).set i y).set i none = (wipe σ vs).set i none
          rw [List.set_set]
        · rw [if_neg (by simp [h1, h2])]
          show ((wipe σ vs).set i y).set v none = ((wipe σ vs).set v none).set i y
          exact swap _ _ _ _ _ h2
  intro vs σ h
  rw [idem, if_pos h]
theorem wipe_wipe {vs : List Nat} {σ : St} : wipe (wipe σ vs) vs = wipe σ vs := by
  have aux : ∀ (us vs : List Nat) (σ : St), (∀ u ∈ us, u ∈ vs) → wipe (wipe σ us) vs = wipe σ vs := by
    intro us
    induction us with
    | nil => intro vs σ _; rfl
    | cons u us ih =>
      intro vs σ h
      show wipe ((wipe σ us).set u none) vs = _
      rw [wipe_set (h u List.mem_cons_self)]
      exact ih vs σ fun w hw => h w (List.mem_cons_of_mem _ hw)
  exact aux vs vs σ fun _ h => h
def wipeD (ds : DSl) : List Nat → DSl
  | [] => ds
  | v :: vs => (wipeD ds vs).set v none
theorem RpS.wipe {K : PySem.W.Frag} {G : Hp} {ds : DSl} {σ : St} (h : RpS K G ds σ) : ∀ vs : List Nat, RpS K G (wipeD ds vs) (L2.wipe σ vs)
  | [] => h
  | v :: vs => (RpS.wipe h vs).wipe1 v
/-- a target whose names are the block's own -/
def RGc (K : PySem.W.Frag) (vs : List Nat) (g : TG) (dg : DG) : Prop := ∀ v d σ ds G F μ H R Rd, Rp K G d v → RpS K G ds σ → Wd K G F μ H → dg d ds μ Rd →
  (∀ σ' ds' G' μ' H', wipe σ' vs = wipe σ vs → Ex G G' → RpS K G' ds' σ' → Wd K G' F μ' H' → Rd ds' μ' → R σ' H') → g v σ H R
theorem rgc_name {K : PySem.W.Frag} {vs : List Nat} {i : Nat} (hi : i ∈ vs) : RGc K vs (gName i) (dgName i) := fun v d σ ds G F μ H R Rd r hs hw h k => k _ _ G μ H (wipe_set hi) (Ex.refl G) (hs.set r i) hw h
def RGcs (K : PySem.W.Frag) (ws : List Nat) (gs : TGs) (is : List Nat) : Prop := ∀ (vs : List V) (xs : List D) (σ : St) (ds : DSl) (G F : Hp) (μ : Mu) (H : Hp) (R : St → Hp → Prop) (Rd : DSl → Mu → Prop), RpL K G xs vs → xs.length = is.length → RpS K G ds σ → Wd K G F μ H → Rd (setAll ds is xs) μ →
  (∀ σ' ds' G' μ' H', wipe σ' ws = wipe σ ws → Ex G G' → RpS K G' ds' σ' → Wd K G' F μ' H' → Rd ds' μ' → R σ' H') → gs vs σ H R
theorem rgcs_nil {K : PySem.W.Frag} {ws : List Nat} : RGcs K ws gNil [] := fun vs xs σ ds G F μ H R Rd r hl hs hw h k => by
  have : xs = [] := List.length_eq_zero_iff.mp hl
  subst this
  exact ⟨r, k _ _ G μ H rfl (Ex.refl G) hs hw h⟩
theorem rgcs_cons {K : PySem.W.Frag} {ws : List Nat} {i : Nat} {is : List Nat} {gs : TGs} (hi : i ∈ ws) (h1 : RGcs K ws gs is) : RGcs K ws (gCons (gName i) gs) (i :: is) := fun vs xs σ ds G F μ H R Rd r hl hs hw h k => by
  cases xs with
  | nil => simp at hl
  | cons x xs =>
    obtain ⟨v, us, e, r1, r2⟩ := r
    exact ⟨v, us, e, h1 us xs _ _ G F μ H R Rd r2 (by simpa using hl) (hs.set r1 i) hw h fun σ' ds' G' μ' H' e1 => k σ' ds' G' μ' H' (e1.trans (wipe_set hi))⟩
theorem rgc_tup {K : PySem.W.Frag} {ws : List Nat} {n : Nat} {is : List Nat} {gs : TGs} (h1 : RGcs K ws gs is) (hn : is.length = n) : RGc K ws (gTup K n gs) (dgTup is) := fun v d σ ds G F μ H R Rd r hs hw h k => by
  cases d with
  | tup xs =>
    obtain ⟨a, vs, rfl, h2, h3⟩ := r
    exact ⟨a, vs, rfl, hw.g.t h2, by rw [h3.len, h.1, hn], h1 vs xs σ ds G F μ H R Rd h3 h.1 hs hw h.2 k⟩
  | _ => exact False.elim h
def dYes : TTd := fun _ μ Q => Q true μ
theorem rt_yes {K : PySem.W.Frag} : RT K tYes dYes := fun σ ds G F μ H Qd Q hs hw h kq => kq true G μ H (Ex.refl G) hw h
/-- a comprehension over these items, by an invariant over the turn, what is made so far, the store -/
def LcB (m : Bool) (items : List D) (keep : Mu → Prop) (g : DG) (tt : TTd) (te : TD) (vs : List Nat) (ds : DSl) (μ1 : Mu) (Q : DK) : Prop := ∃ I : Nat → List D → Mu → Prop, I 0 [] μ1 ∧ (∀ i acc μ, i ≤ items.length → I i acc μ → keep μ) ∧
  (∀ i d acc μ, items[i]? = some d → I i acc μ → acc.length < sizeLine ∧ g d (wipeD ds vs) μ fun ds2 μ2 => tt ds2 μ2 fun b μ3 => if b = true then te ds2 μ3 fun z μ4 => I (i + 1) (acc ++ [z]) μ4 else I (i + 1) acc μ3) ∧
  (∀ acc μ, I items.length acc μ → newLst m acc μ Q)
def dLc (m : Bool) (wd : DI) (g : DG) (tt : TTd) (te : TD) (vs : List Nat) : TD := fun ds μ Q => wd ds μ fun items keep μ1 => LcB m items keep g tt te vs ds μ1 Q
theorem re_lc {K : PySem.W.Frag} {m : Bool} {wi : TI} {g : TG} {tt : TT} {te : TE} {vs : List Nat} {wd : DI} {dg : DG} {dt : TTd} {de : TD} (h1 : RI K wi wd) (h2 : RGc K vs g dg) (h3 : RT K tt dt) (h4 : RE K te de) : RE K (tLc wi g tt te vs) (dLc m wd dg dt de vs) :=
  fun σ ds G F μ H Qd Q hs hw h kq => h1 σ ds G F μ H _ _ hs hw h fun J items keep G1 μ1 H1 e1 w1 it q => by
    obtain ⟨I, i0, ik, is, ie⟩ := q
    intro p hp
    have hF : F p = none := w1.noF hp
    refine ⟨fun i m H' => m = items.length - i ∧ i ≤ items.length ∧ ∃ acc vs' μ' G', Ex G1 G' ∧ Wd K G' (upd F p (.lst vs')) μ' H' ∧ RpL K G' acc vs' ∧ I i acc μ', ⟨_, rfl, Nat.zero_le _, [], [], μ1, G1, Ex.refl _, w1.lend hp, rfl, i0⟩, ?_⟩
    rintro i m' H' ⟨rfl, hi, acc, vs', μ', G', e', w', ra, pI⟩
    have kp := ik i acc μ' hi pI
    obtain ⟨t1, t2⟩ := it i _ G' μ' H' e' w' kp
    have hH : H' p = some (.lst vs') := (w'.f p _ upd_same).1
    by_cases hlt : i < items.length
    · obtain ⟨g1, g2⟩ := t1 hlt
      refine .inr ⟨g1, fun H2 => ∃ acc vs' μ' G', Ex G1 G' ∧ Wd K G' (upd F p (.lst vs')) μ' H2 ∧ RpL K G' acc vs' ∧ I (i + 1) acc μ', fun H2 ⟨a1, a2, a3, a4, x1, x2, x3, x4⟩ => ⟨items.length - (i + 1), by omega, rfl, hlt, a1, a2, a3, a4, x1, x2, x3, x4⟩, fun v H2 y => ?_⟩
      obtain ⟨G2, d, e2, w2, rd, hd, _⟩ := g2 v H2 y
      obtain ⟨hz, hg⟩ := is i d acc μ' hd pI
      have s0 := (hs.mono (e1.trans (e'.trans e2))).wipe vs
      refine h2 v d (wipe σ vs) (wipeD ds vs) G2 _ μ' H2 _ _ rd s0 w2 hg fun σ3 ds3 G3 μ3 H3 ew e3 s3 w3 q3 => ⟨ew.trans wipe_wipe, ?_⟩
      refine h3 σ3 ds3 G3 _ μ3 H3 _ _ s3 w3 q3 fun b G4 μ4 H4 e4 w4 q4 => ?_
      cases b with
      | true =>
        refine h4 σ3 ds3 G4 _ μ4 H4 _ _ (s3.mono e4) w4 q4 fun z dz G5 μ5 H5 e5 w5 rz q5 => ?_
        have e25 := e2.trans (e3.trans (e4.trans e5))
        have ra5 : RpL K G5 acc vs' := RpL.mono e25 _ _ ra
        have w6 := w5.lendSet (o' := .lst (vs' ++ [z]))
        exact ⟨vs', (w5.f p _ upd_same).1, by rw [ra.len]; exact hz, acc ++ [dz], vs' ++ [z], μ5, G5, e'.trans e25, w6, ra5.app (RpL.one rz), q5⟩
      | false =>
        exact ⟨acc, vs', μ4, G4, e'.trans (e2.trans (e3.trans e4)), w4, RpL.mono (e2.trans (e3.trans e4)) _ _ ra, q4⟩
    · have hn : i = items.length := by omega
      refine .inl ⟨t2 (by omega), ?_⟩
      have hq := ie acc μ' (hn ▸ pI)
      cases m with
      | false =>
        obtain ⟨w7, e7⟩ := w'.lendFix hF
        exact kq (.ref p) (.lst acc) _ μ' H' (e1.trans (e'.trans e7)) w7 ⟨p, vs', rfl, upd_same, RpL.mono e7 _ _ ra⟩ hq
      | true =>
        exact kq (.ref p) (.obj p) G' (put μ' p (.lst acc)) H' (e1.trans e') (w'.lendMu (m := .lst acc) ⟨vs', rfl, ra⟩ hF) rfl (hq p ((w'.f p _ upd_same).2.2))

/-! ### dicts with written keys -/
def keyD : D → Option Key
  | .int i => some (.inl i)
  | .str s => some (.inr s)
  | _ => none
def getK (kvs : List (Key × D)) (k : Key) : Option D := (kvs.find? fun kv => decide (kv.1 = k)).map (·.2)
def putKD (kvs : List (Key × D)) (k : Key) (v : D) : List (Key × D) :=
  if (kvs.any fun kv => decide (kv.1 = k)) = true then kvs.map (fun kv => if kv.1 = k then (kv.1, v) else kv) else kvs ++ [(k, v)]
section
variable {K : PySem.W.Frag} {G : Hp}
theorem RpK.get {k : Key} {d : D} : ∀ {kds : List (Key × D)} {kvs : List (Key × V)}, RpK K G kds kvs → getK kds k = some d → ∃ v, valV kvs k = some v ∧ Rp K G d v
  | [], _, _, e => by simp [getK] at e
  | (j, x) :: kds, _, ⟨v, r, h1, h2, h3⟩, e => by
    subst h1
    unfold getK at e
    unfold valV
    by_cases hj : j = k
    · rw [List.find?_cons_of_pos (by simpa using hj)] at e ⊢
      cases e
      exact ⟨v, rfl, h2⟩
    · rw [List.find?_cons_of_neg (by simpa using hj)] at e ⊢
      exact RpK.get h3 e
theorem RpK.any {p : Key → Bool} : ∀ {kds : List (Key × D)} {kvs : List (Key × V)}, RpK K G kds kvs → (kds.any fun kv => p kv.1) = (kvs.any fun kv => p kv.1)
  | [], _, h => by rw [RpK] at h; rw [h]; rfl
  | (j, x) :: kds, _, ⟨v, r, h1, h2, h3⟩ => by subst h1; rw [List.any_cons, List.any_cons, RpK.any h3]
theorem RpK.len : ∀ {kds : List (Key × D)} {kvs : List (Key × V)}, RpK K G kds kvs → kvs.length = kds.length
  | [], _, h => by rw [RpK] at h; rw [h]; rfl
  | (j, x) :: kds, _, ⟨v, r, h1, h2, h3⟩ => by subst h1; rw [List.length_cons, List.length_cons, RpK.len h3]
theorem RpK.mapSet {k : Key} {d : D} {v : V} (r : Rp K G d v) : ∀ {kds : List (Key × D)} {kvs : List (Key × V)}, RpK K G kds kvs → RpK K G (kds.map fun kv => if kv.1 = k then (kv.1, d) else kv) (kvs.map fun kv => if kv.1 = k then (kv.1, v) else kv)
  | [], _, h => by rw [RpK] at h; rw [h]; rfl
  | (j, x) :: kds, _, ⟨u, t, h1, h2, h3⟩ => by
    subst h1
    rw [List.map_cons, List.map_cons]
    by_cases hj : j = k
    · rw [if_pos hj, if_pos hj]; exact ⟨v, _, rfl, r, RpK.mapSet r h3⟩
    · rw [if_neg hj, if_neg hj]; exact ⟨u, _, rfl, h2, RpK.mapSet r h3⟩
theorem RpK.app : ∀ {kds : List (Key × D)} {kvs : List (Key × V)} {k : Key} {d : D} {v : V}, RpK K G kds kvs → Rp K G d v → RpK K G (kds ++ [(k, d)]) (kvs ++ [(k, v)])
  | [], _, k, d, v, h, r => by rw [RpK] at h; rw [h]; exact ⟨v, [], rfl, r, rfl⟩
  | (j, x) :: kds, _, k, d, v, ⟨u, t, h1, h2, h3⟩, r => by subst h1; exact ⟨u, _, rfl, h2, RpK.app h3 r⟩
theorem RpK.put {kds : List (Key × D)} {kvs : List (Key × V)} {k : Key} {d : D} {v : V} (h : RpK K G kds kvs) (r : Rp K G d v) : RpK K G (putKD kds k d) (putK kvs k v) := by
  unfold putKD putK
  rw [← h.any (p := fun j => decide (j = k))]
  split
  · exact h.mapSet r
  · exact h.app r
theorem keyD_rp {x : D} {v : V} {k : Key} (r : Rp K G x v) (h : keyD x = some k) : v = kV k := by
  cases x with
  | int i => have r' : v = V.int i := r; rw [r']; cases h; rfl
  | str i => have r' : v = V.str i := r; rw [r']; cases h; rfl
  | _ => cases h
end
def dDGet (td ty : TD) : TD := fun ds μ Q => td ds μ fun x μ1 => ty ds μ1 fun y μ2 => match x with
  | .obj a => ∃ kvs k d, μ2 a = some (.dK kvs) ∧ keyD y = some k ∧ getK kvs k = some d ∧ Q d μ2
  | _ => False
def dDPut (td ty tv : TD) : DS := fun D ds μ => tv ds μ fun d μ1 => td ds μ1 fun x μ2 => ty ds μ2 fun y μ3 => match x with
  | .obj a => ∃ kvs k, μ3 a = some (.dK kvs) ∧ keyD y = some k ∧ kvs.length < sizeLine ∧ D.nx ds (put μ3 a (.dK (putKD kvs k d)))
  | _ => False
theorem Wd.dM {K : PySem.W.Frag} {G F : Hp} {μ : Mu} {H : Hp} (w : Wd K G F μ H) {a : Addr} {xs : List (Key × D)} (h : μ a = some (.dK xs)) : ∃ vs, H a = some (.dK vs) ∧ RpK K G xs vs := by
  obtain ⟨o, h1, ⟨vs, h2, h4⟩, h3⟩ := w.m a _ h
  subst h2
  exact ⟨vs, h1, h4⟩
theorem re_dget {K : PySem.W.Frag} {td ty : TE} {dd dy : TD} (h1 : RE K td dd) (h2 : RE K ty dy) : RE K (tDGet td ty) (dDGet dd dy) :=
  fun σ ds G F μ H Qd Q hs hw h kq => h1 σ ds G F μ H _ _ hs hw h fun x dx G1 μ1 H1 e1 w1 rx q1 => h2 σ ds G1 F μ1 H1 _ _ (hs.mono e1) w1 q1 fun y ey G2 μ2 H2 e2 w2 ry q2 => by
    have rx2 := Rp.mono e2 _ _ rx
    split at q2
    · obtain ⟨kvs, k, d, hm, hk, hg, q⟩ := q2
      obtain ⟨vs, h3, h4⟩ := w2.dM hm
      obtain ⟨v, hv, rv⟩ := h4.get hg
      have := keyD_rp ry hk
      subst this
      refine ⟨_, v, rx2, ?_, (kq.up (e1.trans e2)).here w2 rv q⟩
      rw [← hv]; exact DGet.k h3
    · exact q2.elim
theorem rs_dput {K : PySem.W.Frag} {td ty tv : TE} {dd dy dv : TD} (h1 : RE K td dd) (h2 : RE K ty dy) (h3 : RE K tv dv) : RS K (sDPut td ty tv) (dDPut dd dy dv) :=
  fun σ ds G F μ H E D hs hw h k => h3 σ ds G F μ H _ _ hs hw h fun v d G0 μ0 H0 e0 w0 rv q0 => h1 σ ds G0 F μ0 H0 _ _ (hs.mono e0) w0 q0 fun x dx G1 μ1 H1 e1 w1 rx q1 => h2 σ ds G1 F μ1 H1 _ _ (hs.mono (e0.trans e1)) w1 q1 fun y ey G2 μ2 H2 e2 w2 ry q2 => by
    have rx2 := Rp.mono e2 _ _ rx
    have rv2 := Rp.mono (e1.trans e2) _ _ rv
    split at q2
    · obtain ⟨kvs, kk, hm, hk, hz, q⟩ := q2
      obtain ⟨vs, h5, h6⟩ := w2.dM hm
      have := keyD_rp ry hk
      subst this
      exact ⟨_, _, rx2, DPut.k h5 (by rw [h6.len]; exact hz), k.nx σ ds G2 _ _ (e0.trans (e1.trans e2)) (hs.mono (e0.trans (e1.trans e2))) (w2.chg (m := .dK (putKD kvs kk d)) hm ⟨_, rfl, h6.put rv2⟩) q⟩
    · exact q2.elim
/-- {k: v, ..} -/
def dPairs : List (TD × TD) → DSl → Mu → (List (D × D) → Mu → Prop) → Prop
  | [], _, μ, Q => Q [] μ
  | (tk, tv) :: r, ds, μ, Q => tk ds μ fun x μ1 => tv ds μ1 fun y μ2 => dPairs r ds μ2 fun ps μ3 => Q ((x, y) :: ps) μ3
def keysD : List (D × D) → Option (List (Key × D))
  | [] => some []
  | (k, d) :: r => match keyD k, keysD r with
    | some a, some as => some ((a, d) :: as)
    | _, _ => none
def mergeKD (kvs more : List (Key × D)) : List (Key × D) := more.foldl (fun acc kv => putKD acc kv.1 kv.2) kvs
def dDisp (trs : List (TD × TD)) : TD := fun ds μ Q => dPairs trs ds μ fun ps μ1 => ∃ kvs, keysD ps = some kvs ∧ kvs.length ≤ 15 ∧ ∀ p, μ1 p = none → Q (.obj p) (put μ1 p (.dK (mergeKD [] kvs)))
def RPs (K : PySem.W.Frag) (ts : List (TE × TE)) (tds : List (TD × TD)) : Prop := ∀ σ ds G F μ H Qd Q, RpS K G ds σ → Wd K G F μ H → dPairs tds ds μ Qd →
  (∀ (vs : List (V × V)) (xs : List (D × D)) G' μ' H', Ex G G' → Wd K G' F μ' H' → (RpL K G' (xs.map (·.1)) (vs.map (·.1)) ∧ RpL K G' (xs.map (·.2)) (vs.map (·.2))) → Qd xs μ' → Q vs H') → tPairs ts σ H Q
theorem rps_nil {K : PySem.W.Frag} : RPs K [] [] := fun σ ds G F μ H Qd Q hs hw h k => k [] [] G μ H (Ex.refl G) hw ⟨rfl, rfl⟩ h
theorem rps_cons {K : PySem.W.Frag} {tk tv : TE} {dk dv : TD} {ts : List (TE × TE)} {tds : List (TD × TD)} (h1 : RE K tk dk) (h2 : RE K tv dv) (h3 : RPs K ts tds) : RPs K ((tk, tv) :: ts) ((dk, dv) :: tds) := fun σ ds G F μ H Qd Q hs hw h k =>
  h1 σ ds G F μ H _ _ hs hw h fun x dx G1 μ1 H1 e1 w1 rx q1 => h2 σ ds G1 F μ1 H1 _ _ (hs.mono e1) w1 q1 fun y dy G2 μ2 H2 e2 w2 ry q2 => h3 σ ds G2 F μ2 H2 _ _ (hs.mono (e1.trans e2)) w2 q2 fun vs xs G3 μ3 H3 e3 w3 r q3 =>
    k ((x, y) :: vs) ((dx, dy) :: xs) G3 μ3 H3 (e1.trans (e2.trans e3)) w3 ⟨⟨x, _, rfl, Rp.mono (e2.trans e3) _ _ rx, r.1⟩, ⟨y, _, rfl, Rp.mono e3 _ _ ry, r.2⟩⟩ q3
theorem keysD_rp {K : PySem.W.Frag} {G : Hp} : ∀ {xs : List (D × D)} {vs : List (V × V)} {kvs : List (Key × D)}, RpL K G (xs.map (·.1)) (vs.map (·.1)) → RpL K G (xs.map (·.2)) (vs.map (·.2)) → keysD xs = some kvs → ∃ kws : List (Key × V), vs = kws.map (fun kv => (kV kv.1, kv.2)) ∧ RpK K G kvs kws
  | [], vs, kvs, h1, h2, e => by
    have : vs = [] := by have := h1.len; simpa using this
    subst this
    cases e
    exact ⟨[], rfl, rfl⟩
  | (x, y) :: xs, vs, kvs, h1, h2, e => by
    cases vs with
    | nil => have := h1.len; simp at this
    | cons v vs =>
      obtain ⟨v1, r1, e1, a1, b1⟩ := h1
      obtain ⟨v2, r2, e2, a2, b2⟩ := h2
      rw [List.map_cons] at e1 e2
      cases e1; cases e2
      unfold keysD at e
      cases k1 : keyD x with
      | none => rw [k1] at e; cases e
      | some k =>
        cases k2 : keysD xs with
        | none => rw [k1, k2] at e; cases e
        | some ks =>
          rw [k1, k2] at e; cases e
          obtain ⟨kws, f1, f2⟩ := keysD_rp b1 b2 k2
          refine ⟨(k, v.2) :: kws, ?_, ⟨v.2, kws, rfl, a2, f2⟩⟩
          rw [List.map_cons, ← f1, ← keyD_rp a1 k1]
theorem merge_rp {K : PySem.W.Frag} {G : Hp} : ∀ {more : List (Key × D)} {mw : List (Key × V)} {acc : List (Key × D)} {aw : List (Key × V)}, RpK K G more mw → RpK K G acc aw → RpK K G (mergeKD acc more) (mergeK aw mw)
  | [], _, _, _, h, r => by rw [RpK] at h; rw [h]; exact r
  | (k, d) :: more, _, acc, aw, ⟨v, t, h1, h2, h3⟩, r => by
    subst h1
    show RpK K G (mergeKD (putKD acc k d) more) (mergeK (putK aw k v) t)
    exact merge_rp h3 (r.put h2)
theorem re_disp {K : PySem.W.Frag} {ts : List (TE × TE)} {tds : List (TD × TD)} (h1 : RPs K ts tds) : RE K (tDisp ts) (dDisp tds) := fun σ ds G F μ H Qd Q hs hw h kq p hp =>
  h1 σ ds G (upd F p (.dK [])) μ (upd H p (.dK [])) _ _ hs (hw.lend hp) h fun vs xs G1 μ1 H1 e1 w1 r q => by
    obtain ⟨kvs, hk, hl, q⟩ := q
    obtain ⟨kws, f1, f2⟩ := keysD_rp r.1 r.2 hk
    refine ⟨(w1.f p _ upd_same).1, kws, f1, by rw [f2.len]; exact hl, ?_⟩
    have hF : F p = none := hw.noF hp
    have w2 := (w1.lendSet (o' := .dK (mergeK [] kws))).lendMu (m := .dK (mergeKD [] kvs)) ⟨_, rfl, merge_rp f2 rfl⟩ hF
    exact kq (.ref p) (.obj p) G1 _ _ e1 w2 rfl (q p ((w1.f p _ upd_same).2.2))
end DL
set_option Elab.async false
set_option linter.all false
set_option maxRecDepth 100000
set_option maxHeartbeats 4000001
namespace DL
open PySem L2
/-! ### the reading that a term over data asks: the weakest one -/
section
variable (K : PySem.W.Frag)
def teOf (td : TD) : TE := fun σ H Q => ∃ ds G F μ Qd, RpS K G ds σ ∧ Wd K G F μ H ∧ td ds μ Qd ∧ KQ K G F Qd Q
def ttOf (td : TTd) : TT := fun σ H Q => ∃ ds G F μ Qd, RpS K G ds σ ∧ Wd K G F μ H ∧ td ds μ Qd ∧ KB K G F Qd Q
def taOf (td : TAd) : TA := fun σ H Q => ∃ ds G F μ Qd, RpS K G ds σ ∧ Wd K G F μ H ∧ td ds μ Qd ∧ KL K G F Qd Q
def toOf (td : TOd) : TO := fun σ H Q => ∃ ds G F μ Qd, RpS K G ds σ ∧ Wd K G F μ H ∧ td ds μ Qd ∧ KO K G F Qd Q
def tsOf (td : DS) : TS := fun E σ H => ∃ ds G F μ D, RpS K G ds σ ∧ Wd K G F μ H ∧ td D ds μ ∧ REn K G F E D
def tgOf (dg : DG) : TG := fun v σ H R => ∃ d ds G F μ Rd, Rp K G d v ∧ RpS K G ds σ ∧ Wd K G F μ H ∧ dg d ds μ Rd ∧ KS K G F Rd R
def tgcOf (vs : List Nat) (dg : DG) : TG := fun v σ H R => ∃ d ds G F μ Rd, Rp K G d v ∧ RpS K G ds σ ∧ Wd K G F μ H ∧ dg d ds μ Rd ∧
  ∀ σ' ds' G' μ' H', wipe σ' vs = wipe σ vs → Ex G G' → RpS K G' ds' σ' → Wd K G' F μ' H' → Rd ds' μ' → R σ' H'
def tgsOf (is : List Nat) : TGs := fun vs σ H R => ∃ xs ds G F μ Rd, RpL K G xs vs ∧ xs.length = is.length ∧ RpS K G ds σ ∧ Wd K G F μ H ∧ Rd (setAll ds is xs) μ ∧ KS K G F Rd R
def tgscOf (ws : List Nat) (is : List Nat) : TGs := fun vs σ H R => ∃ (xs : List D) (ds : DSl) (G F : Hp) (μ : Mu) (Rd : DSl → Mu → Prop), RpL K G xs vs ∧ xs.length = is.length ∧ RpS K G ds σ ∧ Wd K G F μ H ∧ Rd (setAll ds is xs) μ ∧
  ∀ σ' ds' G' μ' H', wipe σ' ws = wipe σ ws → Ex G G' → RpS K G' ds' σ' → Wd K G' F μ' H' → Rd ds' μ' → R σ' H'
def tiOf (wd : DI) : TI := fun σ H R => ∃ ds G F μ Rd, RpS K G ds σ ∧ Wd K G F μ H ∧ wd ds μ Rd ∧ ∀ J items keep G' μ' H', Ex G G' → Wd K G' F μ' H' → ItD K G' J items keep → Rd items keep μ' → R J H'
end
structure PED (X : Cx) (e : Expr) (td : TD) : Prop where
  pe : PE X e (teOf X.K td)
structure PTD (X : Cx) (e : Expr) (td : TTd) : Prop where
  pe : PT X e (ttOf X.K td)
structure PWD (X : Cx) (e : Expr) (td : TTd) : Prop where
  pe : PW X e (ttOf X.K td)
structure PTsD (X : Cx) (e : List Expr) (td : TTd) : Prop where
  pe : PTs X e (ttOf X.K td)
structure PAD (X : Cx) (e : List Expr) (td : TAd) : Prop where
  pe : PA X e (taOf X.K td)
structure POD (X : Cx) (e : Option Expr) (td : TOd) : Prop where
  pe : PO X e (toOf X.K td)
structure PSD (X : Cx) (st : Stmt) (td : DS) : Prop where
  ps : PS X st (tsOf X.K td)
structure PSSD (X : Cx) (st : List Stmt) (td : DS) : Prop where
  ps : PSs X st (tsOf X.K td)
structure PGD (X : Cx) (e : Expr) (dg : DG) : Prop where
  pg : PG X e (tgOf X.K dg)
structure PGC (X : Cx) (vs : List Nat) (e : Expr) (dg : DG) : Prop where
  pg : PG X e (tgcOf X.K vs dg)
structure PGsD (X : Cx) (e : List Expr) (is : List Nat) : Prop where
  pg : PGs X e (tgsOf X.K is)
structure PGsC (X : Cx) (vs : List Nat) (e : List Expr) (is : List Nat) : Prop where
  pg : PGs X e (tgscOf X.K vs is)
structure PID (X : Cx) (tg e : Expr) (wd : DI) : Prop where
  pi : PI X tg e (tiOf X.K wd)
section
variable {X : Cx}
theorem PED.re {e td} (_ : PED X e td) : RE X.K (teOf X.K td) td := fun σ ds G F μ H Qd Q a b c d => ⟨ds, G, F, μ, Qd, a, b, c, d⟩
theorem PTD.re {e td} (_ : PTD X e td) : RT X.K (ttOf X.K td) td := fun σ ds G F μ H Qd Q a b c d => ⟨ds, G, F, μ, Qd, a, b, c, d⟩
theorem PWD.re {e td} (_ : PWD X e td) : RT X.K (ttOf X.K td) td := fun σ ds G F μ H Qd Q a b c d => ⟨ds, G, F, μ, Qd, a, b, c, d⟩
theorem PTsD.re {e td} (_ : PTsD X e td) : RT X.K (ttOf X.K td) td := fun σ ds G F μ H Qd Q a b c d => ⟨ds, G, F, μ, Qd, a, b, c, d⟩
theorem PAD.re {e td} (_ : PAD X e td) : RA X.K (taOf X.K td) td := fun σ ds G F μ H Qd Q a b c d => ⟨ds, G, F, μ, Qd, a, b, c, d⟩
theorem POD.re {e td} (_ : POD X e td) : RO X.K (toOf X.K td) td := fun σ ds G F μ H Qd Q a b c d => ⟨ds, G, F, μ, Qd, a, b, c, d⟩
theorem PSD.rs {e td} (_ : PSD X e td) : RS X.K (tsOf X.K td) td := fun σ ds G F μ H E D a b c d => ⟨ds, G, F, μ, D, a, b, c, d⟩
theorem PSSD.rs {e td} (_ : PSSD X e td) : RS X.K (tsOf X.K td) td := fun σ ds G F μ H E D a b c d => ⟨ds, G, F, μ, D, a, b, c, d⟩
theorem PGD.rg {e dg} (_ : PGD X e dg) : RG (K := X.K) (tgOf X.K dg) dg := fun v d σ ds G F μ H R Rd a b c e f => ⟨d, ds, G, F, μ, Rd, a, b, c, e, f⟩
theorem PGC.rg {vs e dg} (_ : PGC X vs e dg) : RGc X.K vs (tgcOf X.K vs dg) dg := fun v d σ ds G F μ H R Rd a b c e f => ⟨d, ds, G, F, μ, Rd, a, b, c, e, f⟩
theorem PGsD.rg {e is} (_ : PGsD X e is) : RGs (K := X.K) (tgsOf X.K is) is := fun vs xs σ ds G F μ H R Rd a b c e f g => ⟨xs, ds, G, F, μ, Rd, a, b, c, e, f, g⟩
theorem PGsC.rg {vs e is} (_ : PGsC X vs e is) : RGcs X.K vs (tgscOf X.K vs is) is := fun vs xs σ ds G F μ H R Rd a b c e f g => ⟨xs, ds, G, F, μ, Rd, a, b, c, e, f, g⟩
theorem PID.ri {tg e wd} (_ : PID X tg e wd) : RI X.K (tiOf X.K wd) wd := fun σ ds G F μ H R Rd a b c d => ⟨ds, G, F, μ, Rd, a, b, c, d⟩
theorem PED.mk' {e te td} (h : PE X e te) (r : RE X.K te td) : PED X e td := ⟨⟨fun pins s σ H Q I ⟨ds, G, F, μ, Qd, a, b, c, d⟩ => h.run pins s σ H Q I (r σ ds G F μ H Qd Q a b c d)⟩⟩
theorem PTD.mk' {e te td} (h : PT X e te) (r : RT X.K te td) : PTD X e td := ⟨⟨fun pins s σ H Q I ⟨ds, G, F, μ, Qd, a, b, c, d⟩ => h.run pins s σ H Q I (r σ ds G F μ H Qd Q a b c d)⟩⟩
theorem PWD.mk' {e te td} (h : PW X e te) (r : RT X.K te td) : PWD X e td := ⟨⟨fun wh pins s σ H Q I ⟨ds, G, F, μ, Qd, a, b, c, d⟩ => h.run wh pins s σ H Q I (r σ ds G F μ H Qd Q a b c d)⟩⟩
theorem PTsD.mk' {e te td} (h : PTs X e te) (r : RT X.K te td) : PTsD X e td := ⟨⟨fun pins s σ H Q I ⟨ds, G, F, μ, Qd, a, b, c, d⟩ => h.run pins s σ H Q I (r σ ds G F μ H Qd Q a b c d)⟩⟩
theorem PAD.mk' {e te td} (h : PA X e te) (r : RA X.K te td) : PAD X e td := ⟨⟨fun pos pins s σ H Q I ⟨ds, G, F, μ, Qd, a, b, c, d⟩ => h.run pos pins s σ H Q I (r σ ds G F μ H Qd Q a b c d)⟩⟩
theorem POD.mk' {e te td} (h : PO X e te) (r : RO X.K te td) : POD X e td := ⟨⟨fun pins s σ H Q I ⟨ds, G, F, μ, Qd, a, b, c, d⟩ => h.run pins s σ H Q I (r σ ds G F μ H Qd Q a b c d)⟩⟩
theorem PSD.mk' {e te td} (h : PS X e te) (r : RS X.K te td) : PSD X e td := ⟨⟨fun pins s σ H E I ⟨ds, G, F, μ, D, a, b, c, d⟩ => h.run pins s σ H E I (r σ ds G F μ H E D a b c d)⟩⟩
theorem PSSD.mk' {e te td} (h : PSs X e te) (r : RS X.K te td) : PSSD X e td := ⟨⟨fun pins s σ H E I ⟨ds, G, F, μ, D, a, b, c, d⟩ => h.run pins s σ H E I (r σ ds G F μ H E D a b c d)⟩⟩
theorem PGD.mk' {e g dg} (h : PG X e g) (r : RG (K := X.K) g dg) : PGD X e dg := ⟨⟨fun pins s σ H v u Q I rv ⟨d, ds, G, F, μ, Rd, a, b, c, e, f⟩ => h.run pins s σ H v u Q I rv (r v d σ ds G F μ H Q Rd a b c e f)⟩⟩
theorem PGC.mk' {vs e g dg} (h : PG X e g) (r : RGc X.K vs g dg) : PGC X vs e dg := ⟨⟨fun pins s σ H v u Q I rv ⟨d, ds, G, F, μ, Rd, a, b, c, e, f⟩ => h.run pins s σ H v u Q I rv (r v d σ ds G F μ H Q Rd a b c e f)⟩⟩
theorem PGsD.mk' {e g is} (h : PGs X e g) (r : RGs (K := X.K) g is) : PGsD X e is := ⟨⟨fun pins s σ H vs us Q I rv ⟨xs, ds, G, F, μ, Rd, a, b, c, e, f, g⟩ => h.run pins s σ H vs us Q I rv (r vs xs σ ds G F μ H Q Rd a b c e f g)⟩⟩
theorem PGsC.mk' {ws e g is} (h : PGs X e g) (r : RGcs X.K ws g is) : PGsC X ws e is := ⟨⟨fun pins s σ H vs us Q I rv ⟨xs, ds, G, F, μ, Rd, a, b, c, e, f, g⟩ => h.run pins s σ H vs us Q I rv (r vs xs σ ds G F μ H Q Rd a b c e f g)⟩⟩
theorem PID.mk' {tg e wi wd} (h : PI X tg e wi) (r : RI X.K wi wd) : PID X tg e wd := ⟨⟨fun pins s σ H R I ⟨ds, G, F, μ, Rd, a, b, c, d⟩ => h.run pins s σ H R I (r σ ds G F μ H R Rd a b c d)⟩⟩
end
/-- pairs of a display: the kit's own term stays, some one -/
def PPD (X : Cx) (pos : Pos) (ks : List (Option Expr)) (vs : List Expr) (tds : List (TD × TD)) : Prop := ∃ ts, PPs X pos ks vs ts ∧ RPs X.K ts tds
end DL
set_option Elab.async false
set_option linter.all false
set_option maxRecDepth 100000
set_option maxHeartbeats 4000001
namespace DL
open PySem L2

/-! ### a def's promise over data -/
abbrev DP := List D → Mu → DK → Prop
def spD (K : PySem.W.Frag) (P : DP) : Sp := fun vs H Q _ => ∃ (G F : Hp) (μ : Mu) (ds : List D) (Qd : DK), RpL K G ds vs ∧ Wd K G F μ H ∧ P ds μ Qd ∧ KQ K G F Qd Q
def dCall (P : DP) (t : TAd) : TD := fun ds μ Q => t ds μ fun xs μ1 => P xs μ1 Q
def lookD (f : Str) : List (Str × D) → Option D
  | [] => none
  | (g, d) :: r => if g = f then some d else lookD f r
def putFD (f : Str) (d : D) : List (Str × D) → List (Str × D)
  | [] => [(f, d)]
  | (g, e) :: r => if g = f then (f, d) :: r else (g, e) :: putFD f d r
def dMeth (C : Addr) (m : Str) (P : DP) (to : TD) (t : TAd) : TD := fun ds μ Q => to ds μ fun x μ1 => match x with
  | .obj a => (∃ fs, μ1 a = some (.ins C fs) ∧ lookD m fs = none) ∧ t ds μ1 fun xs μ2 => P (.obj a :: xs) μ2 Q
  | _ => False
def dMake (C : Addr) (P : DP) (t : TAd) : TD := fun ds μ Q => t ds μ fun xs μ1 => ∀ x, μ1 x = none → P (.obj x :: xs) (put μ1 x (.ins C [])) fun v μ2 => v = .non ∧ Q (.obj x) μ2
def dFld (C : Addr) (f : Str) (to : TD) : TD := fun ds μ Q => to ds μ fun x μ1 => match x with
  | .obj a => ∃ fs d, μ1 a = some (.ins C fs) ∧ lookD f fs = some d ∧ Q d μ1
  | _ => False
def dsFld (C : Addr) (f : Str) (to tv : TD) : DS := fun D ds μ => tv ds μ fun d μ1 => to ds μ1 fun x μ2 => match x with
  | .obj a => ∃ fs, μ2 a = some (.ins C fs) ∧ fs.length < 1000 ∧ D.nx ds (put μ2 a (.ins C (putFD f d fs)))
  | _ => False
section
variable {K : PySem.W.Frag} {G F : Hp} {μ : Mu} {H : Hp}
theorem RpF.len : ∀ {ds : List (Str × D)} {vs : List (Str × V)}, RpF K G ds vs → vs.length = ds.length
  | [], _, h => by rw [RpF] at h; rw [h]; rfl
  | (j, x) :: ds, _, ⟨v, r, h1, h2, h3⟩ => by subst h1; rw [List.length_cons, List.length_cons, RpF.len h3]
theorem RpF.look {f : Str} : ∀ {ds : List (Str × D)} {vs : List (Str × V)}, RpF K G ds vs → (∀ d, lookD f ds = some d → ∃ v, vs.lookup f = some v ∧ Rp K G d v) ∧ (lookD f ds = none → vs.lookup f = none)
  | [], _, h => by rw [RpF] at h; rw [h]; exact ⟨fun d e => (nomatch e), fun _ => rfl⟩
  | (j, x) :: ds, _, ⟨v, r, h1, h2, h3⟩ => by
    subst h1
    obtain ⟨a, b⟩ := RpF.look (f := f) h3
    unfold lookD
    by_cases hj : j = f
    · subst hj
      rw [if_pos rfl]
      have e : List.lookup j ((j, v) :: r) = some v := by simp [List.lookup]
      rw [e]
      exact ⟨fun d q => ⟨v, rfl, by cases q; exact h2⟩, fun q => by cases q⟩
    · rw [if_neg hj]
      have e : List.lookup f ((j, v) :: r) = List.lookup f r := by
        have : (f == j) = false := by simpa using fun z => hj z.symm
        simp [List.lookup, this]
      rw [e]
      exact ⟨a, b⟩
theorem RpF.put {f : Str} {d : D} {v : V} (rv : Rp K G d v) : ∀ {ds : List (Str × D)} {vs : List (Str × V)}, RpF K G ds vs → RpF K G (putFD f d ds) (putF f v vs)
  | [], _, h => by rw [RpF] at h; rw [h]; exact ⟨v, [], rfl, rv, rfl⟩
  | (j, x) :: ds, _, ⟨u, r, h1, h2, h3⟩ => by
    subst h1
    unfold putFD putF
    by_cases hj : j = f
    · subst hj
      rw [if_pos rfl]
      first
        | (rw [if_pos rfl]; exact ⟨v, r, rfl, rv, h3⟩)
        | (simp; exact ⟨v, r, rfl, rv, h3⟩)
    · rw [if_neg hj]
      first
        | (rw [if_neg hj]; exact ⟨u, _, rfl, h2, RpF.put rv h3⟩)
        | (simp [hj]; exact ⟨u, _, rfl, h2, RpF.put rv h3⟩)
theorem Wd.insM (w : Wd K G F μ H) {a C : Addr} {fs : List (Str × D)} (h : μ a = some (.ins C fs)) : ∃ dx vs, H a = some (.ins C dx vs) ∧ RpF K G fs vs := by
  obtain ⟨o, h1, ⟨dx, vs, h2, h4⟩, h3⟩ := w.m a _ h
  subst h2
  exact ⟨dx, vs, h1, h4⟩
theorem Wd.newX (w : Wd K G F μ H) {p : Addr} {o : HO} (h : H p = none) : Wd K G F μ (upd H p o) :=
  ⟨fun a u e => by rw [upd_ne (ne_of_none (w.g a u e) h)]; exact w.g a u e, fun a u e => by
    have q := w.f a u e
    rw [upd_ne (ne_of_none q.1 h)]; exact q, fun a m e => by
    obtain ⟨u, h1, h2, h3⟩ := w.m a m e
    rw [upd_ne (ne_of_none h1 h)]; exact ⟨u, h1, h2, h3⟩⟩
theorem re_call {P : DP} {E : XK} {t : TA} {dt : TAd} (h1 : RA K t dt) : RE K (tCall (spD K P) [] E t) (dCall P dt) := fun σ ds G F μ H Qd Q hs hw h kq =>
  h1 σ ds G F μ H _ _ hs hw h fun vs xs G1 μ1 H1 e1 w1 r q => by
    rw [List.append_nil]
    exact ⟨G1, F, μ1, xs, Qd, r, w1, q, kq.up e1⟩
theorem re_meth {P : DP} {C : Addr} {m : Str} {E : XK} {to : TE} {dto : TD} {t : TA} {dt : TAd} (h1 : RE K to dto) (h2 : RA K t dt) : RE K (tMeth C m (spD K P) [] E to t) (dMeth C m P dto dt) := fun σ ds G F μ H Qd Q hs hw h kq =>
  h1 σ ds G F μ H _ _ hs hw h fun x dx G1 μ1 H1 e1 w1 rx q => by
    split at q
    · rename_i a
      obtain ⟨⟨fs, hm, hl⟩, q⟩ := q
      obtain ⟨dd, vs, h3, h4⟩ := w1.insM hm
      have rx' : x = V.ref a := rx
      refine ⟨a, dd, vs, rx', h3, h4.look.2 hl, h2 σ ds G1 F μ1 H1 _ _ (hs.mono e1) w1 q fun us xs G2 μ2 H2 e2 w2 r2 q2 => ?_⟩
      rw [List.append_nil]
      exact ⟨G2, F, μ2, .obj a :: xs, Qd, ⟨x, us, rfl, rx', r2⟩, w2, q2, kq.up (e1.trans e2)⟩
    · exact q.elim
theorem re_make {P : DP} {C : Addr} {E : XK} {t : TA} {dt : TAd} (h1 : RA K t dt) : RE K (tMake C (spD K P) [] E t) (dMake C P dt) := fun σ ds G F μ H Qd Q hs hw h kq =>
  h1 σ ds G F μ H _ _ hs hw h fun vs xs G1 μ1 H1 e1 w1 r q => by
    intro x dx hx hdx hne
    have w2 := w1.newX (o := .own x) hdx
    have hx2 : (upd H1 dx (.own x)) x = none := by rw [upd_ne (Ne.symm hne)]; exact hx
    have w3 := w2.newM (m := .ins C []) (o := .ins C dx []) hx2 ⟨dx, [], rfl, rfl⟩
    rw [List.append_nil]
    refine ⟨G1, F, _, .obj x :: xs, _, ⟨.ref x, vs, rfl, rfl, r⟩, w3, q x (w1.noM hx), fun v d G' μ' H' e w rv qd => ?_⟩
    obtain ⟨rfl, qd⟩ := qd
    exact ⟨rv, kq (.ref x) (.obj x) G' μ' H' (e1.trans e) w rfl qd⟩
theorem re_fld {C : Addr} {f : Str} {to : TE} {dto : TD} (c : Cls K C) (n : NoAttr K C f) (h1 : RE K to dto) : RE K (tFld K to f) (dFld C f dto) := fun σ ds G F μ H Qd Q hs hw h kq =>
  h1 σ ds G F μ H _ _ hs hw h fun x dx G1 μ1 H1 e1 w1 rx q => by
    split at q
    · obtain ⟨fs, d, hm, hl, q⟩ := q
      obtain ⟨dd, vs, h3, h4⟩ := w1.insM hm
      obtain ⟨v, hv, rv⟩ := h4.look.1 d hl
      exact ⟨_, C, dd, vs, v, rx, h3, c, n, hv, (kq.up e1).here w1 rv q⟩
    · exact q.elim
theorem rs_fld {C : Addr} {f : Str} {to tv : TE} {dto dtv : TD} (c : Cls K C) (n : NoAttr K C f) (h1 : RE K to dto) (h2 : RE K tv dtv) : RS K (sFld K to tv f) (dsFld C f dto dtv) := fun σ ds G F μ H E D hs hw h k =>
  h2 σ ds G F μ H _ _ hs hw h fun v d G0 μ0 H0 e0 w0 rv q0 => h1 σ ds G0 F μ0 H0 _ _ (hs.mono e0) w0 q0 fun x dx G1 μ1 H1 e1 w1 rx q => by
    split at q
    · obtain ⟨fs, hm, hl, q⟩ := q
      obtain ⟨dd, vs, h3, h4⟩ := w1.insM hm
      exact ⟨_, C, dd, vs, rx, h3, c, n, by rw [h4.len]; exact hl, k.nx σ ds G1 _ _ (e0.trans e1) (hs.mono (e0.trans e1)) (w1.chg (m := .ins C (putFD f d fs)) hm ⟨dd, _, rfl, h4.put (Rp.mono e1 _ _ rv)⟩) q⟩
    · exact q.elim
end

/-! ### the rules of the text, with their data -/
section
variable {X : Cx} {a b c o e : Expr} {ta tb tc te to ti tv : TE} {da db dc de dto di dv : TD} {tA tB' : TT} {dA dB : TTd} {pos apos : Pos} {es rest : List Expr} {t : TA} {dt : TAd}
theorem ed_var (i : Nat) {x : Str} (hN : X.N[i]? = some x := by rfl) (hv : Vis X.env.scope x := by first | exact Or.inl rfl | exact Or.inr (Or.inl rfl) | exact Or.inr (Or.inr rfl)) (hd : (x == ("__debug__" : Str)) = false := by decide)
    (hcd : (x == ("__classdict__" : Str)) = false := by decide) : PED X (.Name x pos) (dVar i) := .mk' (pe_var hN hv hd hcd) (re_var)
theorem ed_int {i j} : PED X (.Constant (.int i) j pos) (dC (.int i)) := .mk' (pe_int) (re_c fun _ => rfl)
theorem ed_bl {i j} : PED X (.Constant (.bool i) j pos) (dC (.bl i)) := .mk' (pe_bl) (re_c fun _ => rfl)
theorem ed_non {j} : PED X (.Constant .none j pos) (dC .non) := .mk' (pe_non) (re_c fun _ => rfl)
theorem ed_str {x j} : PED X (.Constant (.str x) j pos) (dC (.str x)) := .mk' (pe_str) (re_c fun _ => rfl)
theorem ed_glob {x : Str} {v : V} {d : D} {u : Value} (hm : X.mg x = some u) (r : RelV v u) (rd : ∀ G, Rp X.K G d v) (hg : Gl X x := by rfl) (hd : (x == ("__debug__" : Str)) = false := by decide) : PED X (.Name x pos) (dC d) := .mk' (pe_glob hg hm r hd) (re_c rd)
theorem ed_op {op : Operator} {r : R2} {dr : D → D → Mu → DK → Prop} (ho : OpR X (binaryOp op) r) (hr : RR2 X.K r dr) (ha : PED X a da) (hb : PED X b db) : PED X (.BinOp a op b pos) (dOp dr da db) := .mk' (pe_op ho ha.pe hb.pe) (re_op hr ha.re hb.re)
theorem ed_add (m : Bool) (ha : PED X a da) (hb : PED X b db) : PED X (.BinOp a .Add b pos) (dOp (dAdd m) da db) := ed_op op_addG rr_add ha hb
theorem ed_sub (ha : PED X a da) (hb : PED X b db) : PED X (.BinOp a .Sub b pos) (dOp dSub da db) := ed_op op_sub rr_sub ha hb
theorem ed_mul (m : Bool) (ha : PED X a da) (hb : PED X b db) : PED X (.BinOp a .Mult b pos) (dOp (dMul m) da db) := ed_op op_mulG rr_mul ha hb
theorem ed_mod (ha : PED X a da) (hb : PED X b db) : PED X (.BinOp a .Mod b pos) (dOp dMod da db) := ed_op op_mod rr_mod ha hb
theorem ed_fdiv (ha : PED X a da) (hb : PED X b db) : PED X (.BinOp a .FloorDiv b pos) (dOp dFDiv da db) := ed_op op_fdiv rr_fdiv ha hb
theorem ed_pow (ha : PED X a da) (hb : PED X b db) : PED X (.BinOp a .Pow b pos) (dOp dPow da db) := ed_op op_pow rr_pow ha hb
theorem ed_cmpR {op : CmpOp} {r : R2} {dr : D → D → Mu → DK → Prop} (ho : OpR X (compareOp op) r) (hr : RR2 X.K r dr) (ha : PED X a da) (hb : PED X b db) (hm : behindInMarks op b = false) : PED X (.Compare a [op] [b] pos) (dOp dr da db) := .mk' (pe_cmpR ho ha.pe hb.pe hm) (re_op hr ha.re hb.re)
theorem td_cmpR {op : CmpOp} {r : R2} {dr : D → D → Mu → DK → Prop} (ho : OpR X (compareOp op) r) (hr : RR2 X.K r dr) (ha : PED X a da) (hb : PED X b db) (hm : behindInMarks op b = false) : PTD X (.Compare a [op] [b] pos) (dTest (dOp dr da db)) := .mk' (pt_cmpR ho ha.pe hb.pe hm) (re_test (re_op hr ha.re hb.re))
theorem ed_chain {op op' : CmpOp} {r r' : R2} {dr dr' : D → D → Mu → DK → Prop} (ho : OpR X (compareOp op) r) (hr : RR2 X.K r dr) (ho' : OpR X (compareOp op') r') (hr' : RR2 X.K r' dr') (ha : PED X a da) (hb : PED X b db) (hc : PED X c dc)
    (hm : lastMarks [op, op'] [b, c] = false := by with_unfolding_all rfl) : PED X (.Compare a [op, op'] [b, c] pos) (dChain dr dr' da db dc) := .mk' (pe_chain ho ho' ha.pe hb.pe hc.pe hm) (re_chain hr hr' ha.re hb.re hc.re)
theorem td_chain {op op' : CmpOp} {r r' : R2} {dr dr' : D → D → Mu → DK → Prop} (ho : OpR X (compareOp op) r) (hr : RR2 X.K r dr) (ho' : OpR X (compareOp op') r') (hr' : RR2 X.K r' dr') (ha : PED X a da) (hb : PED X b db) (hc : PED X c dc)
    (hm : lastMarks [op, op'] [b, c] = false := by with_unfolding_all rfl) : PTD X (.Compare a [op, op'] [b, c] pos) (dTest (dChain dr dr' da db dc)) := .mk' (pt_chain ho ho' ha.pe hb.pe hc.pe hm) (re_test (re_chain hr hr' ha.re hb.re hc.re))
theorem td_val (h : PED X e de) (he : ∀ whole, isTrue e X.env whole = (do let v ← whole; standAt e.pos; holding [v] (truthy v)) := by intro _; rfl) : PTD X e (dTest de) := .mk' (pt_val h.pe he) (re_B h.re)
theorem td_tru (h : PED X e de) (he : ∀ whole, isTrue e X.env whole = (do let v ← whole; standAt e.pos; holding [v] (truthy v)) := by intro _; rfl) : PTD X e (dTru de) := .mk' (pt_truth h.pe he) (re_tru h.re)
theorem td_not (h : PTD X a dA) : PTD X (.UnaryOp .Not a pos) (dNotT dA) := .mk' (pt_not h.pe) (re_notT h.re)
theorem wd_and1 (h : PTD X a dA) : PWD X (.BoolOp .And [a] pos) dA := .mk' (pw_and1 h.pe) (h.re)
theorem wd_or1 (h : PTD X a dA) : PWD X (.BoolOp .Or [a] pos) dA := .mk' (pw_or1 h.pe) (h.re)
theorem wd_and (h : PTD X a dA) (h2 : PWD X (.BoolOp .And (b :: rest) pos) dB) : PWD X (.BoolOp .And (a :: b :: rest) pos) (dAndT dA dB) := .mk' (pw_and h.pe h2.pe) (re_andT h.re h2.re)
theorem wd_or (h : PTD X a dA) (h2 : PWD X (.BoolOp .Or (b :: rest) pos) dB) : PWD X (.BoolOp .Or (a :: b :: rest) pos) (dOrT dA dB) := .mk' (pw_or h.pe h2.pe) (re_orT h.re h2.re)
theorem td_w (h : PWD X e dA) : PTD X e dA := .mk' (h.pe.pt) (h.re)
theorem ed_one {op} (h : PED X a da) : PED X (.BoolOp op [a] pos) da := .mk' (pe_one h.pe) (h.re)
theorem ed_and (h1 : PED X a da) (h2 : PED X (.BoolOp .And (b :: rest) pos) db) : PED X (.BoolOp .And (a :: b :: rest) pos) (dAndV da db) := .mk' (pe_and h1.pe h2.pe) (re_andV h1.re h2.re)
theorem ed_or (h1 : PED X a da) (h2 : PED X (.BoolOp .Or (b :: rest) pos) db) : PED X (.BoolOp .Or (a :: b :: rest) pos) (dOrV da db) := .mk' (pe_or h1.pe h2.pe) (re_orV h1.re h2.re)
theorem ed_not (h : PED X a da) : PED X (.UnaryOp .Not a pos) (dNotV da) := .mk' (pe_notT h.pe) (re_notV h.re)
theorem ed_if (h0 : PTD X c dA) (h1 : PED X a da) (h2 : PED X b db) : PED X (.IfExp c a b pos) (dIf dA da db) := .mk' (pe_ifExp h0.pe h1.pe h2.pe) (re_if h0.re h1.re h2.re)
theorem ad_nil : PAD X [] dNilA := .mk' (pa_nil) (ra_nil)
theorem ad_cons (h : PED X e de) (hr : PAD X es dt) (hs : starEach (e :: es) X.env = (false, eval e X.env) :: starEach es X.env := by rfl) : PAD X (e :: es) (dConsA de dt) := .mk' (pa_cons h.pe hr.pe hs) (ra_cons h.re hr.re)
theorem ed_tup {x1} (h : PAD X es dt) : PED X (.Tuple es x1 pos) (dTup dt) := .mk' (pe_tup h.pe) (re_tup h.re)
theorem ed_lst (m : Bool) (h : PAD X es dt) : PED X (.List es pos) (dLst m dt) := .mk' (pe_lst h.pe) (re_lst h.re)
theorem ed_ix (h1 : PED X a da) (h2 : PED X b db) (hs : PlainIx b := by exact fun _ _ => rfl) : PED X (.Subscript a b pos) (dOp dIx da db) := .mk' (pe_ix ix_seq h1.pe h2.pe hs) (re_op rr_ix h1.re h2.re)
theorem od_none : POD X none dNoPart := .mk' (po_none) (ro_none)
theorem od_some (h : PED X e de) : POD X (some e) (dPart de) := .mk' (po_some h.pe) (ro_some h.re)
theorem ed_sl (m : Bool) {lo hi : Option Expr} {dl dh : TOd} {p2 : Pos} (h1 : PED X e de) (h2 : POD X lo dl) (h3 : POD X hi dh) : PED X (.Subscript e (.Slice lo hi none p2) pos) (dSl m de dl dh) := .mk' (pe_slice sl_G h1.pe h2.pe h3.pe) (re_sl h1.re h2.re h3.re)
theorem ed_callB {id : String} {x : Str} {p : Pos} {r : List V → Hp → VK → Prop} {dr : List D → Mu → DK → Prop} (hc : CallR X (.builtin id) r) (hr : RRL X.K r dr) (hm : X.mg x = none) (hv : bootBuiltins x = some (.builtin id)) (ha : PAD X (e :: es) dt) (hg : Gl X x := by rfl) (hn : x ≠ "__name__" := by decide) (hdb : (x == ("__debug__" : Str)) = false := by decide)
    (he : starEach (e :: es) X.env = (false, eval e X.env) :: starEach es X.env := by rfl) (hpl : (backTo pos (starEach es X.env)).any (·.1) = false := by rfl) : PED X (.Call (.Name x p) (e :: es) [] pos) (dCB dr dt) := .mk' (pe_callB hc hg hm hv ha.pe hn hdb he hpl) (re_cb hr ha.re)
theorem ed_callTy {id : String} {x : Str} {p : Pos} {r : List V → Hp → VK → Prop} {dr : List D → Mu → DK → Prop} (hc : CallR X (.type id) r) (hr : RRL X.K r dr) (hm : X.mg x = none) (hv : bootBuiltins x = some (.type id)) (ha : PAD X (e :: es) dt) (hg : Gl X x := by rfl) (hn : x ≠ "__name__" := by decide) (hdb : (x == ("__debug__" : Str)) = false := by decide)
    (he : starEach (e :: es) X.env = (false, eval e X.env) :: starEach es X.env := by rfl) (hpl : (backTo pos (starEach es X.env)).any (·.1) = false := by rfl) : PED X (.Call (.Name x p) (e :: es) [] pos) (dCB dr dt) := .mk' (pe_callTy hc hg hm hv ha.pe hn hdb he hpl) (re_cb hr ha.re)
end
end DL
set_option Elab.async false
set_option linter.all false
set_option maxRecDepth 100000
set_option maxHeartbeats 4000001
namespace DL
open PySem L2
section
variable {X : Cx} {a b c o e : Expr} {ta tb tc te to ti tv : TE} {da db dc de dto di dv : TD} {tA tB' : TT} {dA dB : TTd} {pos apos : Pos} {es : List Expr} {t : TA} {dt : TAd}
variable {k : Nat} {f C : Addr} {fd : FuncData} {ps : List Str} {P : DP} {x m : Str} {p : Pos}
theorem ed_call (G : FnOk X.prog X.w X.K X.mg X.base CX0 k f fd ps (spD X.K P)) (hr : Room k X.A) (hm : X.mg x = some (.ref f)) (hk : PySem.W.keepIn X.K (.ref f) = true) (hb : Binds X.K fd ps []) (ha : PAD X (e :: es) dt)
    (hg : Gl X x := by rfl) (hdb : (x == ("__debug__" : Str)) = false := by decide) (he : starEach (e :: es) X.env = (false, eval e X.env) :: starEach es X.env := by rfl) (hpl : (backTo pos (starEach es X.env)).any (·.1) = false := by rfl) :
    PED X (.Call (.Name x p) (e :: es) [] pos) (dCall P dt) := .mk' (pe_call G hr hg hm hk hb .nil pass0 ha.pe hdb he hpl) (re_call ha.re)
theorem ed_make0 (M : Mk X.K C f) (G : FnOk X.prog X.w X.K X.mg X.base CX0 k f fd ps (spD X.K P)) (hr : Room (k + 1) X.A) (hm : X.mg x = some (.ref C)) (hb : Binds X.K fd ps []) (hg : Gl X x := by rfl) (hdb : (x == ("__debug__" : Str)) = false := by decide) :
    PED X (.Call (.Name x p) [] [] pos) (dMake C P dNilA) := .mk' (pe_make0 M G hr hg hm hb .nil pass0 hdb) (re_make ra_nil)
theorem ed_make (M : Mk X.K C f) (G : FnOk X.prog X.w X.K X.mg X.base CX0 k f fd ps (spD X.K P)) (hr : Room (k + 1) X.A) (hm : X.mg x = some (.ref C)) (hb : Binds X.K fd ps []) (ha : PAD X (e :: es) dt) (hg : Gl X x := by rfl) (hdb : (x == ("__debug__" : Str)) = false := by decide)
    (he : starEach (e :: es) X.env = (false, eval e X.env) :: starEach es X.env := by rfl) (hpl : (backTo pos (starEach es X.env)).any (·.1) = false := by rfl) :
    PED X (.Call (.Name x p) (e :: es) [] pos) (dMake C P dt) := .mk' (pe_make M G hr hg hm hb .nil pass0 ha.pe hdb he hpl) (re_make ha.re)
theorem ed_meth {pl : Sem Bool} (ho : PED X o dto) (cl : Cls X.K C) (hm : Meth X.K C m f) (G : FnOk X.prog X.w X.K X.mg X.base CX0 k f fd ps (spD X.K P)) (hr : Room k X.A) (hb : Binds X.K fd ps []) (ha : PAD X (e :: es) dt)
    (he : starEach (e :: es) X.env = (false, eval e X.env) :: starEach es X.env := by rfl) (hpl : (backTo pos (starEach es X.env)).any (·.1) = false := by rfl)
    (hev : eval (.Call (.Attribute o m apos) (e :: es) [] pos) X.env = (do
      let ov ← eval o X.env
      standAt apos.atName
      let (f, first) ← holding [ov] (getMethod ov m pl)
      callWith pos f first (backTo pos (starEach (e :: es) X.env)) (backToKw pos (keywordEach [] X.env))) := by rfl) :
    PED X (.Call (.Attribute o m apos) (e :: es) [] pos) (dMeth C m P dto dt) := .mk' (pe_meth (pl := pl) ho.pe cl hm G hr hb .nil pass0 ha.pe he hpl hev) (re_meth ho.re ha.re)
theorem ed_meth0 {pl : Sem Bool} (ho : PED X o dto) (cl : Cls X.K C) (hm : Meth X.K C m f) (G : FnOk X.prog X.w X.K X.mg X.base CX0 k f fd ps (spD X.K P)) (hr : Room k X.A) (hb : Binds X.K fd ps [])
    (hev : eval (.Call (.Attribute o m apos) [] [] pos) X.env = (do
      let ov ← eval o X.env
      standAt apos.atName
      let (f, first) ← holding [ov] (getMethod ov m pl)
      callWith pos f first [] []) := by rfl) :
    PED X (.Call (.Attribute o m apos) [] [] pos) (dMeth C m P dto dNilA) := .mk' (pe_meth0 (pl := pl) ho.pe cl hm G hr hb .nil pass0 hev) (re_meth ho.re ra_nil)
theorem ed_fld (cl : Cls X.K C) (n : NoAttr X.K C m) (h : PED X e de) (hb : attributeBase e m X.env (eval e X.env) = eval e X.env := by rfl) : PED X (.Attribute e m pos) (dFld C m de) := .mk' (pe_fld h.pe hb) (re_fld cl n h.re)
theorem ed_bml {id : String} {name : Str} {r : V → List V → Hp → VK → Prop} {dr : D → List D → Mu → DK → Prop} (pa : PlainAttrs "list") (slot : Slot "list" name id) (hty : typeOf (.builtin id) = pure (.type "method_descriptor")) (hm : MtR X id r) (hr : RRM X.K r dr) (ho : PED X o dto) (ha : PAD X (e :: es) dt)
    (hbase : attributeBase o name X.env (eval o X.env) = eval o X.env := by rfl)
    (hfew : ((backTo pos (starEach (e :: es) X.env)).all (fun x => !x.1) && (backToKw pos (keywordEach [] X.env)).all (fun x => x.1.isSome) && decide ((e :: es).length + ([] : List Keyword).length + (if ([] : List Keyword).isEmpty then 0 else 1) < 30)) = true := by rfl)
    (hline : (apos.endLine == pos.line) = true := by rfl) (hs : starEach (e :: es) X.env = (false, eval e X.env) :: starEach es X.env := by rfl) (hplain : (backTo pos (starEach es X.env)).any (·.1) = false := by rfl) :
    PED X (.Call (.Attribute o name apos) (e :: es) [] pos) (dBML dr dto dt) := .mk' (pe_bm pa slot hty hm ho.pe ha.pe hbase hfew hline hs hplain) (re_bml hr ho.re ha.re)
theorem ed_m1 {id : String} {name : Str} {r : V → List V → Hp → VK → Prop} {dr : D → List D → Mu → DK → Prop} (slot : Slot "str" name id) (ty : typeOf (.builtin id) = pure (.type "method_descriptor")) (rule : MtR X id r) (hr : RRM X.K r dr) (ho : PED X o dto) (he : PED X e de)
    (hs : starEach [e] X.env = [(false, eval e X.env)] := by rfl) (hbase : attributeBase o name X.env (eval o X.env) = eval o X.env := by rfl) (hline : (apos.endLine == pos.line) = true := by rfl) :
    PED X (.Call (.Attribute o name apos) [e] [] pos) (dM1 dr dto de) := .mk' (pe_m1 slot ty rule ho.pe he.pe hs hbase hline) (re_m1 hr ho.re he.re)
theorem ed_m0 {id : String} {name : Str} {r : V → List V → Hp → VK → Prop} {dr : D → List D → Mu → DK → Prop} (slot : Slot "str" name id) (ty : typeOf (.builtin id) = pure (.type "method_descriptor")) (rule : MtR X id r) (hr : RRM X.K r dr) (ho : PED X o dto)
    (hbase : attributeBase o name X.env (eval o X.env) = eval o X.env := by rfl) (hline : (apos.endLine == pos.line) = true := by rfl) :
    PED X (.Call (.Attribute o name apos) [] [] pos) (dM0 dr dto) := .mk' (pe_m0 slot ty rule ho.pe hbase hline) (re_m0 hr ho.re)
theorem ed_join (ho : PED X o dto) (he : PED X e de) (hs : starEach [e] X.env = [(false, eval e X.env)] := by rfl) (hbase : attributeBase o "join" X.env (eval o X.env) = eval o X.env := by rfl) (hline : (apos.endLine == pos.line) = true := by rfl) :
    PED X (.Call (.Attribute o "join" apos) [e] [] pos) (dM1 dJoin dto de) :=
  ed_m1 PySem.F.slot_str_join PySem.F.type_str_join mt_join rm_join ho he hs hbase hline
theorem ed_split (m : Bool) (ho : PED X o dto) (he : PED X e de) (hs : starEach [e] X.env = [(false, eval e X.env)] := by rfl) (hbase : attributeBase o "split" X.env (eval o X.env) = eval o X.env := by rfl) (hline : (apos.endLine == pos.line) = true := by rfl) :
    PED X (.Call (.Attribute o "split" apos) [e] [] pos) (dM1 (dSplit m) dto de) :=
  ed_m1 PySem.F.slot_str_split PySem.F.type_str_split mt_split rm_split ho he hs hbase hline
theorem ed_append (ho : PED X o dto) (ha : PAD X [e] dt) (hbase : attributeBase o "append" X.env (eval o X.env) = eval o X.env := by rfl)
    (hfew : ((backTo pos (starEach [e] X.env)).all (fun x => !x.1) && (backToKw pos (keywordEach [] X.env)).all (fun x => x.1.isSome) && decide ([e].length + ([] : List Keyword).length + (if ([] : List Keyword).isEmpty then 0 else 1) < 30)) = true := by rfl)
    (hline : (apos.endLine == pos.line) = true := by rfl) (hs : starEach [e] X.env = (false, eval e X.env) :: starEach [] X.env := by rfl) (hplain : (backTo pos (starEach [] X.env)).any (·.1) = false := by rfl) :
    PED X (.Call (.Attribute o "append" apos) [e] [] pos) (dBML dAppend dto dt) := ed_bml PySem.F.plainAttrs_list PySem.F.slot_list_append PySem.F.type_list_append mt_append rm_append ho ha hbase hfew hline hs hplain
/-! comprehensions -/
variable {tg iter : Expr} {wi : TI} {wd : DI} {g : TG} {dg : DG}
theorem tsd_nil : PTsD X [] dYes := .mk' (pts_nil) (rt_yes)
theorem tsd_one (h : PTD X c dA) : PTsD X [c] dA := .mk' (pts_one h.pe) (h.re)
theorem id_seq (h : PED X e de) : PID X tg e (diSeq de) := .mk' (pi_seq h.pe) (ri_seq h.re)
theorem id_str (h : PED X e de) : PID X tg e (diStr de) := .mk' (pi_str h.pe) (ri_str h.re)
theorem id_rng1 (hm : X.mg "range" = none) (ha : PAD X [a] dt) (hg : Gl X "range" := by rfl) (hs : starEach [a] X.env = [(false, eval a X.env)] := by rfl) : PID X tg (.Call (.Name "range" p) [a] [] pos) (diRng1 dt) := .mk' (pi_range1 hg hm ha.pe hs) (ri_rng1 ha.re)
theorem id_rng2 (hm : X.mg "range" = none) (ha : PAD X [a, b] dt) (hg : Gl X "range" := by rfl) (hs : starEach [a, b] X.env = [(false, eval a X.env), (false, eval b X.env)] := by rfl) (hs2 : starEach [b] X.env = [(false, eval b X.env)] := by rfl) : PID X tg (.Call (.Name "range" p) [a, b] [] pos) (diRng2 dt) := .mk' (pi_range2 hg hm ha.pe hs hs2) (ri_rng2 ha.re)
theorem id_enum {elts : List Expr} {kk : Nat} {tpos : Pos} (hm : X.mg "enumerate" = none) (ha : PAD X [e] dt) (hg : Gl X "enumerate" := by rfl) (hs : starEach [e] X.env = [(false, eval e X.env)] := by rfl) : PID X (.Tuple elts kk tpos) (.Call (.Name "enumerate" p) [e] [] pos) (diEnum dt) := .mk' (pi_enum hg hm ha.pe hs) (ri_enum ha.re)
theorem id_enumS {elts : List Expr} {kk : Nat} {tpos : Pos} (hm : X.mg "enumerate" = none) (ha : PAD X [e] dt) (hg : Gl X "enumerate" := by rfl) (hs : starEach [e] X.env = [(false, eval e X.env)] := by rfl) : PID X (.Tuple elts kk tpos) (.Call (.Name "enumerate" p) [e] [] pos) (diEnumS dt) := .mk' (pi_enum hg hm ha.pe hs) (ri_enumS ha.re)
theorem gd_name (i : Nat) (hN : X.N.Nodup) (hi : X.N[i]? = some x := by rfl) (hx : Loc X.env.scope x := by first | exact Or.inl rfl | exact Or.inr rfl) (hf : X.fn x = true ∨ X.env.scope.names.lookup x = some .local := by first | exact .inl rfl | exact .inr rfl) : PGD X (.Name x pos) (dgName i) := .mk' (pg_name hN hi hx hf) (rg_name)
theorem gc_name {vs : List Nat} (i : Nat) (hN : X.N.Nodup) (hm : i ∈ vs := by decide) (hi : X.N[i]? = some x := by rfl) (hx : Loc X.env.scope x := by first | exact Or.inl rfl | exact Or.inr rfl) (hf : X.fn x = true ∨ X.env.scope.names.lookup x = some .local := by first | exact .inl rfl | exact .inr rfl) : PGC X vs (.Name x pos) (dgName i) := .mk' (pg_name hN hi hx hf) (rgc_name hm)
theorem rgs_cons2 {K : PySem.W.Frag} {i : Nat} {is : List Nat} {g : TG} {gs : TGs} (h0 : RG (K := K) g (dgName i)) (h1 : RGs (K := K) gs is) : RGs (K := K) (gCons g gs) (i :: is) := fun vs xs σ ds G F μ H R Rd r hl hs hw h k => by
  cases xs with
  | nil => simp at hl
  | cons x xs =>
    obtain ⟨v, us, e, r1, r2⟩ := r
    exact ⟨v, us, e, h0 v x σ ds G F μ H _ (fun ds1 μ1 => Rd (setAll ds1 is xs) μ1) r1 hs hw h fun σ' ds' G' μ' H' e' s' w' q => h1 us xs σ' ds' G' F μ' H' R Rd (RpL.mono e' _ _ r2) (by simpa using hl) s' w' q (k.up e')⟩
theorem rgcs_cons2 {K : PySem.W.Frag} {ws : List Nat} {i : Nat} {is : List Nat} {g : TG} {gs : TGs} (h0 : RGc K ws g (dgName i)) (h1 : RGcs K ws gs is) : RGcs K ws (gCons g gs) (i :: is) := fun vs xs σ ds G F μ H R Rd r hl hs hw h k => by
  cases xs with
  | nil => simp at hl
  | cons x xs =>
    obtain ⟨v, us, e, r1, r2⟩ := r
    exact ⟨v, us, e, h0 v x σ ds G F μ H _ (fun ds1 μ1 => Rd (setAll ds1 is xs) μ1) r1 hs hw h fun σ' ds' G' μ' H' ew e' s' w' q => h1 us xs σ' ds' G' F μ' H' R Rd (RpL.mono e' _ _ r2) (by simpa using hl) s' w' q fun σ2 ds2 G2 μ2 H2 ew2 e2 => k σ2 ds2 G2 μ2 H2 (ew2.trans ew) (e'.trans e2)⟩
theorem gsd_nil : PGsD X [] [] := .mk' (pgs_nil) (rgs_nil)
theorem gsd_cons {i : Nat} {is : List Nat} (h : PGD X e (dgName i)) (h2 : PGsD X es is) (hs : (assignEach (e :: es) X.env).map (·.2) = assign e X.env :: (assignEach es X.env).map (·.2) := by rfl) : PGsD X (e :: es) (i :: is) := .mk' (pgs_cons h.pg h2.pg hs) (rgs_cons2 h.rg h2.rg)
theorem gsc_nil {vs : List Nat} : PGsC X vs [] [] := .mk' (pgs_nil) (rgcs_nil)
theorem gsc_cons {vs : List Nat} {i : Nat} {is : List Nat} (h : PGC X vs e (dgName i)) (h2 : PGsC X vs es is) (hm : i ∈ vs := by decide) (hs : (assignEach (e :: es) X.env).map (·.2) = assign e X.env :: (assignEach es X.env).map (·.2) := by rfl) : PGsC X vs (e :: es) (i :: is) := .mk' (pgs_cons h.pg h2.pg hs) (rgcs_cons2 h.rg h2.rg)
theorem gd_tup {n kk : Nat} {is : List Nat} (hc : X.calm = true) (h : PGsD X es is) (hl : is.length = n) (hn : (assignEach es X.env).length = n := by rfl) (hst : (assignEach es X.env).findIdx? (·.1) = none := by rfl) : PGD X (.Tuple es kk pos) (dgTup is) := .mk' (pg_tup hc h.pg hn hst) (rg_tup h.rg hl)
theorem gc_tup {vs : List Nat} {n kk : Nat} {is : List Nat} (hc : X.calm = true) (h : PGsC X vs es is) (hl : is.length = n) (hn : (assignEach es X.env).length = n := by rfl) (hst : (assignEach es X.env).findIdx? (·.1) = none := by rfl) : PGC X vs (.Tuple es kk pos) (dgTup is) := .mk' (pg_tup hc h.pg hn hst) (rgc_tup h.rg hl)
theorem ed_lc (m : Bool) {elt : Expr} {ifs : List Expr} {scope : Scope} {own : List (Str × Nat)} {dtt : TTd} (hc : X.calm = true) (hN : X.N.Nodup) (ok : BlkOk X.N X.env.scope scope own) (hi : PID X tg iter wd)
    (hg : ∀ (s : Shared) (H : Hp) (C : Addr) (cl : List (Str × Addr)) (fp : List Addr), PGC (X.blk s H scope (compEnvC scope cl C X.env) fp) (own.map (·.2)) tg dg)
    (ht : ∀ (s : Shared) (H : Hp) (C : Addr) (cl : List (Str × Addr)) (fp : List Addr), PTsD (X.blk s H scope (compEnvC scope cl C X.env) fp) ifs dtt)
    (he : ∀ (s : Shared) (H : Hp) (C : Addr) (cl : List (Str × Addr)) (fp : List Addr), PED (X.blk s H scope (compEnvC scope cl C X.env) fp) elt de) (hs : ∀ x, foldedSetIterable iter X.env x = pure x := by intro _; rfl) :
    PED X (.ListComp elt [⟨tg, iter, ifs, 0⟩] scope pos) (dLc m wd dg dtt de (own.map (·.2))) := .mk' (pe_lc hc hN hi.pi ok (fun s H C cl fp => (hg s H C cl fp).pg) (fun s H C cl fp => (ht s H C cl fp).pe) (fun s H C cl fp => (he s H C cl fp).pe) hs) (re_lc hi.ri (hg X.s_0 X.H_0 0 [] []).rg (ht X.s_0 X.H_0 0 [] []).re (he X.s_0 X.H_0 0 [] []).re)
theorem sd_setLc (m : Bool) (i : Nat) {y : Str} {py spos : Pos} {elt : Expr} {ifs : List Expr} {scope : Scope} {own : List (Str × Nat)} {dtt : TTd} (hc : X.calm = true) (hN : X.N.Nodup) (hy : X.N[i]? = some y) (hyl : X.env.scope.names.lookup y = some .local)
    (hsw : swapsWith (.ListComp elt [⟨tg, iter, ifs, 0⟩] scope pos) (some (.Name y py)) spos.line X.env = pure true) (ok : BlkOk X.N X.env.scope scope own) (hi : PID X tg iter wd)
    (hg : ∀ (s : Shared) (H : Hp) (C : Addr) (cl : List (Str × Addr)) (fp : List Addr), PGC (X.blk s H scope (compEnvC scope cl C X.env) fp) (own.map (·.2)) tg dg)
    (ht : ∀ (s : Shared) (H : Hp) (C : Addr) (cl : List (Str × Addr)) (fp : List Addr), PTsD (X.blk s H scope (compEnvC scope cl C X.env) fp) ifs dtt)
    (he : ∀ (s : Shared) (H : Hp) (C : Addr) (cl : List (Str × Addr)) (fp : List Addr), PED (X.blk s H scope (compEnvC scope cl C X.env) fp) elt de) (hs : ∀ x, foldedSetIterable iter X.env x = pure x := by intro _; rfl) :
    PSD X (.Assign [.Name y py] (.ListComp elt [⟨tg, iter, ifs, 0⟩] scope pos) spos) (dAsg (dLc m wd dg dtt de (own.map (·.2))) (dgName i)) := .mk' (ps_setLc hc hN hy hyl hsw hi.pi ok (fun s H C cl fp => (hg s H C cl fp).pg) (fun s H C cl fp => (ht s H C cl fp).pe) (fun s H C cl fp => (he s H C cl fp).pe) hs) (rs_asg (re_lc hi.ri (hg X.s_0 X.H_0 0 [] []).rg (ht X.s_0 X.H_0 0 [] []).re (he X.s_0 X.H_0 0 [] []).re) rg_name)
/-! dicts -/
theorem ed_dget (hu : X.A.units + 1 < cLine) (h1 : PED X o dto) (h2 : PED X e de) (hs : NoSl e := by exact fun _ _ => rfl) : PED X (.Subscript o e pos) (dDGet dto de) := .mk' (pe_dget hu h1.pe h2.pe hs) (re_dget h1.re h2.re)
theorem sd_dput (hu : X.A.units + 1 < cLine) {pos' : Pos} (h1 : PED X o dto) (h2 : PED X e de) (h3 : PED X a da) (hs : swapsWith a (some (.Subscript o e pos')) pos.line X.env = pure false := by rfl) : PSD X (.Assign [.Subscript o e pos'] a pos) (dDPut dto de da) := .mk' (ps_dput hu h1.pe h2.pe h3.pe hs) (rs_dput h1.re h2.re h3.re)
theorem ppd_nil : PPD X pos [] [] [] := ⟨[], pps_nil, rps_nil⟩
end
section
variable {X : Cx} {a b c o e : Expr} {ta tb tc te to ti tv : TE} {da db dc de dto di dv : TD} {tA tB' : TT} {dA dB : TTd} {pos apos : Pos} {es : List Expr} {t : TA} {dt : TAd} {tg iter : Expr} {wi : TI} {wd : DI} {g : TG} {dg : DG} {C : Addr} {m x : Str}
theorem ppd_cons {ks : List (Option Expr)} {vs : List Expr} {tds : List (TD × TD)} (h1 : PED X a da) (h2 : PED X b db) (h3 : PPD X pos ks vs tds) : PPD X pos (some a :: ks) (b :: vs) ((da, db) :: tds) := by
  obtain ⟨ts, h4, h5⟩ := h3
  exact ⟨_, pps_cons h1.pe h2.pe h4, rps_cons h1.re h2.re h5⟩
theorem ed_disp {ks : List (Option Expr)} {vs : List Expr} {tds : List (TD × TD)} (h : PPD X pos ks vs tds) (hall : ks.all (·.isSome) = true) (hl : ks.length = vs.length) (h0 : ks ≠ []) (h15 : ks.length ≤ 15) : PED X (.Dict ks vs pos) (dDisp tds) := by
  obtain ⟨ts, h4, h5⟩ := h
  exact .mk' (pe_disp h4 hall hl h0 h15) (re_disp h5)
/-! statements -/
theorem sd_set (i : Nat) {pos' : Pos} (hN : X.N.Nodup) (he : PED X e de) (hi : X.N[i]? = some x := by rfl) (hx : Loc X.env.scope x := by first | exact Or.inl rfl | exact Or.inr rfl) (hs : swapsWith e (some (.Name x pos')) pos.line X.env = pure false := by rfl) (hf : X.fn x = true ∨ X.env.scope.names.lookup x = some .local := by first | exact .inl rfl | exact .inr rfl) :
    PSD X (.Assign [.Name x pos'] e pos) (dAsg de (dgName i)) := .mk' (ps_set hN hi hx he.pe hs hf) (rs_asg he.re rg_name)
theorem sd_asg (he : PED X e de) (hg : PGD X tg dg) (hs : swapsWithSole [tg] e pos.line X.env = pure false := by rfl) (hw : swappedStores [tg] e X.env = pure none := by rfl) (h1 : (assignEach [tg] X.env).map (·.2) = [assign tg X.env] := by rfl) : PSD X (.Assign [tg] e pos) (dAsg de dg) := .mk' (ps_asg he.pe hg.pg hs hw h1) (rs_asg he.re hg.rg)
theorem sd_fld {pos' : Pos} (cl : Cls X.K C) (n : NoAttr X.K C m) (h1 : PED X o dto) (h2 : PED X a da) (hs : swapsWith a (some (.Attribute o m pos')) pos.line X.env = pure false := by rfl) : PSD X (.Assign [.Attribute o m pos'] a pos) (dsFld C m dto da) := .mk' (ps_fld h1.pe h2.pe hs) (rs_fld cl n h1.re h2.re)
theorem sd_expr (he : PED X e de) (hs : swapsWith e none pos.line X.env = pure false := by rfl) : PSD X (.Expr e pos) (dDrop de) := .mk' (ps_expr he.pe hs) (rs_drop he.re)
theorem sd_ret (he : PED X e de) : PSD X (.Return (some e) pos) (dRet de) := .mk' (ps_ret he.pe) (rs_ret he.re)
theorem sd_retN : PSD X (.Return none pos) dRetN := .mk' (ps_retN) (rs_retN)
theorem sd_pass : PSD X (.Pass pos) dNext := .mk' (ps_pass) (rs_next)
theorem sd_break : PSD X (.Break pos) dBreak := .mk' (ps_break) (rs_break)
theorem sd_cont : PSD X (.Continue pos) dCont := .mk' (ps_continue) (rs_cont)
theorem sd_if {s1 s2 : List Stmt} {d1 d2 : DS} (hc : PTD X c dA) (h1 : PSSD X s1 d1) (h2 : PSSD X s2 d2) : PSD X (.If c s1 s2 pos) (dIfS dA d1 d2) := .mk' (ps_if hc.pe h1.ps h2.ps) (rs_if hc.re h1.rs h2.rs)
theorem sd_for {s1 : List Stmt} {d1 : DS} (hp : PassesOwn (model X.prog X.w) X.A X.env X.xe) (hc : X.calm = true) (hi : PID X tg iter wd) (hg : PGD X tg dg) (hb : PSSD X s1 d1) (hs : ∀ x, foldedSetIterable iter X.env x = pure x := by intro _; rfl) : PSD X (.For tg iter s1 [] pos) (dFor wd dg d1) := .mk' (ps_for hp hc hi.pi hg.pg hb.ps hs) (rs_for hi.ri hg.rg hb.rs)
theorem ssd_nil : PSSD X [] dNext := .mk' (pss_nil) (rs_next)
theorem ssd_cons {st : Stmt} {sts : List Stmt} {d1 d2 : DS} (h1 : PSD X st d1) (h2 : PSSD X sts d2) : PSSD X (st :: sts) (dSeq d1 d2) := .mk' (pss_cons h1.ps h2.ps) (rs_seq h1.rs h2.rs)
theorem ssd_one {st : Stmt} {d1 : DS} (h1 : PSD X st d1) : PSSD X [st] d1 := .mk' (pss_one h1.ps) (h1.rs)
end

/-! ### a def by its data -/
mutual
/-- d read anew as d', where the list a holds xs for good -/
def ReD (a : Addr) (xs : List D) : D → D → Prop
  | .obj b, d' => d' = .obj b ∨ (b = a ∧ d' = .lst xs)
  | .tup ds, d' => ∃ ds', d' = .tup ds' ∧ ReL a xs ds ds'
  | .lst ds, d' => ∃ ds', d' = .lst ds' ∧ ReL a xs ds ds'
  | .non, d' => d' = .non
  | .bl b, d' => d' = .bl b
  | .int i, d' => d' = .int i
  | .str s, d' => d' = .str s
  | .ty n, d' => d' = .ty n
  | .scr ds, d' => d' = .scr ds
  | .exc C fs, d' => d' = .exc C fs
def ReL (a : Addr) (xs : List D) : List D → List D → Prop
  | [], ds' => ds' = []
  | d :: ds, ds' => ∃ e es, ds' = e :: es ∧ ReD a xs d e ∧ ReL a xs ds es
end
mutual
theorem ReD.rp {K : PySem.W.Frag} {G : Hp} {a : Addr} {xs : List D} {us : List V} (h1 : G a = some (.lst us)) (h2 : RpL K G xs us) : ∀ (d d' : D) (v : V), ReD a xs d d' → Rp K G d v → Rp K G d' v
  | .obj b, d', v, e, r => by
    rcases e with rfl | ⟨rfl, rfl⟩
    · exact r
    · exact ⟨b, us, r, h1, h2⟩
  | .tup ds, _, v, ⟨ds', e, l⟩, ⟨p, vs, q1, q2, q3⟩ => by rw [e]; exact ⟨p, vs, q1, q2, ReL.rp h1 h2 ds ds' vs l q3⟩
  | .lst ds, _, v, ⟨ds', e, l⟩, ⟨p, vs, q1, q2, q3⟩ => by rw [e]; exact ⟨p, vs, q1, q2, ReL.rp h1 h2 ds ds' vs l q3⟩
  | .non, _, v, e, r => by rw [show _ = D.non from e]; exact r
  | .bl b, _, v, e, r => by rw [show _ = D.bl b from e]; exact r
  | .int i, _, v, e, r => by rw [show _ = D.int i from e]; exact r
  | .str s, _, v, e, r => by rw [show _ = D.str s from e]; exact r
  | .ty n, _, v, e, r => by rw [show _ = D.ty n from e]; exact r
  | .scr ds, _, v, e, r => by rw [show _ = D.scr ds from e]; exact r
  | .exc C fs, _, v, e, r => by rw [show _ = D.exc C fs from e]; exact r
theorem ReL.rp {K : PySem.W.Frag} {G : Hp} {a : Addr} {xs : List D} {us : List V} (h1 : G a = some (.lst us)) (h2 : RpL K G xs us) : ∀ (ds ds' : List D) (vs : List V), ReL a xs ds ds' → RpL K G ds vs → RpL K G ds' vs
  | [], _, vs, e, r => by rw [show _ = [] from e]; exact r
  | d :: ds, _, vs, ⟨e, es, q, q1, q2⟩, ⟨v, r, r1, r2, r3⟩ => by rw [q]; exact ⟨v, r, r1, ReD.rp h1 h2 d e v q1 r2, ReL.rp h1 h2 ds es r q2 r3⟩
end
/-- at the end objects may be put away, and a list may stand from now on -/
inductive GhQ (Q : DK) : D → Mu → Prop
  | self {d : D} {μ : Mu} (h : Q d μ) : GhQ Q d μ
  | sub' {d : D} {μ μ' : Mu} (s : SubM μ' μ) (h : GhQ Q d μ') : GhQ Q d μ
  | re {a : Addr} {xs : List D} {d d' : D} {μ : Mu} (h1 : μ a = some (.lst xs)) (e : ReD a xs d d') (h : GhQ Q d' (del μ a)) : GhQ Q d μ
theorem GhQ.sub {Q : DK} {d : D} {μ μ' : Mu} (s : SubM μ' μ) (h : Q d μ') : GhQ Q d μ := .sub' s (.self h)
theorem SubM.del {a : Addr} {μ μ' : Mu} (s : SubM μ' μ) (h2 : μ' a = none) : SubM μ' (del μ a) := fun b m e => by
  unfold DL.del
  by_cases q : b = a
  · subst q; rw [h2] at e; cases e
  · rw [if_neg q]; exact s b m e
theorem GhQ.refix {Q : DK} {a : Addr} {xs : List D} {d d' : D} {μ μ' : Mu} (s : SubM μ' μ) (h1 : μ a = some (.lst xs)) (h2 : μ' a = none) (e : ReD a xs d d') (h : Q d' μ') : GhQ Q d μ := .re h1 e (.sub (s.del h2) h)
theorem GhQ.fix {Q : DK} {a : Addr} {xs : List D} {μ μ' : Mu} (s : SubM μ' μ) (h1 : μ a = some (.lst xs)) (h2 : μ' a = none) (h : Q (.lst xs) μ') : GhQ Q (.obj a) μ := .refix s h1 h2 (.inr ⟨rfl, rfl⟩) h
def startD (N : List Str) (ds : List D) : DSl := ds.map some ++ List.replicate (N.length - ds.length) none
theorem kq_gh {K : PySem.W.Frag} {G F : Hp} {Qd : DK} {Q : VK} (kq : KQ K G F Qd Q) : KQ K G F (GhQ Qd) Q := fun v d G' μ' H' e w r h => by
  induction h generalizing G' with
  | self q => exact kq v _ G' _ H' e w r q
  | sub' s _ ih => exact ih G' e (w.sub s) r
  | re h1 hd _ ih =>
    obtain ⟨vs, h3, h4⟩ := w.lstM h1
    obtain ⟨w2, e2⟩ := w.fix h1 h3
    exact ih _ (e.trans e2) w2 (ReD.rp upd_same (RpL.mono e2 _ _ h4) _ _ _ hd (Rp.mono e2 _ _ r))
section
variable {P : Program} {w : World} {K : PySem.W.Frag} {mg : Str → Option Value} {base : Heap}
theorem okD {x qual : Str} {st : Stmt} {f : Addr} {fd : FuncData} {N ps : List Str} {k : Nat} {PD : DP} {td : DS} (Fu : Fun K x qual st f fd) (S : FnScope N ps (defScope st)) (len : ∀ ds μ Q, PD ds μ Q → ds.length = ps.length)
    (body : ∀ (cdv : Value) (A : Around) (outer : List Env) (s : Shared) (H : Hp) (E : XK), Room k (A.deeper (PyProof.Rows.envOfC qual (defScope st) s.heap.objs.size f cdv)) → PSSD (cxOf CX0 P w K mg base N qual (defScope st) f cdv A outer s H E).nox (defBody st) td)
    (rd : ∀ ds μ Q, PD ds μ Q → td { nx := fun _ μ' => GhQ Q .non μ', rt := GhQ Q } (startD N ds) μ) : FnOk P w K mg base CX0 (k + 1) f fd ps (spD K PD) := by
  refine Fu.ok S (fun vs H Q E h => ?_) (fun cdv A outer s H vs Q E hr h => ⟨_, (body cdv A outer s H E hr).ps, ?_⟩)
  · obtain ⟨G, F, μ, ds, Qd, r, hw, hp, kq⟩ := h
    rw [r.len]; exact len ds μ Qd hp
  · obtain ⟨G, F, μ, ds, Qd, r, hw, hp, kq⟩ := h
    have hs : RpS K G (startD N ds) (L2.start N vs) := by
      unfold startD L2.start
      rw [r.len]
      exact RpS.start r
    have kg := kq_gh kq
    exact (body cdv A outer s H E hr).rs (L2.start N vs) (startD N ds) G F μ H _ _ hs hw (rd ds μ Qd hp) ⟨fun σ' ds' G' μ' H' e _ w' q => kg .non .non G' μ' H' e w' rfl q, kg, fun σ' ds' G' μ' H' e _ w' q => q.elim, fun σ' ds' G' μ' H' e _ w' q => q.elim⟩
end
end DL
set_option Elab.async false
set_option linter.all false
set_option maxRecDepth 100000
set_option maxHeartbeats 4000001
namespace DL
open PySem L2
/-! ### what the text's top holds, by names -/
section
variable (P : Program) (w : World) (K : PySem.W.Frag) (mg : Str → Option Value) (base : Heap)
/-- a def of the top stands under its name -/
def Here (x qual : Str) (st : Stmt) (ps : List Str) : Prop := ∃ (f : Addr) (fd : FuncData), mg x = some (.ref f) ∧ Fun K x qual st f fd ∧ Binds K fd ps []
/-- .. and keeps its promise -/
def DefAt (x : Str) (k : Nat) (ps : List Str) (PD : DP) : Prop := ∃ (f : Addr) (fd : FuncData), mg x = some (.ref f) ∧ PySem.W.keepIn K (.ref f) = true ∧ Binds K fd ps [] ∧ FnOk P w K mg base CX0 k f fd ps (spD K PD)
def HereM (C : Addr) (m qual : Str) (st : Stmt) (ps : List Str) : Prop := ∃ (f : Addr) (fd : FuncData), Meth K C m f ∧ Fun K m qual st f fd ∧ Binds K fd ps []
def MethAt (C : Addr) (m : Str) (k : Nat) (ps : List Str) (PD : DP) : Prop := ∃ (f : Addr) (fd : FuncData), Meth K C m f ∧ Binds K fd ps [] ∧ FnOk P w K mg base CX0 k f fd ps (spD K PD)
def HereI (x : Str) (C : Addr) (qual : Str) (st : Stmt) (ps : List Str) : Prop := mg x = some (.ref C) ∧ ∃ (f : Addr) (fd : FuncData), Mk K C f ∧ Fun K "__init__" qual st f fd ∧ Binds K fd ps []
def MakeAt (x : Str) (C : Addr) (k : Nat) (ps : List Str) (PD : DP) : Prop := mg x = some (.ref C) ∧ ∃ (f : Addr) (fd : FuncData), Mk K C f ∧ Binds K fd ps [] ∧ FnOk P w K mg base CX0 k f fd ps (spD K PD)
end
section
variable {X : Cx} {a b c o e : Expr} {ta tb tc te to ti tv : TE} {da db dc de dto di dv : TD} {pos apos : Pos} {es : List Expr} {t : TA} {dt : TAd} {k : Nat} {C : Addr} {ps : List Str} {PD : DP} {x m : Str} {p : Pos}
theorem ed_callD (G : DefAt X.prog X.w X.K X.mg X.base x k ps PD) (hr : Room k X.A) (ha : PAD X (e :: es) dt)
    (hg : Gl X x := by rfl) (hdb : (x == ("__debug__" : Str)) = false := by decide) (he : starEach (e :: es) X.env = (false, eval e X.env) :: starEach es X.env := by rfl) (hpl : (backTo pos (starEach es X.env)).any (·.1) = false := by rfl) :
    PED X (.Call (.Name x p) (e :: es) [] pos) (dCall PD dt) := by
  obtain ⟨f, fd, h1, h2, h3, h4⟩ := G
  exact ed_call h4 hr h1 h2 h3 ha hg hdb he hpl
theorem ed_makeD0 (G : MakeAt X.prog X.w X.K X.mg X.base x C k ps PD) (hr : Room (k + 1) X.A) (hg : Gl X x := by rfl) (hdb : (x == ("__debug__" : Str)) = false := by decide) :
    PED X (.Call (.Name x p) [] [] pos) (dMake C PD dNilA) := by
  obtain ⟨h0, f, fd, h1, h2, h3⟩ := G
  exact ed_make0 h1 h3 hr h0 h2 hg hdb
theorem ed_makeD (G : MakeAt X.prog X.w X.K X.mg X.base x C k ps PD) (hr : Room (k + 1) X.A) (ha : PAD X (e :: es) dt) (hg : Gl X x := by rfl) (hdb : (x == ("__debug__" : Str)) = false := by decide)
    (he : starEach (e :: es) X.env = (false, eval e X.env) :: starEach es X.env := by rfl) (hpl : (backTo pos (starEach es X.env)).any (·.1) = false := by rfl) :
    PED X (.Call (.Name x p) (e :: es) [] pos) (dMake C PD dt) := by
  obtain ⟨h0, f, fd, h1, h2, h3⟩ := G
  exact ed_make h1 h3 hr h0 h2 ha hg hdb he hpl
theorem ed_methD {pl : Sem Bool} (ho : PED X o dto) (cl : Cls X.K C) (G : MethAt X.prog X.w X.K X.mg X.base C m k ps PD) (hr : Room k X.A) (ha : PAD X (e :: es) dt)
    (he : starEach (e :: es) X.env = (false, eval e X.env) :: starEach es X.env := by rfl) (hpl : (backTo pos (starEach es X.env)).any (·.1) = false := by rfl)
    (hev : eval (.Call (.Attribute o m apos) (e :: es) [] pos) X.env = (do
      let ov ← eval o X.env
      standAt apos.atName
      let (f, first) ← holding [ov] (getMethod ov m pl)
      callWith pos f first (backTo pos (starEach (e :: es) X.env)) (backToKw pos (keywordEach [] X.env))) := by rfl) :
    PED X (.Call (.Attribute o m apos) (e :: es) [] pos) (dMeth C m PD dto dt) := by
  obtain ⟨f, fd, h1, h2, h3⟩ := G
  exact ed_meth (pl := pl) ho cl h1 h3 hr h2 ha he hpl hev
theorem ed_methD0 {pl : Sem Bool} (ho : PED X o dto) (cl : Cls X.K C) (G : MethAt X.prog X.w X.K X.mg X.base C m k ps PD) (hr : Room k X.A)
    (hev : eval (.Call (.Attribute o m apos) [] [] pos) X.env = (do
      let ov ← eval o X.env
      standAt apos.atName
      let (f, first) ← holding [ov] (getMethod ov m pl)
      callWith pos f first [] []) := by rfl) :
    PED X (.Call (.Attribute o m apos) [] [] pos) (dMeth C m PD dto dNilA) := by
  obtain ⟨f, fd, h1, h2, h3⟩ := G
  exact ed_meth0 (pl := pl) ho cl h1 h3 hr h2 hev
theorem ed_gint {i : Int} (h : ∃ t, X.mg x = some (.int i t)) (hg : Gl X x := by rfl) (hd : (x == ("__debug__" : Str)) = false := by decide) : PED X (.Name x pos) (dC (.int i)) := by
  obtain ⟨t, h⟩ := h
  exact ed_glob (v := .int i) h ⟨t, rfl⟩ (fun _ => rfl) hg hd
theorem ed_gstr {i : Str} (h : ∃ t, X.mg x = some (.str i t)) (hg : Gl X x := by rfl) (hd : (x == ("__debug__" : Str)) = false := by decide) : PED X (.Name x pos) (dC (.str i)) := by
  obtain ⟨t, h⟩ := h
  exact ed_glob (v := .str i) h ⟨t, rfl⟩ (fun _ => rfl) hg hd
theorem ed_gref {d : D} (h : X.mg x = some (.ref C) ∧ ∀ G, Rp X.K G d (.ref C)) (hg : Gl X x := by rfl) (hd : (x == ("__debug__" : Str)) = false := by decide) : PED X (.Name x pos) (dC d) := ed_glob (v := .ref C) h.1 rfl h.2 hg hd
theorem gd_sub (ho : PED X o dto) (hi : PED X e di) (ha : ∀ v, assign (.Subscript o e pos) X.env v = (do
      let ov ← holding [v] (eval o X.env)
      let iv ← holding [v, ov] (eval e X.env)
      standAt pos
      holding [v, ov, iv] (setItem ov iv v)
      release [v, ov, iv] []) := by intro _; rfl) : PGD X (.Subscript o e pos) (dgSub dto di) := .mk' (pg_sub ho.pe hi.pe set_list ha) (rg_sub ho.re hi.re)
def dNeg (ta : TD) : TD := fun ds μ Q => ta ds μ fun x μ1 => match x with
  | .int i => Q (.int (-i)) μ1
  | _ => False
theorem ed_neg (h : PED X a da) : PED X (.UnaryOp .USub a pos) (dNeg da) := .mk' (pe_un un_neg h.pe) (fun σ ds G F μ H Qd Q hs hw q kq => h.re σ ds G F μ H _ _ hs hw q fun x dx G1 μ1 H1 e1 w1 rx q1 => by
  split at q1
  · exact ⟨_, rx, (kq.up e1).here w1 (d := .int _) rfl q1⟩
  · exact q1.elim)
end
section
variable {P : Program} {w : World} {K : PySem.W.Frag} {mg : Str → Option Value} {base : Heap}
theorem defAt {x qual : Str} {st : Stmt} {N ps : List Str} {k : Nat} {PD : DP} {td : DS} (Hh : Here K mg x qual st ps) (S : FnScope N ps (defScope st)) (len : ∀ ds μ Q, PD ds μ Q → ds.length = ps.length)
    (body : ∀ (f : Addr) (cdv : Value) (A : Around) (outer : List Env) (s : Shared) (H : Hp) (E : XK), Room k (A.deeper (PyProof.Rows.envOfC qual (defScope st) s.heap.objs.size f cdv)) → PSSD (cxOf CX0 P w K mg base N qual (defScope st) f cdv A outer s H E).nox (defBody st) td)
    (rd : ∀ ds μ Q, PD ds μ Q → td { nx := fun _ μ' => GhQ Q .non μ', rt := GhQ Q } (startD N ds) μ) : DefAt P w K mg base x (k + 1) ps PD := by
  obtain ⟨f, fd, h1, h2, h3⟩ := Hh
  exact ⟨f, fd, h1, h2.kp, h3, okD h2 S len (body f) rd⟩
theorem methAt {m qual : Str} {C : Addr} {st : Stmt} {N ps : List Str} {k : Nat} {PD : DP} {td : DS} (Hh : HereM K C m qual st ps) (S : FnScope N ps (defScope st)) (len : ∀ ds μ Q, PD ds μ Q → ds.length = ps.length)
    (body : ∀ (f : Addr) (cdv : Value) (A : Around) (outer : List Env) (s : Shared) (H : Hp) (E : XK), Room k (A.deeper (PyProof.Rows.envOfC qual (defScope st) s.heap.objs.size f cdv)) → PSSD (cxOf CX0 P w K mg base N qual (defScope st) f cdv A outer s H E).nox (defBody st) td)
    (rd : ∀ ds μ Q, PD ds μ Q → td { nx := fun _ μ' => GhQ Q .non μ', rt := GhQ Q } (startD N ds) μ) : MethAt P w K mg base C m (k + 1) ps PD := by
  obtain ⟨f, fd, h1, h2, h3⟩ := Hh
  exact ⟨f, fd, h1, h3, okD h2 S len (body f) rd⟩
theorem makeAt {x qual : Str} {C : Addr} {st : Stmt} {N ps : List Str} {k : Nat} {PD : DP} {td : DS} (Hh : HereI K mg x C qual st ps) (S : FnScope N ps (defScope st)) (len : ∀ ds μ Q, PD ds μ Q → ds.length = ps.length)
    (body : ∀ (f : Addr) (cdv : Value) (A : Around) (outer : List Env) (s : Shared) (H : Hp) (E : XK), Room k (A.deeper (PyProof.Rows.envOfC qual (defScope st) s.heap.objs.size f cdv)) → PSSD (cxOf CX0 P w K mg base N qual (defScope st) f cdv A outer s H E).nox (defBody st) td)
    (rd : ∀ ds μ Q, PD ds μ Q → td { nx := fun _ μ' => GhQ Q .non μ', rt := GhQ Q } (startD N ds) μ) : MakeAt P w K mg base x C (k + 1) ps PD := by
  obtain ⟨h0, f, fd, h1, h2, h3⟩ := Hh
  exact ⟨h0, f, fd, h1, h3, okD h2 S len (body f) rd⟩
end
end DL
set_option Elab.async false
set_option linter.all false
set_option maxRecDepth 100000
set_option maxHeartbeats 3200000
/-! set(names), names a list of texts of any length. -/
namespace LS
open PySem PySem.Spec PyProof.Rows
/-- how many unlike ones are among the first i -/
def cntD (xs : List Str) : Nat → Nat
  | 0 => 0
  | i + 1 => if ((xs.take i).any (· == xs.getD i Str.empty)) = true then cntD xs i else cntD xs i + 1
theorem cntD_le (xs : List Str) : ∀ i, cntD xs i ≤ i
  | 0 => Nat.le_refl _
  | i + 1 => by
    have := cntD_le xs i
    unfold cntD
    split <;> omega
section
variable {prog : Program} {w : World} {A : Around} {I S : Addr} {fp wr : List Addr} {G : Array GenState → Array GenState → Prop} {m : Nat} {P : Nat → Value → Prop} {St : Nat → Shared → Prop}
theorem grow (W : WalksS prog w A.in1 I fp wr G m P St) (hS : S ∉ fp) (xs : List Str) (few : m + 1 < scanBound) (txt : ∀ i v, P i v → ∃ t, v = .str (xs.getD i Str.empty) t) (lx : xs.length = m) {R : Result → Shared → Prop} :
    ∀ (left i : Nat) (z : Shared), i + left = m → St i z → z.heap.SetOf (PySem.strKind prog w) S (fun y => (xs.take i).any (· == y)) (cntD xs i) →
      (∀ z', Moved (S :: wr) G z z' → z'.heap.SetOf (PySem.strKind prog w) S (fun y => (xs.take m).any (· == y)) (cntD xs m) → R (.ok (.ret .none)) z') →
      codeAny (model prog w) A (.builtin "set.update.loop" ⟨[.ref S, .ref I], []⟩) R z := by
  have nw : S ∉ wr := fun q => hS (W.sub _ q)
  have inc : ∀ b ∈ wr, b ∈ S :: wr := fun b q => List.mem_cons_of_mem _ q
  intro left
  induction left with
  | zero =>
    intro i z e at_ set_ done
    have e2 : i = m := by omega
    rw [e2] at at_ set_
    refine codeAny_builtin PyProof.Rows.F.entry_set_update_loop ?_
    rw [Around.under_plainId PyProof.Rows.F.plain_set_update_loop _]
    refine wpAny_bind (m := pyNext (.ref I)) (W.done z _ _ at_ fun z' mv => wpAny_pure (done z' (mv.mono inc) ?_))
    obtain ⟨ob, es, ep, tb, ho, r⟩ := set_
    exact ⟨ob, es, ep, tb, mv.heap S _ nw ho, r⟩
  | succ left ih =>
    intro i z e at_ set_ done
    have lt : i < m := by omega
    refine codeAny_builtin PyProof.Rows.F.entry_set_update_loop ?_
    rw [Around.under_plainId PyProof.Rows.F.plain_set_update_loop _]
    refine wpAny_bind (m := pyNext (.ref I)) (W.item i z _ _ lt at_ fun v z' hv at2 mv => ?_)
    obtain ⟨t, rfl⟩ := txt i v hv
    have set2 : z'.heap.SetOf (PySem.strKind prog w) S (fun y => (xs.take i).any (· == y)) (cntD xs i) := by
      obtain ⟨ob, es, ep, tb, ho, r⟩ := set_
      exact ⟨ob, es, ep, tb, mv.heap S _ nw ho, r⟩
    refine wpAny_bind (m := holding [Value.str (xs.getD i Str.empty) t] (setAdd S (.str (xs.getD i Str.empty) t))) (wpAny_holding ?_)
    unfold setAdd
    refine wpAny_holding (wpAny_bind ((PySem.strKind prog w).pyHash (k := xs.getD i Str.empty) (strKind_is _ _ _ _) ?_))
    have room : cntD xs i + 1 < scanBound := by have := cntD_le xs i; omega
    refine wpAny_setAddHashed_of (knd := PySem.strKind prog w) (s := { z' with toks := z'.toks + 1 }) (strKind_is _ _ _ _) rfl set2 room fun h' but set3 => ?_
    have set4 : h'.SetOf (PySem.strKind prog w) S (fun y => (xs.take (i + 1)).any (· == y)) (cntD xs (i + 1)) := by
      refine SetOf_congr set3 (fun y => ?_) ?_
      · have hi : i < xs.length := by omega
        rw [List.take_succ_eq_append_getElem hi, List.any_append]
        have g : xs.getD i Str.empty = xs[i] := by simp [List.getD, hi]
        rw [g]
        congr 1
        simp only [List.any_cons, List.any_nil, Bool.or_false]
        by_cases q : y = xs[i]
        · subst q; simp
        · have q2 : (xs[i] == y) = false := beq_eq_false_iff_ne.mpr fun w => q w.symm
          rw [q2]; simp [q]
      · rfl
    refine wpAny_pure ⟨plainId_quiet PyProof.Rows.F.plain_set_update_loop _, ih (i + 1) _ (by omega) (W.frame _ z' _ _ at2 (Nat.le_succ _) fun b hb o q => ?_) set4 fun z2 mv2 fin => ?_⟩
    · rw [but.2 b (fun w : b = S => hS (w ▸ hb))]; exact q
    · refine done z2 (Moved.trans W.gtrans ((mv.mono inc).then_heap (Nat.le_succ _) fun b o hb q => ?_) mv2) fin
      rw [but.2 b (fun w : b = S => hb (w ▸ List.mem_cons_self))]; exact q
end
section
variable {prog : Program} {w : World} {A : Around} {E : Value → Shared → Prop} {z : Shared}
theorem set_of_list {l : Addr} {items : Array Value} {xs : List Str} {Q : Value → Shared → Prop} (none_held : A.handled = none) (at_l : z.heap.IsList l items) (txts : PyProof.Rows.StrsAre items.toList xs) (few : items.size + 1 < scanBound)
    (fin : ∀ (h' : Heap) (tk : Nat), h'.SetOf (PySem.strKind prog w) z.heap.objs.size (fun y => (xs.take items.size).any (· == y)) (cntD xs items.size) → (∀ b o, b < z.heap.objs.size → z.heap.get? b = some o → h'.get? b = some o) → Q (.ref z.heap.objs.size) { z with heap := h', toks := tk }) :
    wpAny (model prog w) A (call (.type "set") [.ref l]) Q E z := by
  obtain ⟨c0, tl0, mro0⟩ := PySem.F.called_set.mro
  have g1 := PySem.F.called_set.made
  have g2 := PySem.F.called_set.sub
  have g3 := PySem.F.called_set.notType
  have g4 := PySem.F.called_set.canCreate
  have g5 := PySem.F.typeCall_set_1 (.ref l)
  refine wpAny_call (codeAny_of_tree (show wpAny _ _ (callAny (.type "set") _) _ _ _ from wpAny_pure ⟨Code.quiet_builtin _ (by decide +kernel), codeAny_builtin PySem.F.entry_type_call ?_⟩))
  rw [Around.under_plain (weight_type_call_type "set" [.ref l] []) rfl]
  repeat (any_goals (first | assumption | wp_step))
  refine codeAny_mono (code_set_new_1 (.ref l) (E := E) (Q₁ := fun ob z1 => ∃ led : Bool, ob = .ref z.heap.objs.size ∧ z1 = { z with heap := z.heap.push { cls := .type "set", dict := none, data := .set #[] 0 (.fresh 0 0 led) } }) fun led => ⟨led, rfl, rfl⟩) fun res z1 got => ?_
  rcases res with er | (ob | _ | _ | _) <;> first | exact got | exact got.elim | skip
  obtain ⟨led, rfl, rfl⟩ := got
  have atS : (z.heap.push { cls := .type "set", dict := none, data := .set #[] 0 (.fresh 0 0 led) }).get? z.heap.objs.size = some { cls := .type "set", dict := none, data := .set #[] 0 (.fresh 0 0 led) } := Heap.get?_push_size _ rfl
  have isS : Shared.TypeIs { z with heap := z.heap.push { cls := .type "set", dict := none, data := .set #[] 0 (.fresh 0 0 led) } } (.ref z.heap.objs.size) "set" := ⟨_, atS, rfl⟩
  have g6 := PySem.F.called_set.init.lookup
  have g7 := PySem.F.called_set.init.bind (.ref z.heap.objs.size)
  repeat (any_goals (first | assumption | wp_step))
  refine codeAny_mono (codeAny_call_builtin (R := wants (fun r z2 => r = .none ∧ ∃ h' tk, z2 = { z with heap := h', toks := tk } ∧ h'.SetOf (PySem.strKind prog w) z.heap.objs.size (fun y => (xs.take items.size).any (· == y)) (cntD xs items.size) ∧
      (∀ b o, b < z.heap.objs.size → z.heap.get? b = some o → h'.get? b = some o)) E) PySem.F.called_set.init.plain PySem.F.entry_set_init (check_set_init_1 isS ?_)) fun res2 z2 got2 => ?_
  · obtain ⟨⟨_, odict, odata, oslots⟩, hol, hcl, nl, hdl⟩ := at_l
    simp only at hcl hdl
    subst hcl; subst hdl
    have here : (z.heap.push { cls := .type "set", dict := none, data := .set #[] 0 (.fresh 0 0 led) }).get? l = some { cls := .type "list", dict := odict, data := .seq items nl, slots := oslots } := Heap.get?_push_of_some _ hol
    have s1 := PySem.F.sub_list_set
    have s2 := PySem.F.sub_list_frozenset
    have s3 : (Value.type "list" == Value.type "dict") = false := by decide
    have isL : (z.heap.push { cls := .type "set", dict := none, data := .set #[] 0 (.fresh 0 0 led) }).IsList l items := ⟨_, here, rfl, nl, rfl⟩
    unfold Builtin.«set.__init__» noKeywords Builtin.Frozenset.updateFrom
    generalize pit : pyIter = PI
    wp_walk
    subst pit
    refine wpAny_pyIter_list isL (wpAny_bind (wpAny_runValue ?_))
    have lS : l < z.heap.objs.size := Heap.lt_size hol
    have hh3 : A.in1.in1.in1.handled = none := by simp [none_held]
    have size1 : (z.heap.push { cls := .type "set", dict := none, data := .set #[] 0 (.fresh 0 0 led) }).objs.size = z.heap.objs.size + 1 := Heap.size_push _ _
    have lI : l ≠ (z.heap.push { cls := .type "set", dict := none, data := .set #[] 0 (.fresh 0 0 led) }).objs.size := by
      rw [size1]; exact Nat.ne_of_lt (Nat.lt_succ_of_lt lS)
    have notIn : z.heap.objs.size ∉ [(z.heap.push { cls := .type "set", dict := none, data := .set #[] 0 (.fresh 0 0 led) }).objs.size, l] := by
      rw [size1]; simp only [List.mem_cons, List.mem_singleton, List.not_mem_nil, or_false, not_or]
      exact ⟨Nat.ne_of_lt (Nat.lt_succ_self _), Nat.ne_of_gt lS⟩
    have lx : xs.length = items.size := by rw [← StrsAre.len_eq txts, Array.length_toList]
    refine grow ((Walks.list hh3 _ l lI items).toS) notIn xs few (fun i v hv => SS.strs_at txts i v (by rw [Array.getElem?_toList]; exact hv)) lx items.size 0 _ (by omega) ⟨⟨_, Heap.get?_push_size _ rfl, rfl, rfl⟩, (isL.push _)⟩ ?first ?last
    case first =>
      have atS2 : ((z.heap.push { cls := .type "set", dict := none, data := .set #[] 0 (.fresh 0 0 led) }).push { cls := .type "list_iterator", data := .fields #[.ref l, .int 0 0] }).get? z.heap.objs.size = some { cls := .type "set", dict := none, data := .set #[] 0 (.fresh 0 0 led) } := Heap.get?_push_of_some _ atS
      exact PyProof.Rows.SetOf_congr ((PyProof.Rows.setObjOf_fresh (knd := PySem.strKind prog w) led).setOf atS2 (by unfold scanBound; omega)) (fun _ => rfl) rfl
    case last =>
      rintro ⟨h', g', d', tk', os'⟩ mv set_
      obtain rfl : g' = z.gens := mv.gens
      obtain rfl : d' = z.drawn := mv.drawn
      obtain rfl : os' = z.os := mv.os
      refine wpAny_pure (wpAny_pure ⟨rfl, h', tk', rfl, set_, fun b o hb q => ?_⟩)
      refine mv.heap b o ?_ (Heap.get?_push_of_some _ (Heap.get?_push_of_some _ q))
      rw [size1]; simp only [List.mem_cons, List.mem_singleton, List.not_mem_nil, or_false, not_or]
      exact ⟨Nat.ne_of_lt hb, Nat.ne_of_lt (Nat.lt_succ_of_lt hb)⟩
  · rcases res2 with er | (r | _ | _ | _) <;> first | exact got2 | exact got2.elim | skip
    obtain ⟨rfl, h', tk, rfl, set_, keep_⟩ := got2
    repeat (any_goals (first | assumption | wp_step))
    exact fin _ _ set_ keep_
end
end LS
set_option Elab.async false
set_option linter.all false
set_option maxRecDepth 100000
set_option maxHeartbeats 1000001
/-! enumerate(xs, start=k), k a number in the text. -/
namespace L2
open PySem PySem.Spec PyProof.Rows
theorem type_kw {M : Model} {A : Around} {E : Value → Shared → Prop} {s : Shared} {pos : Pos} {T : String} {args : List (Bool × Sem Value)} {keywords : List (Option Str × Sem Value)} {Q : Value → Shared → Prop}
    (pl : args.any (·.1) = false) (nk : keywords.any (·.1.isNone) = false) (h : wpAny M A (evalArgs (.type T) true args keywords) (fun a s₁ => wpAny M A (call (.type T) a.pos a.kw) Q E s₁) E s) : wpAny M A (callWith pos (.type T) [] args keywords) Q E s := by
  unfold callWith
  refine wpAny_bind (wpAny_holding (wpAny_mono h (fun a s₁ h₁ => wpAny_bind (wpAny_standAt ?_)) fun _ _ x => x))
  simp only [pl, nk, Bool.or_false]
  refine wpAny_bind (wpAny_pure ?_)
  exact wpAny_bind (wpAny_mono h₁ (fun r s₂ hr => wpAny_bind (wpAny_holding (wpAny_point (wpAny_pure hr)))) fun _ _ x => x)
/-- the list at a, each item in a new pair, counted from k -/
def ItK (K : PySem.W.Frag) (k : Int) (a : Addr) : It :=
  ⟨fun i H => ∃ (xs : List V) (x : V), SqL K H a xs ∧ xs[i]? = some x, fun i H v H' => ∃ T x, v = .ref T ∧ H T = none ∧ H' = upd H T (.tup [.int (k + (i : Nat)), x]) ∧ ∀ xs, SqL K H a xs → xs[i]? = some x, fun i H => ∃ xs : List V, SqL K H a xs ∧ xs.length ≤ i⟩
theorem turn_enumK {P : Program} {w : World} {K : PySem.W.Frag} {elts : List Expr} {kk : Nat} {tpos : Pos} (k : Int) (a e it : Addr) :
    Turn P w K (.Tuple elts kk tpos) (ItK K k a) [e, it] e (fun i h => (∃ old, IsEnum h e it (k + ((i : Nat) : Int)) old) ∧ h.IsListIter it a i ∧ e ≠ it ∧ a ≠ it ∧ a ≠ e) where
  mem := by simp
  obj := fun i h st b hb => by
    obtain ⟨⟨old, he⟩, ⟨o, ho, hc, hd⟩, _⟩ := st
    rcases (show b = e ∨ b = it by simpa using hb) with z | z
    · rw [z]; exact ⟨_, he, fun v q => nomatch q⟩
    · rw [z]; exact ⟨o, ho, fun v q => by rw [hd] at q; cases q⟩
  keep := fun i h h' st q => let ⟨⟨old, he⟩, hi, n1, n2⟩ := st; ⟨⟨old, q e (by simp) _ he⟩, hi.at fun o r => q it (by simp) o r, n1, n2⟩
  item := by
    intro X hP hw hK hc i pins s σ H E I hf st hg
    subst hP hw hK
    obtain ⟨⟨old, he⟩, hit, ne, na, nae⟩ := st
    obtain ⟨xs, x, hq, hx⟩ := hg
    obtain ⟨its, rv, p, hz⟩ := I.list hq
    obtain ⟨u, hu, ru⟩ := rv.get hx
    have hel : e < s.heap.objs.size := Heap.lt_size he
    have hil : it < s.heap.objs.size := by obtain ⟨_, q, _⟩ := hit; exact Heap.lt_size q
    have lt : i < its.toArray.size := by
      have := (List.getElem?_eq_some_iff.mp hu).1
      simpa using this
    refine wpAny_pyNext_enum_itemC (Draws.list (A := X.A.in1) (by simpa using I.ok.hd hc) it a na its.toArray) he ⟨hit, p.isList⟩ lt ne (by simp only [List.mem_cons, List.mem_singleton, List.not_mem_nil, or_false, not_or]; exact ⟨ne, Ne.symm nae⟩) fun x' h' tk hx' ho hst hT hsz hk => ?_
    have eu : x' = u := by
      have y : its[i]? = some x' := by rw [← Array.getElem?_toList] at hx'; simpa using hx'
      rw [hu] at y
      exact (Option.some.inj y).symm
    subst eu
    obtain ⟨hit', _⟩ := hst
    refine ⟨_, rfl, wpAny_letOwnedTupleGo_enum (s := { s with heap := h', toks := tk + 1 }) ho fun h'' he' sb => ?_⟩
    have hT2 : h''.get? s.heap.objs.size = some { cls := .type "tuple", data := .seq #[.int (k + (i : Int)) tk, x'] } := (sb.2 _ (Nat.ne_of_gt hel)).trans hT
    have new : ObjOk X.prog X.w (upd H s.heap.objs.size (.tup [.int (k + (i : Nat)), x])) h'' s.heap.objs.size (.tup [.int (k + (i : Nat)), x]) :=
      ⟨by show 2 ≤ sizeLine; decide, [.int (k + (i : Int)) tk, x'], .cons ⟨_, rfl⟩ (.cons ru .nil), ⟨_, hT2, rfl, _, rfl⟩⟩
    have I1 : Inv X pins σ (upd H s.heap.objs.size (.tup [.int (k + (i : Nat)), x])) { s with heap := h'', toks := tk + 1 } :=
      I.turnedNew (ch := [e, it]) (fun b ob hb q => (sb.2 b (fun z => hb (by simp [z]))).trans (hk b ob (fun z => hb (by simp [z])) (fun z => hb (by simp [z])) q)) hf (Nat.le_refl _) new
    refine ⟨.ref s.heap.objs.size, _, I1, rfl, ⟨_, x, rfl, I.hok.fresh (Nat.le_refl _), rfl, fun ys hy => by rw [I.list_inj hy hq]; exact hx⟩, ⟨⟨x', ?_⟩, hit'.at fun o q => (sb.2 it (Ne.symm ne)).trans q, ne, na, nae⟩, fun b hb => ?_⟩
    · have e1 : k + ((i + 1 : Nat) : Int) = k + (i : Int) + 1 := by omega
      rw [e1]; exact he'
    · have hb' : b < s.heap.objs.size := by
        rcases (show b = e ∨ b = it by simpa using hb) with z | z
        · rw [z]; exact hel
        · rw [z]; exact hil
      rw [upd_ne (Nat.ne_of_lt hb')]
      exact (hf b hb).1
  done := by
    intro X hP hw hK hc i pins s σ H E I hf st hg
    subst hP hw hK
    obtain ⟨⟨old, he⟩, hit, ne, na, nae⟩ := st
    obtain ⟨xs, hq, hx⟩ := hg
    obtain ⟨its, rv, p, hz⟩ := I.list hq
    obtain ⟨f0, f1, f2, f3, f4, f5⟩ := hf it (by simp)
    have over : its.toArray[i]? = none := by
      have := rv.length
      exact Array.getElem?_eq_none (by simp; omega)
    have D : Draws X.prog X.w X.A.in1 it [it, a] i (fun _ _ => True) (fun j h => j = i ∧ h.IsListIter it a i ∧ h.IsList a its.toArray) :=
      { live := fun _ _ st => let ⟨o, ho, _⟩ := st.2.1; ⟨o, ho⟩
        frame := fun _ _ _ st q => ⟨st.1, st.2.1.at fun o r => q it (by simp) o r, st.2.2.at fun o r => q a (by simp) o r⟩
        item := fun j z Q E lt st hQ => absurd st.1 (by omega)
        done := fun z Q E st hE => wpAny_nextOf_list_end (by simpa using I.ok.hd hc) st.2.1 st.2.2 over hE }
    exact wpAny_pyNext_enum_endD D he ⟨rfl, hit, p.isList⟩ fun h' eb => ⟨rfl, I.turned (t' := s.toks) (fun b o hb q => eb b o hb q) f0 f1 f3 f4 f5⟩
  self := fun A i s Q E st h => let ⟨⟨_, he⟩, _⟩ := st; wpAny_pyIter_enum he h
def iEnumK (K : PySem.W.Frag) (k : Int) (ta : TA) : TI := fun σ H R => ta σ H fun vs H1 => ∃ a xs, vs = [.ref a] ∧ SqL K H1 a xs ∧ R (ItK K k a) H1
theorem pi_enumK {X : Cx} {e : Expr} {ta : TA} {p pos tpos p1 p2 : Pos} {elts : List Expr} {kk j : Nat} {k : Int} (h0 : -(2 ^ 63) ≤ k) (h1 : k < 2 ^ 63) (hg : Gl X "enumerate") (hm : X.mg "enumerate" = none) (ha : PA X [e] ta) (hs : starEach [e] X.env = [(false, eval e X.env)] := by rfl) :
    PI X (.Tuple elts kk tpos) (.Call (.Name "enumerate" p) [e] [⟨some "start", .Constant (.int k) j p1, p2⟩] pos) (iEnumK X.K k ta) := by
  refine ⟨fun pins s σ H R I h => ?_⟩
  refine wpAny_Call_Name_kw (ld_blt I hg hm boot_enumerate (type_kw (by rw [hs]; rfl) (by rfl) ?_))
  have go : wpAny (model X.prog X.w) X.A (spliced (backTo pos (starEach [e] X.env))) (fun us s1 => wpAny (model X.prog X.w) X.A (evalAll ((backToKw pos (keywordEach [⟨some "start", .Constant (.int k) j p1, p2⟩] X.env)).map (·.2)))
      (fun ws s2 => wpAny (model X.prog X.w) X.A (call (.type "enumerate") us ((["start"] : List Str).zip ws)) (fun v s1 => wpAny (model X.prog X.w) X.A (pyIter v) (PIE X pins σ (.Tuple elts kk tpos) R) X.xe s1) X.xe s2) X.xe s1) X.xe s := by
    refine thn (ha.run pos pins s σ H _ I h) fun us s1 ⟨vs, H1, I1, r1, a, xs, ex, hq, q⟩ => ?_
    subst ex
    cases r1 with
    | cons r rr =>
      cases rr
      cases r
      refine PyProof.Rows.kws_cons (wpAny_Constant_int (PyProof.Rows.kws_nil ?_))
      have I2 : Inv X pins σ H1 { s1 with toks := s1.toks + 1 } := I1.tok _
      obtain ⟨its, rv, p', hz⟩ := I2.list hq
      have al : a < s1.heap.objs.size := by
        obtain ⟨o, ho, _⟩ := p'.isList
        exact Heap.lt_size ho
      refine enum_begins_start (begins_list a its.toArray) p'.isList h0 h1 fun h' he hit hsz hk => wpAny_pyIter_enum he ?_
      have I3 : Inv X pins σ H1 { s1 with heap := h', toks := s1.toks + 1 } := I2.kept (t' := s1.toks + 1) hk
      have e0 : k = k + ((0 : Nat) : Int) := by omega
      refine ⟨s1.heap.objs.size + 1, [s1.heap.objs.size + 1, s1.heap.objs.size], _, _, H1, rfl, I3, turn_enumK k a (s1.heap.objs.size + 1) s1.heap.objs.size, ⟨⟨.none, by rw [← e0]; exact he⟩, ⟨_, hit, rfl, rfl⟩, Nat.succ_ne_self _, Nat.ne_of_lt al, Nat.ne_of_lt (Nat.lt_succ_of_lt al)⟩, fun b hb => ?_, q⟩
      have hle : s1.heap.objs.size ≤ b := by
        rcases (show b = s1.heap.objs.size + 1 ∨ b = s1.heap.objs.size by simpa using hb) with z | z
        · rw [z]; exact Nat.le_add_right _ _
        · rw [z]; exact Nat.le_refl _
      exact I2.fpOk hle (I2.hok.fresh hle)
  rw [hs] at go ⊢
  exact PyProof.Rows.evalArgs_kwB (by rfl) go
end L2
set_option Elab.async false
set_option linter.all false
set_option maxRecDepth 100000
set_option maxHeartbeats 1000001
/-! A kept error: its class, its fields. -/
namespace BTX
open PySem PySem.W PySem.Spec PySem.Calls PyProof.Rows
section
variable {prog : Program} {w : World} {A : Around} {E : Value → Shared → Prop} {s : Shared} {K : Frag} {x D : Addr} {ox : Obj} {od : Option Obj}
theorem clsOf_own (T : L2.ExcC K D) : findObj K D od "__class__" = some (.bind (.builtin "getset_descriptor.__get__") (.builtin "object.__class__")) := by
  obtain ⟨cd, hc, _⟩ := any_some T.hd
  unfold findObj
  rw [hc, Option.bind_some, T.ha, Option.bind_some]
  simp [T.hn, T.ht]
theorem ask_class {Q : Option Value → Shared → Prop} (T : L2.ExcC K D) (X : K.In s.heap) (I : InstAt s.heap x ox D od) (h : Q (some (.ref D)) { s with toks := s.toks + 1 }) : wpAny (model prog w) A (getAttr? (.ref x) "__class__") Q E s := by
  have fo : findObj K D od "__class__" = _ := clsOf_own T
  obtain ⟨hp, gg, dr, tk, oo⟩ := s
  have M0 := I.type (M := model prog w)
  have M1 := looks_findIn (M := model prog w) X T.hg
  have M2 := looks_findIn (M := model prog w) X T.hk
  have M3 := looks_find (M := model prog w) X I fo
  have below : Looks (model prog w) hp (isInstance (.ref x) (.type "BaseException")) true := M0.andThen (looks_subIn X T.hs)
  have b0 : (false && onTheHeap (Value.builtin "BaseException.__getattribute__")) = false := rfl
  have b2 : (Value.builtin "BaseException.__getattribute__" == Value.builtin "object.__getattribute__") = false := by decide +kernel
  have b1 : (onTheHeap (Value.ref D) && Value.builtin "BaseException.__getattribute__" == Value.builtin "object.__getattribute__") = false := by rw [b2]; rfl
  unfold getAttr? getAttrBy? getAttrBy
  refine wpAny_bind (wpAny_mkText (wpAny_bind (wpAny_attempt (wpAny_holding (wpAny_bind (M0.at (wpAny_bind (M1.at ?_))))))))
  show wpAny _ _ (if (onTheHeap (Value.ref D) && Value.builtin "BaseException.__getattribute__" == Value.builtin "object.__getattribute__") = true then _ else _) _ _ _
  rw [b1, if_neg Bool.false_ne_true]
  unfold getAttrByItsOwn hookBefore
  refine wpAny_bind ?_
  rw [if_pos (show onTheHeap (Value.ref D) = true from rfl)]
  refine M2.at (wpAny_bind (wpAny_attempt (wpAny_holding ?_)))
  unfold callGetattribute
  rw [b0, if_neg Bool.false_ne_true]
  unfold boundAndCalled
  rw [PySem.F.excAttr_ValueError.ga.bind (.ref x)]
  refine wpAny_bind (wpAny_pure ?_)
  show wpAny _ _ (call (.builtin "BaseException.__getattribute__") [.ref x, .str "__class__" tk]) _ _ _
  refine wpAny_call (codeAny_call_builtin PySem.F.excAttr_ValueError.ga.plain PySem.F.entry_bexc_ga ?_)
  refine @check_slot (model prog w) _ _ ⟨hp, gg, dr, tk + 1, oo⟩ "BaseException.__getattribute__" "BaseException" "__getattribute__" (.ref x) [.str "__class__" tk] [] _ (by decide +kernel) (by decide +kernel) below (PySem.F.args_bexc_ga (.ref x) (.str "__class__" tk)) ?_
  unfold Builtin.«object.__getattribute__»
  refine wpAny_bind (wpAny_of_eq (a := ((Value.ref x : Value), [Value.str "__class__" tk])) (by first | rfl | (simp only [slotArgs]; rfl)) ?_)
  refine wpAny_bind (wpAny_pure (wpAny_bind (M0.at (wpAny_bind (M3.at ?_)))))
  show wpAny _ _ (holding [Value.builtin "object.__class__"] (call (.builtin "getset_descriptor.__get__") [.builtin "object.__class__", .ref x, .ref D]) >>= ret) _ _ _
  refine wpAny_bind (wpAny_holding (wpAny_call (class_get (s := ⟨hp, gg, dr, tk + 1, oo⟩) (ox := ox) (od := od) X I T.hm ?_)))
  refine wpAny_pure ?_
  show wpAny _ _ (handedOut (.ref D)) _ _ _
  rw [handedOut_of (v := .ref D) rfl]
  first
    | exact wpAny_pure (wpAny_pure h)
    | exact wpAny_pure h
    | exact wpAny_pure (wpAny_bind (wpAny_pure (wpAny_pure h)))
theorem kit_kept (T : L2.ExcC K D) : KitX K (.ref x) (.ref D) (fun h => ∃ ox od, InstAt h x ox D od) where
  ty := fun _ _ _ ⟨_, _, I⟩ => I.type
  it := fun _ _ X _ => by
    obtain ⟨cd, hc, _⟩ := any_some T.hd
    unfold clsIn at hc
    split at hc
    · rename_i hcl
      intro A Q E s k q
      unfold isType loadHead
      exact wpAny_bind (wpAny_loadPart (k _ _ (X _ _ hcl)) (wpAny_pure q))
    · cases hc
  ne := (PySem.W.handS_kitx_exc (K := K) (x := x) (D := D) (ox := excRec (.ref D) 0 none .none .none .none) T.hg T.hk T.hs T.hd T.ha T.hn T.ht T.hm).ne
  ca := fun X ⟨_, _, I⟩ k => ask_class T X I k
end
end BTX
namespace L2
open PySem PySem.Spec PyProof.Rows
/-- a kept error stands at a -/
def KeptAt (H : Hp) (a C : Addr) : Prop := ∃ d, H a = some (XT (.ref C) d a) ∧ (d = none ∨ ∃ dd fs, d = some dd ∧ H dd = some (.xd fs))
section
variable {X : Cx} {pins : List (Addr × Obj)} {σ : St} {H : Hp} {s : Shared}
theorem KeptAt.inst {a C : Addr} (I : Inv X pins σ H s) (h : KeptAt H a C) : ∃ ox od, PySem.W.InstAt s.heap a ox C od := by
  obtain ⟨d, h1, h2⟩ := h
  obtain ⟨oe, vs, e, z, dd⟩ := xt_at (I.hok a _ h1)
  have nc : PySem.W.notCls oe = true := by unfold PySem.W.notCls; rw [dd] <;> rfl
  rcases h2 with rfl | ⟨b, fs, rfl, h2⟩
  · exact ⟨oe, none, e, z.1, nc, by rw [z.2]; trivial⟩
  · obtain ⟨mA, ⟨o, es, ep, ho, hr⟩, _⟩ := (show ObjOk X.prog X.w H s.heap b (.xd fs) from I.hok b _ h2)
    exact ⟨oe, some o, e, z.1, nc, by rw [z.2]; exact ho⟩
end
/-- isinstance(e, c), e a kept error -/
def rIsX (K : PySem.W.Frag) : List V → Hp → VK → Prop := fun xs H Q => ∃ (a C : Addr) (c : V) (u : Value) (b : Bool), xs = [.ref a, c] ∧ ClsV c u ∧ KeptAt H a C ∧ ExcC K C ∧ PySem.W.kitOne K (.ref C) u = some b ∧ Q (.bl b) H
theorem call_isX {X : Cx} : CallR X (.builtin "isinstance") (rIsX X.K) := by
  intro pins s σ H xs us Q I r h
  obtain ⟨a, C, c, u, b, rfl, k, kept, T, e, q⟩ := h
  obtain ⟨u1, u2, rfl, r1, r2⟩ := vals2 r
  have e2 := k.eq r2
  subst e2
  cases r1
  obtain ⟨ox, od, J⟩ := kept.inst I
  exact PySem.W.kia_one (BTX.kit_kept T) I.kIn ⟨ox, od, J⟩ e (fun z => nomatch z) fun tk => ⟨.bl b, H, I.tok tk, rfl, q⟩
/-- e.f, e a kept error -/
def tKept (K : PySem.W.Frag) (f : Str) (te : TE) : TE := fun σ H Q => te σ H fun x H1 => ∃ (a C dd : Addr) (fs : List (Str × V)) (v : V), x = .ref a ∧ H1 a = some (XT (.ref C) (some dd) a) ∧ H1 dd = some (.xd fs) ∧ XfC K C ∧ PySem.W.findIn K (.ref C) f = some none ∧ fs.lookup f = some v ∧ Q v H1
theorem pe_kept {X : Cx} {e : Expr} {te : TE} {pos : Pos} {n : Str} (he : PE X e te) (hb : attributeBase e n X.env (eval e X.env) = eval e X.env := by rfl) : PE X (.Attribute e n pos) (tKept X.K n te) := by
  refine ⟨fun pins s σ H Q I h => ?_⟩
  refine attr_of hb (thn (he.run pins s σ H _ I h) fun u s1 hh => ?_)
  obtain ⟨x, H1, I1, rx, a, C, dd, fs, v, ex, h1, h2, T, hno, l, q⟩ := hh
  subst ex
  obtain rfl : u = Value.ref a := rx
  obtain ⟨oe, vs, e1, z, d1⟩ := xt_at (I1.hok a _ h1)
  obtain ⟨mA, hns, hr⟩ := (show ObjOk X.prog X.w H1 s1.heap dd (.xd fs) from I1.hok dd _ h2)
  obtain ⟨o2, ho, hl⟩ := lookIn_ns hns
  obtain ⟨u, hu, ru⟩ := RelO.some_of (v := v) (o := mA n) (by rw [← l]; exact hr n)
  have J : PySem.W.InstAt s1.heap a oe C (some o2) := ⟨e1, z.1, by unfold PySem.W.notCls; rw [d1] <;> rfl, by rw [z.2]; exact ho⟩
  exact HandSPX.exc_get I1.kIn J T.ga T.gg T.exC (PySem.W.findObj_own T.hdC hno rfl (by rw [hl, hu])) (handed_of ru) ⟨v, H1, I1.tok _, ru, q⟩
end L2
set_option Elab.async false
set_option linter.all false
set_option maxRecDepth 100000
set_option maxHeartbeats 1000001
namespace L2
open PySem PySem.Spec PyProof.Rows
/-- len(set(xs)), xs a list of texts -/
def tLenSetN (K : PySem.W.Frag) (ta : TE) : TE := fun σ H Q => ta σ H fun x H1 => ∃ (l : Addr) (xs : List Str), x = V.ref l ∧ SqL K H1 l (xs.map V.str) ∧ xs.length ≤ 1000 ∧ Q (.int (LS.cntD xs xs.length)) H1
theorem txts_of : ∀ {xs : List Str} {us : List Value}, Vals (xs.map V.str) us → PyProof.Rows.StrsAre us xs
  | [], _, .nil => .nil
  | y :: ys, _, .cons r t => by
    obtain ⟨k, rfl⟩ := r
    exact .cons y k (txts_of t)
theorem pe_lenSetN {X : Cx} {a : Expr} {ta : TE} {p p2 q pos : Pos} (hc : X.calm = true) (hg : Gl X "len") (hm : X.mg "len" = none) (hg2 : Gl X "set") (hm2 : X.mg "set" = none) (ha : PE X a ta)
    (na : starEach [a] X.env = (false, eval a X.env) :: starEach [] X.env := by rfl) : PE X (.Call (.Name "len" p) [.Call (.Name "set" p2) [a] [] q] [] pos) (tLenSetN X.K ta) := by
  refine ⟨fun pins s σ H Q I h => ?_⟩
  refine Call_ (ld_blt I hg hm boot_len (PyProof.Rows.callWith_builtin1 (PyProof.Rows.args_cons ?_ rfl) rfl rfl))
  refine Call_ (ld_blt I hg2 hm2 PyProof.Rows.boot_set (PyProof.Rows.callWith_type1 (PyProof.Rows.args_cons (thn (ha.run pins s σ H _ I h) fun v s1 ⟨x, H1, I1, r1, q1⟩ => PyProof.Rows.args_nil ?_) na) na rfl))
  obtain ⟨l, xs, rfl, hq, few, q1⟩ := q1
  cases r1
  obtain ⟨its, r, pl, _⟩ := I1.list hq
  have size_ : its.toArray.size = xs.length := by rw [List.size_toArray, ← r.length, List.length_map]
  refine LS.set_of_list (I1.ok.hd hc) pl.isList (xs := xs) (by simpa using txts_of r) (by rw [size_]; unfold scanBound; omega) fun h' tk st keeps_ => PyProof.Rows.args_nil ?_
  rw [size_] at st
  obtain ⟨o, es, ep, t, ho, hex, hd, _, _, _, hf, hn⟩ := st
  have I2 : Inv X pins σ H1 { s1 with heap := h', toks := tk } := I1.kept fun b o e => keeps_ b o (Heap.lt_size e) e
  have := LS.cntD_le xs xs.length
  exact call_len_set ho hex hd hf (by rw [hn]; omega) ⟨.int (LS.cntD xs xs.length), H1, I2.tok _, ⟨_, by rw [hn]⟩, q1⟩
end L2
namespace DL
open PySem L2
/-! ### len(set(names)) -/
def dLenSet (ta : TD) : TD := fun ds μ Q => ta ds μ fun x μ1 => ∃ xs : List Str, LstAt μ1 x (xs.map .str) ∧ xs.length ≤ 1000 ∧ Q (.int (LS.cntD xs xs.length)) μ1
theorem re_lenSet {K : PySem.W.Frag} {te : TE} {td : TD} (h : RE K te td) : RE K (tLenSetN K te) (dLenSet td) := fun σ ds G F μ H Qd Q hs hw q kq =>
  h σ ds G F μ H _ _ hs hw q fun v d G1 μ1 H1 e1 w1 r q1 => by
    obtain ⟨xs, l, few, q1⟩ := q1
    obtain ⟨a, vs, rfl, h2, h3⟩ := l.h w1 r
    have := h3.strs
    subst this
    exact ⟨a, xs, rfl, SqL.of h2, few, (kq.up e1).here w1 (d := .int _) rfl q1⟩
/-! ### isinstance -/
inductive TyD (μ : Mu) : D → Value → Prop where
  | non : TyD μ .non (.type "NoneType")
  | bl (b : Bool) : TyD μ (.bl b) (.type "bool")
  | int (i : Int) : TyD μ (.int i) (.type "int")
  | str (s : Str) : TyD μ (.str s) (.type "str")
  | lst (xs : List D) : TyD μ (.lst xs) (.type "list")
  | objL {a : Addr} {xs : List D} (h : μ a = some (.lst xs)) : TyD μ (.obj a) (.type "list")
  | objD {a : Addr} {kvs : List (Key × D)} (h : μ a = some (.dK kvs)) : TyD μ (.obj a) (.type "dict")
  | tup (xs : List D) : TyD μ (.tup xs) (.type "tuple")
inductive ClD : D → Value → Prop where
  | ty (n : String) : ClD (.ty n) (.type n)
  | own (C : Addr) : ClD (.obj C) (.ref C)
theorem TyD.x {K : PySem.W.Frag} {G F : Hp} {μ : Mu} {H : Hp} (w : Wd K G F μ H) {d : D} {v : V} {t : Value} (r : Rp K G d v) (h : TyD μ d t) : TyX K H v t := by
  cases h with
  | non => have r' : v = V.non := r; rw [r']; exact .base .non
  | bl b => have r' : v = V.bl b := r; rw [r']; exact .base (.bl b)
  | int b => have r' : v = V.int b := r; rw [r']; exact .base (.int b)
  | str b => have r' : v = V.str b := r; rw [r']; exact .base (.str b)
  | lst xs =>
    obtain ⟨a, vs, rfl, h2, _⟩ := r
    exact .base (.lst (w.g _ _ h2))
  | objL h =>
    have r' : v = V.ref _ := r
    obtain ⟨vs, h3, _⟩ := w.lstM h
    rw [r']; exact .base (.lst h3)
  | objD h =>
    have r' : v = V.ref _ := r
    obtain ⟨o, h1, ⟨vs, h2, _⟩, _⟩ := w.m _ _ h
    subst h2
    rw [r']; exact .base (.dK h1)
  | tup xs =>
    obtain ⟨a, vs, rfl, h2, _⟩ := r
    rcases w.g.t h2 with (z | ⟨o, z⟩) | z
    · exact .base (.tup z)
    · exact .fTuple z
    · obtain ⟨o, its, n, z1, z2, _⟩ := z
      exact .kTuple z1 z2
theorem ClD.v {K : PySem.W.Frag} {G : Hp} {d : D} {v : V} {u : Value} (r : Rp K G d v) (h : ClD d u) : ClsV v u := by
  cases h with
  | ty n => have r' : v = V.ty n := r; rw [r']; exact .ty n
  | own C => have r' : v = V.ref C := r; rw [r']; exact .own C
/-- isa: what is known of the classes -/
def dIsi (isa : Value → Value → Option Bool) : List D → Mu → DK → Prop := fun xs μ Q => ∃ (x c : D) (u : Value) (b : Bool), xs = [x, c] ∧ ClD c u ∧ ((∃ t, TyD μ x t ∧ isa t u = some b) ∨ ∃ C fs, x = .exc C fs ∧ isa (.ref C) u = some b) ∧ Q (.bl b) μ
def hIsi (K : PySem.W.Frag) : List V → Hp → VK → Prop := fun xs H Q => rIsi K xs H Q ∨ rIsX K xs H Q
theorem call_isD {X : Cx} : CallR X (.builtin "isinstance") (hIsi X.K) := CallR.or call_isi call_isX
/-- what isa tells holds -/
structure IsaOk (K : PySem.W.Frag) (isa : Value → Value → Option Bool) : Prop where
  kit : ∀ t u b, isa t u = some b → PySem.W.kitOne K t u = some b
  exc : ∀ C u b, isa (.ref C) u = some b → ExcC K C
theorem rl_isi {K : PySem.W.Frag} {isa : Value → Value → Option Bool} (ok : IsaOk K isa) : RRL K (hIsi K) (dIsi isa) := fun xs ds G F μ H Qd Q r w q kq => by
  obtain ⟨x, c, u, b, rfl, hc, hx, q⟩ := q
  obtain ⟨v, r1, rfl, rx, v2, r2, rfl, rc, r3⟩ := r
  have r3' : r2 = [] := r3
  subst r3'
  rcases hx with ⟨t, ty, e⟩ | ⟨C, fs, rfl, e⟩
  · exact .inl ⟨v, v2, t, u, b, rfl, hc.v rc, ty.x w rx, ok.kit t u b e, kq.here w (d := .bl _) rfl q⟩
  · obtain ⟨a, d, rfl, h1, h2⟩ := rx
    refine .inr ⟨a, C, v2, u, b, rfl, hc.v rc, ⟨d, w.g _ _ h1, ?_⟩, ok.exc C u b e, ok.kit _ _ _ e, kq.here w (d := .bl _) rfl q⟩
    rcases h2 with ⟨e2, _⟩ | ⟨dd, e2, e3⟩
    · exact .inl e2
    · exact .inr ⟨dd, _, e2, w.g _ _ e3⟩
/-! ### a kept error's number -/
def lookN (f : Str) : List (Str × Int) → Option Int
  | [] => none
  | (g, n) :: r => if g = f then some n else lookN f r
def dKept (oks : Addr → Bool) (f : Str) (to : TD) : TD := fun ds μ Q => to ds μ fun x μ1 => ∃ C fs n, x = .exc C fs ∧ oks C = true ∧ lookN f fs = some n ∧ Q (.int n) μ1
theorem lookN_num {f : Str} {n : Int} : ∀ {fs : List (Str × Int)}, lookN f fs = some n → (numF fs).lookup f = some (.int n) ∧ fs ≠ []
  | (g, m) :: r, h => by
    refine ⟨?_, by simp⟩
    unfold lookN at h
    unfold numF
    rw [List.map_cons]
    by_cases e : g = f
    · rw [if_pos e] at h
      subst e
      cases h
      simp [List.lookup]
    · rw [if_neg e] at h
      have e2 : (f == g) = false := beq_eq_false_iff_ne.mpr fun z => e z.symm
      have := (lookN_num h).1
      unfold numF at this
      simp only [List.lookup, e2]
      exact this
theorem re_kept {K : PySem.W.Frag} {te : TE} {td : TD} {oks : Addr → Bool} {f : Str} (ok : ∀ C, oks C = true → XfC K C ∧ PySem.W.findIn K (.ref C) f = some none) (h : RE K te td) : RE K (tKept K f te) (dKept oks f td) := fun σ ds G F μ H Qd Q hs hw q kq =>
  h σ ds G F μ H _ _ hs hw q fun v d G1 μ1 H1 e1 w1 r q1 => by
    obtain ⟨C, fs, n, rfl, ho, hl, q1⟩ := q1
    obtain ⟨a, d, rfl, h1, h2⟩ := r
    obtain ⟨l1, l2⟩ := lookN_num hl
    rcases h2 with ⟨_, e2⟩ | ⟨dd, rfl, e3⟩
    · exact absurd e2 l2
    · exact ⟨a, C, dd, _, _, rfl, w1.g _ _ h1, w1.g _ _ e3, (ok C ho).1, (ok C ho).2, l1, (kq.up e1).here w1 (d := .int _) rfl q1⟩
/-! ### enumerate(xs, start=k) -/
def diEnumK (k : Int) (t : TAd) : DI := fun ds μ R => t ds μ fun xs μ1 => match xs with
  | [.lst ys] => R (enumD k ys) (fun _ => True) μ1
  | _ => False
theorem itd_k {K : PySem.W.Frag} {G : Hp} {a : Addr} {k : Int} {items : List D} {keep : Mu → Prop} (h : ∀ F G' μ H, Ex G G' → Wd K G' F μ H → keep μ → ∃ vs, SqL K H a vs ∧ RpL K G' items vs) : ItD K G (ItK K k a) (enumD k items) keep := fun i F G' μ H e w kp => by
  obtain ⟨vs, h1, h2⟩ := h F G' μ H e w kp
  have hl : (enumD k items).length = items.length := by unfold enumD; simp
  rw [hl]
  refine ⟨fun hi => ?_, fun hi => ⟨vs, h1, by rw [h2.len]; exact hi⟩⟩
  obtain ⟨v, hv, rv⟩ := h2.get (i := i) (d := items[i]) (by simp [hi])
  refine ⟨⟨vs, v, h1, hv⟩, fun u H' y => ?_⟩
  obtain ⟨T, x, rfl, hT, rfl, y⟩ := y
  have := y vs h1
  rw [hv] at this
  cases this
  have ex : Ex G' (upd G' T (.tup [.int (k + (i : Nat)), v])) := Ex.new (w.noG hT)
  exact ⟨upd G' T (.tup [.int (k + (i : Nat)), v]), .tup [.int (k + (i : Nat)), items[i]], ex, w.newG hT, ⟨T, _, rfl, SqT.of upd_same, ⟨_, _, rfl, rfl, _, _, rfl, Rp.mono ex _ _ rv, rfl⟩⟩, by unfold enumD; simp [hi], fun _ _ _ _ _ => trivial⟩
theorem ri_enumK {K : PySem.W.Frag} {t : TA} {dt : TAd} {k : Int} (h1 : RA K t dt) : RI K (iEnumK K k t) (diEnumK k dt) := fun σ ds G F μ H R Rd hs hw h kk =>
  h1 σ ds G F μ H _ _ hs hw h fun vs xs G1 μ1 H1 e1 w1 r q => by
    split at q
    · rename_i ys
      obtain ⟨v, r', rfl, rv, r2⟩ := r
      have r2' : r' = [] := r2
      subst r2'
      obtain ⟨a, us, rfl, h2, h3⟩ := rv
      exact ⟨a, us, rfl, SqL.of (w1.g _ _ h2), kk _ _ _ G1 μ1 H1 e1 w1 (itd_k fun F G' μ H e w _ => ⟨us, SqL.of (w.g _ _ (e _ _ h2)), RpL.mono e _ _ h3⟩) q⟩
    · exact q.elim
section
variable {X : Cx} {a b c o e : Expr} {da db dc de dto di dv : TD} {pos apos : Pos} {es : List Expr} {t : TA} {dt : TAd} {k : Nat} {C : Addr} {ps : List Str} {PD : DP} {x m : Str} {p p2 q : Pos}
theorem ed_lenSet (hm : X.mg "len" = none) (hm2 : X.mg "set" = none) (h : PED X a da) (hc : X.calm = true := by rfl) (hg : Gl X "len" := by rfl) (hg2 : Gl X "set" := by rfl)
    (na : starEach [a] X.env = (false, eval a X.env) :: starEach [] X.env := by rfl) : PED X (.Call (.Name "len" p) [.Call (.Name "set" p2) [a] [] q] [] pos) (dLenSet da) := .mk' (pe_lenSetN hc hg hm hg2 hm2 h.pe na) (re_lenSet h.re)
theorem ed_kept {oks : Addr → Bool} {n : Str} (ok : ∀ C, oks C = true → XfC X.K C ∧ PySem.W.findIn X.K (.ref C) n = some none) (he : PED X e de) (hb : attributeBase e n X.env (eval e X.env) = eval e X.env := by rfl) : PED X (.Attribute e n pos) (dKept oks n de) := .mk' (pe_kept he.pe hb) (re_kept ok he.re)
theorem ed_blt {n : String} {x : Str} (hm : X.mg x = none) (hv : bootBuiltins x = some (.type n)) (hg : Gl X x := by rfl) (hn : x ≠ "__name__" := by decide) (hd : (x == ("__debug__" : Str)) = false := by decide) : PED X (.Name x pos) (dC (.ty n)) := .mk' (pe_bltn hg hm hv (v := .ty n) rfl hn hd) (re_c fun _ => rfl)
theorem id_enumK {elts : List Expr} {kk j : Nat} {tpos p1 p2 : Pos} {k : Int} (h0 : -(2 ^ 63) ≤ k) (h1 : k < 2 ^ 63) (hm : X.mg "enumerate" = none) (ha : PAD X [e] dt) (hg : Gl X "enumerate" := by rfl) (hs : starEach [e] X.env = [(false, eval e X.env)] := by rfl) : PID X (.Tuple elts kk tpos) (.Call (.Name "enumerate" p) [e] [⟨some "start", .Constant (.int k) j p1, p2⟩] pos) (diEnumK k dt) := .mk' (pi_enumK h0 h1 hg hm ha.pe hs) (ri_enumK ha.re)
end
end DL
set_option Elab.async false
set_option linter.all false
set_option maxRecDepth 100000
set_option maxHeartbeats 4000001
namespace DL
open PySem L2
/-! ### loops and comprehensions in short -/
theorem small {n : Nat} (h : n ≤ 1000000) : n < sizeLine := Nat.lt_of_le_of_lt h (by decide)
theorem smallE {n : Nat} (h : n ≤ 1000000) : n ≤ sizeLine := Nat.le_of_lt (small h)
/-- each item's value hangs on it alone, nothing changes -/
theorem LcB.pure {m : Bool} {items : List D} {keep : Mu → Prop} {i : Nat} {te : TD} {vs : List Nat} {ds : DSl} {μ : Mu} {Q : DK} (f : D → D) (hk : keep μ) (hl : items.length ≤ 1000000)
    (h : ∀ (j : Nat) (d : D) (Qd : DK), items[j]? = some d → Qd (f d) μ → te ((wipeD ds vs).set i (some d)) μ Qd) (hQ : newLst m (items.map f) μ Q) : LcB m items keep (dgName i) dYes te vs ds μ Q := by
  refine ⟨fun j acc ν => acc = (items.take j).map f ∧ ν = μ, ⟨rfl, rfl⟩, fun j acc ν _ h => h.2 ▸ hk, fun j d acc ν hd h1 => ?_, fun acc ν h1 => ?_⟩
  · obtain ⟨rfl, rfl⟩ := h1
    have hj : j < items.length := (List.getElem?_eq_some_iff.mp hd).1
    refine ⟨small (by rw [List.length_map, List.length_take]; omega), ?_⟩
    show te ((wipeD ds vs).set i (some d)) ν _
    refine h j d _ hd ⟨?_, rfl⟩
    rw [List.take_add_one, hd, List.map_append]
    rfl
  · obtain ⟨rfl, rfl⟩ := h1
    rw [List.take_length]; exact hQ
/-- .. some are left out -/
theorem LcB.filt {m : Bool} {items : List D} {keep : Mu → Prop} {i : Nat} {tt : TTd} {te : TD} {vs : List Nat} {ds : DSl} {μ : Mu} {Q : DK} (p : D → Bool) (f : D → D) (hk : keep μ) (hl : items.length ≤ 1000000)
    (ht : ∀ (j : Nat) (d : D) (Qd : Bool → Mu → Prop), items[j]? = some d → Qd (p d) μ → tt ((wipeD ds vs).set i (some d)) μ Qd) (h : ∀ (j : Nat) (d : D) (Qd : DK), items[j]? = some d → p d = true → Qd (f d) μ → te ((wipeD ds vs).set i (some d)) μ Qd) (hQ : newLst m ((items.filter p).map f) μ Q) : LcB m items keep (dgName i) tt te vs ds μ Q := by
  refine ⟨fun j acc ν => acc = ((items.take j).filter p).map f ∧ ν = μ, ⟨rfl, rfl⟩, fun j acc ν _ h => h.2 ▸ hk, fun j d acc ν hd h1 => ?_, fun acc ν h1 => ?_⟩
  · obtain ⟨rfl, rfl⟩ := h1
    have hj : j < items.length := (List.getElem?_eq_some_iff.mp hd).1
    have hle : ((items.take j).filter p).length ≤ j := Nat.le_trans (List.length_filter_le _ _) (by rw [List.length_take]; omega)
    have step : (items.take (j + 1)).filter p = (items.take j).filter p ++ (if p d = true then [d] else []) := by
      rw [List.take_add_one, hd, List.filter_append]
      simp [List.filter_cons]
    refine ⟨small (by rw [List.length_map]; omega), ?_⟩
    show tt ((wipeD ds vs).set i (some d)) ν _
    refine ht j d _ hd ?_
    cases hp : p d with
    | true =>
      show te ((wipeD ds vs).set i (some d)) ν _
      refine h j d _ hd hp ⟨?_, rfl⟩
      rw [step, hp, if_pos rfl, List.map_append]
      rfl
    | false =>
      show _ ∧ _
      refine ⟨?_, rfl⟩
      rw [step, hp, if_neg (by simp), List.append_nil]
  · obtain ⟨rfl, rfl⟩ := h1
    rw [List.take_length]; exact hQ
/-- by an invariant of what is made so far -/
theorem LcB.inv {m : Bool} {items : List D} {keep : Mu → Prop} {i : Nat} {te : TD} {vs : List Nat} {ds : DSl} {μ : Mu} {Q : DK} (I : Nat → List D → Mu → Prop) (h0 : I 0 [] μ) (hk : ∀ i acc μ, i ≤ items.length → I i acc μ → keep μ) (hl : items.length ≤ 1000000)
    (hn : ∀ i acc μ, I i acc μ → acc.length ≤ i) (h : ∀ (j : Nat) (d : D) (acc : List D) (ν : Mu), items[j]? = some d → I j acc ν → te ((wipeD ds vs).set i (some d)) ν fun z ν' => I (j + 1) (acc ++ [z]) ν') (hQ : ∀ acc ν, I items.length acc ν → newLst m acc ν Q) : LcB m items keep (dgName i) dYes te vs ds μ Q := by
  refine ⟨I, h0, hk, fun j d acc ν hd h1 => ⟨?_, ?_⟩, hQ⟩
  · have hj : j < items.length := (List.getElem?_eq_some_iff.mp hd).1
    have := hn j acc ν h1
    exact small (by omega)
  · show te ((wipeD ds vs).set i (some d)) ν _
    exact h j d acc ν hd h1
theorem rngD_len (lo : Int) (n : Nat) : (rngD lo n).length = n := by unfold rngD; simp
theorem rngD_get {lo : Int} {n i : Nat} {d : D} (h : (rngD lo n)[i]? = some d) : i < n ∧ d = .int (lo + i) := by
  have hi : i < (rngD lo n).length := (List.getElem?_eq_some_iff.mp h).1
  rw [rngD_len] at hi
  unfold rngD at h
  rw [List.getElem?_map, List.getElem?_range hi] at h
  exact ⟨hi, (Option.some.inj h).symm⟩
theorem map_get {α : Type} {f : α → D} {xs : List α} {i : Nat} {d : D} (h : (xs.map f)[i]? = some d) : ∃ x, xs[i]? = some x ∧ d = f x := by
  rw [List.getElem?_map] at h
  cases e : xs[i]? with
  | none => rw [e] at h; cases h
  | some x => rw [e] at h; exact ⟨x, rfl, (Option.some.inj h).symm⟩
theorem enumD_len (k : Int) (xs : List D) : (enumD k xs).length = xs.length := by unfold enumD; simp
theorem enumD_get {k : Int} {xs : List D} {i : Nat} {d : D} (h : (enumD k xs)[i]? = some d) : ∃ x, xs[i]? = some x ∧ d = .tup [.int (k + i), x] := by
  unfold enumD at h
  rw [List.getElem?_mapIdx] at h
  cases e : xs[i]? with
  | none => rw [e] at h; cases h
  | some x => rw [e] at h; exact ⟨x, rfl, (Option.some.inj h).symm⟩
/-! ### {} -/
def dDNew : TD := fun ds μ Q => ∀ p, μ p = none → Q (.obj p) (put μ p (.dK []))
theorem re_dnew {K : PySem.W.Frag} : RE K tDNewK dDNew := fun σ ds G F μ H Qd Q hs hw h kq p hp =>
  kq (.ref p) (.obj p) G (put μ p (.dK [])) _ (Ex.refl G) (hw.newM hp ⟨[], rfl, rfl⟩) rfl (h p (hw.noM hp))
theorem ed_dnew {X : Cx} {pos : Pos} : PED X (.Dict [] [] pos) dDNew := .mk' pe_dnewK re_dnew
end DL
set_option Elab.async false
set_option linter.all false
set_option maxRecDepth 100000
set_option maxHeartbeats 1000001
/-! What may raise, over data. -/
namespace DL
open PySem L2
/-- what is wanted where an error of the class at C leaves, its numbers by name; with the slots, and without -/
abbrev DX := Addr → List (Str × Int) → DSl → Mu → Prop
abbrev DXK := Addr → List (Str × Int) → Mu → Prop
abbrev DSX := DX → DS
abbrev TDX := DX → TD
def KX (K : PySem.W.Frag) (G F : Hp) (xk : DX) (W : WX) : Prop := ∀ C fs d σ ds G' μ' H', Ex G G' → RpS K G' ds σ → Wd K G' F μ' H' → DicR G' d fs → xk C fs ds μ' → W (.ref C) d σ H'
def KE (K : PySem.W.Frag) (G F : Hp) (Ed : DXK) (E : XK) : Prop := ∀ C fs d G' μ' H', Ex G G' → Wd K G' F μ' H' → DicR G' d fs → Ed C fs μ' → E (.ref C) d H'
def RSX (K : PySem.W.Frag) (W : WX) (ts : TS) (td : DSX) : Prop := ∀ σ ds G F μ H E D xk, RpS K G ds σ → Wd K G F μ H → td xk D ds μ → REn K G F E D → KX K G F xk W → ts E σ H
def REX (K : PySem.W.Frag) (W : WX) (te : TE) (td : TDX) : Prop := ∀ σ ds G F μ H Qd Q xk, RpS K G ds σ → Wd K G F μ H → td xk ds μ Qd → KQ K G F Qd Q → KX K G F xk W → te σ H Q
theorem KX.up {K : PySem.W.Frag} {G G1 F : Hp} {xk : DX} {W : WX} (e : Ex G G1) (k : KX K G F xk W) : KX K G1 F xk W := fun C fs d σ ds G' μ' H' e' => k C fs d σ ds G' μ' H' (e.trans e')
def tsOfX (K : PySem.W.Frag) (W : WX) (td : DSX) : TS := fun E σ H => ∃ ds G F μ D xk, RpS K G ds σ ∧ Wd K G F μ H ∧ td xk D ds μ ∧ REn K G F E D ∧ KX K G F xk W
def teOfX (K : PySem.W.Frag) (W : WX) (td : TDX) : TE := fun σ H Q => ∃ ds G F μ Qd xk, RpS K G ds σ ∧ Wd K G F μ H ∧ td xk ds μ Qd ∧ KQ K G F Qd Q ∧ KX K G F xk W
structure PSX (X : Cx) (W : WX) (st : Stmt) (td : DSX) : Prop where
  ps : PS X st (tsOfX X.K W td)
structure PSSX (X : Cx) (W : WX) (st : List Stmt) (td : DSX) : Prop where
  ps : PSs X st (tsOfX X.K W td)
structure PEX (X : Cx) (W : WX) (e : Expr) (td : TDX) : Prop where
  pe : PE X e (teOfX X.K W td)
section
variable {X : Cx} {W : WX}
theorem PSX.mk' {st ts td} (h : PS X st ts) (r : RSX X.K W ts td) : PSX X W st td := ⟨⟨fun pins s σ H E I ⟨ds, G, F, μ, D, xk, a, b, c, d, e⟩ => h.run pins s σ H E I (r σ ds G F μ H E D xk a b c d e)⟩⟩
theorem PSSX.mk' {st ts td} (h : PSs X st ts) (r : RSX X.K W ts td) : PSSX X W st td := ⟨⟨fun pins s σ H E I ⟨ds, G, F, μ, D, xk, a, b, c, d, e⟩ => h.run pins s σ H E I (r σ ds G F μ H E D xk a b c d e)⟩⟩
theorem PEX.mk' {e te td} (h : PE X e te) (r : REX X.K W te td) : PEX X W e td := ⟨⟨fun pins s σ H Q I ⟨ds, G, F, μ, Qd, xk, a, b, c, d, e⟩ => h.run pins s σ H Q I (r σ ds G F μ H Qd Q xk a b c d e)⟩⟩
theorem PSX.rs {st td} (_ : PSX X W st td) : RSX X.K W (tsOfX X.K W td) td := fun σ ds G F μ H E D xk a b c d e => ⟨ds, G, F, μ, D, xk, a, b, c, d, e⟩
theorem PSSX.rs {st td} (_ : PSSX X W st td) : RSX X.K W (tsOfX X.K W td) td := fun σ ds G F μ H E D xk a b c d e => ⟨ds, G, F, μ, D, xk, a, b, c, d, e⟩
theorem PEX.re {e td} (_ : PEX X W e td) : REX X.K W (teOfX X.K W td) td := fun σ ds G F μ H Qd Q xk a b c d e => ⟨ds, G, F, μ, Qd, xk, a, b, c, d, e⟩
end
def xLift (td : DS) : DSX := fun _ => td
def xSeq (t u : DSX) : DSX := fun xk => dSeq (t xk) (u xk)
def xIf (c : TTd) (t u : DSX) : DSX := fun xk => dIfS c (t xk) (u xk)
def xFor (wd : DI) (g : DG) (tb : DSX) : DSX := fun xk => dFor wd g (tb xk)
def xDrop (te : TDX) : DSX := fun xk => dDrop (te xk)
def xRet (te : TDX) : DSX := fun xk => dRet (te xk)
def xSet (i : Nat) (te : TDX) : DSX := fun xk => dAsg (te xk) (dgName i)
def xRaise (C : Addr) : DSX := fun xk _ ds μ => xk C [] ds μ
def xBad (C : Addr) (ta : TAd) : DSX := fun xk _ ds μ => ta ds μ fun xs μ1 => ∃ n : Int, xs = [.int n] ∧ n.natAbs.log2 < 1920 ∧ (Str.ofString (toString n)).length ≤ 1000 ∧ xk C [("line", n)] ds μ1
/-! a def that may raise -/
abbrev DPX := List D → Mu → DK → DXK → Prop
def spDX (K : PySem.W.Frag) (P : DPX) : Sp := fun vs H Q E => ∃ (G F : Hp) (μ : Mu) (ds : List D) (Qd : DK) (Ed : DXK), RpL K G ds vs ∧ Wd K G F μ H ∧ P ds μ Qd Ed ∧ KQ K G F Qd Q ∧ KE K G F Ed E
def xCall (P : DPX) (t : TAd) : TDX := fun xk ds μ Q => t ds μ fun xs μ1 => P xs μ1 Q fun C fs μ2 => xk C fs ds μ2
def GhE (Ed : DXK) : DXK := fun C fs μ1 => ∃ μ', SubM μ' μ1 ∧ Ed C fs μ'
/-- try: body / except x as n: y = n -/
def xTryKeep (cat : Addr → Option Bool) (i j : Nat) (tb : DSX) : DSX := fun xk D => tb (fun C fs ds μ => ∃ b, cat C = some b ∧ (b = true → D.nx (((ds.set i (some (.exc C fs))).set j (some (.exc C fs))).set i none) μ) ∧ (b = false → xk C fs ds μ)) D
section
variable {K : PySem.W.Frag} {W : WX}
theorem rsx_lift {ts : TS} {td : DS} (h : RS K ts td) : RSX K W ts (xLift td) := fun σ ds G F μ H E D _ hs hw q k _ => h σ ds G F μ H E D hs hw q k
theorem rsx_seq {t u : TS} {dt du : DSX} (h1 : RSX K W t dt) (h2 : RSX K W u du) : RSX K W (tSeq t u) (xSeq dt du) := fun σ ds G F μ H E D xk hs hw h k kx =>
  h1 σ ds G F μ H { E with nx := u E } { D with nx := du xk D } xk hs hw h ⟨fun σ' ds' G' μ' H' e s w q => h2 σ' ds' G' F μ' H' E D xk s w q (k.up e) (kx.up e), k.rt, k.bk, k.ct⟩ kx
theorem rsx_if {c : TT} {t u : TS} {dc : TTd} {dt du : DSX} (h0 : RT K c dc) (h1 : RSX K W t dt) (h2 : RSX K W u du) : RSX K W (tIfS c t u) (xIf dc dt du) := fun σ ds G F μ H E D xk hs hw h k kx =>
  h0 σ ds G F μ H _ _ hs hw h fun b G1 μ1 H1 e1 w1 q => by
    cases b with
    | true => exact h1 σ ds G1 F μ1 H1 E D xk (hs.mono e1) w1 q (k.up e1) (kx.up e1)
    | false => exact h2 σ ds G1 F μ1 H1 E D xk (hs.mono e1) w1 q (k.up e1) (kx.up e1)
theorem rsx_drop {te : TE} {de : TDX} (h1 : REX K W te de) : RSX K W (tDrop te) (xDrop de) := fun σ ds G F μ H E D xk hs hw h k kx =>
  h1 σ ds G F μ H _ _ xk hs hw h (fun v d G1 μ1 H1 e1 w1 r q => k.nx σ ds G1 μ1 H1 e1 (hs.mono e1) w1 q) kx
theorem rsx_ret {te : TE} {de : TDX} (h1 : REX K W te de) : RSX K W (tRet te) (xRet de) := fun σ ds G F μ H E D xk hs hw h k kx => h1 σ ds G F μ H _ _ xk hs hw h k.rt kx
theorem rsx_set {te : TE} {de : TDX} {i : Nat} (h1 : REX K W te de) : RSX K W (tAsg te (gName i)) (xSet i de) := fun σ ds G F μ H E D xk hs hw h k kx =>
  h1 σ ds G F μ H _ _ xk hs hw h (fun v d G1 μ1 H1 e1 w1 r q => rg_name v d σ ds G1 F μ1 H1 _ _ r (hs.mono e1) w1 q (k.nx.up e1)) kx
theorem rsx_for {wi : TI} {g : TG} {tb : TS} {wd : DI} {dg : DG} {db : DSX} (h1 : RI K wi wd) (h2 : RG (K := K) g dg) (h3 : RSX K W tb db) : RSX K W (tFor wi g tb) (xFor wd dg db) := fun σ ds G F μ H E D xk hs hw h k kx =>
  h1 σ ds G F μ H _ _ hs hw h fun J items keep G1 μ1 H1 e1 w1 it q => by
    obtain ⟨I, i0, ik, is, ie⟩ := q
    refine ⟨fun i m σ' H' => m = items.length - i ∧ i ≤ items.length ∧ ∃ ds' μ' G', Ex G1 G' ∧ RpS K G' ds' σ' ∧ Wd K G' F μ' H' ∧ I i ds' μ', ⟨_, rfl, Nat.zero_le _, ds, μ1, G1, Ex.refl _, hs.mono e1, w1, i0⟩, ?_⟩
    rintro i m σ' H' ⟨rfl, hi, ds', μ', G', e', s', w', p⟩
    have kp := ik i ds' μ' hi p
    obtain ⟨t1, t2⟩ := it i F G' μ' H' e' w' kp
    by_cases hlt : i < items.length
    · obtain ⟨g1, g2⟩ := t1 hlt
      refine .inr ⟨g1, fun σ2 H2 => ∃ ds2 μ2 G2, Ex G1 G2 ∧ RpS K G2 ds2 σ2 ∧ Wd K G2 F μ2 H2 ∧ I (i + 1) ds2 μ2, fun σ2 H2 ⟨ds2, μ2, G2, x1, x2, x3, x4⟩ => ⟨items.length - (i + 1), by omega, rfl, hlt, ds2, μ2, G2, x1, x2, x3, x4⟩, fun v H2 y => ?_⟩
      obtain ⟨G2, d, e2, w2, rd, hd, _⟩ := g2 v H2 y
      refine h2 v d σ' ds' G2 F μ' H2 _ _ rd (s'.mono e2) w2 (is i d ds' μ' hd p) fun σ3 ds3 G3 μ3 H3 e3 s3 w3 q3 => ?_
      have up := e1.trans (e'.trans (e2.trans e3))
      refine h3 σ3 ds3 G3 F μ3 H3 _ _ xk s3 w3 q3 ⟨fun σ4 ds4 G4 μ4 H4 e4 s4 w4 q4 => ⟨ds4, μ4, G4, e'.trans (e2.trans (e3.trans e4)), s4, w4, q4⟩, k.rt.up up, k.nx.up up, fun σ4 ds4 G4 μ4 H4 e4 s4 w4 q4 => ⟨ds4, μ4, G4, e'.trans (e2.trans (e3.trans e4)), s4, w4, q4⟩⟩ (kx.up up)
    · have : i = items.length := by omega
      exact .inl ⟨t2 (by omega), k.nx σ' ds' G' μ' H' (e1.trans e') s' w' (ie ds' μ' (this ▸ p))⟩
theorem rsx_bad {C : Addr} {ta : TA} {dt : TAd} (h : RA K ta dt) : RSX K W (fun _ σ H => tBad C ta σ H fun cls d H' => W cls d σ H') (xBad C dt) := fun σ ds G F μ H E D xk hs hw q k kx =>
  h σ ds G F μ H _ _ hs hw q fun vs xs G1 μ1 H1 e1 w1 r q1 => by
    obtain ⟨n, rfl, z1, z2, q1⟩ := q1
    obtain ⟨v, r', rfl, rv, r2⟩ := r
    have rv' : v = .int n := rv
    have r2' : r' = [] := r2
    rw [rv', r2']
    refine ⟨n, rfl, z1, z2, fun d hd => ?_⟩
    have eG : Ex G1 (upd G1 d (.xd (numF [(("line" : Str), n)]))) := Ex.new (w1.noG hd)
    exact kx C _ (some d) σ ds _ μ1 _ (e1.trans eG) (hs.mono (e1.trans eG)) (w1.newG hd) (.inr ⟨d, rfl, upd_same⟩) q1
theorem rsx_raise0 {C : Addr} : RSX K W (fun _ σ H => W (.ref C) none σ H) (xRaise C) := fun σ ds G F μ H E D xk hs hw q k kx => kx C [] none σ ds G μ H (Ex.refl G) hs hw (.inl ⟨rfl, rfl⟩) q
theorem rex_call {P : DPX} {t : TA} {dt : TAd} (h1 : RA K t dt) : REX K W (tCallS (spDX K P) (WE W) t) (xCall P dt) := fun σ ds G F μ H Qd Q xk hs hw h kq kx =>
  h1 σ ds G F μ H _ _ hs hw h fun vs xs G1 μ1 H1 e1 w1 r q => ⟨G1, F, μ1, xs, Qd, _, r, w1, q, kq.up e1, fun C fs d G' μ' H' e' w' dr x => kx C fs d σ ds G' μ' H' (e1.trans e') (hs.mono (e1.trans e')) w' dr x⟩
theorem rex_lift {te : TE} {td : TD} (h : RE K te td) : REX K W te (fun _ => td) := fun σ ds G F μ H Qd Q xk hs hw q kq _ => h σ ds G F μ H Qd Q hs hw q kq
theorem rsx_try {c : Value} {cat : Addr → Option Bool} {i j : Nat} {tb : WX → TS} {db : DSX} (hc : ∀ C b, cat C = some b → PySem.W.exmOne K (.ref C) c = some b) (h : ∀ W', RSX K W' (tb W') db) : RSX K W (fun D σ H => tb (wKeep K c i j W D) D σ H) (xTryKeep cat i j db) := fun σ ds G F μ H E D xk hs hw q k kx =>
  h _ σ ds G F μ H E D _ hs hw q k fun C fs d σ' ds' G' μ' H' e s w dr x => by
    obtain ⟨b, hb, yes, no⟩ := x
    refine ⟨b, hc C b hb, fun e1 a ha => ?_, fun e1 => kx C fs d σ' ds' G' μ' H' e s w dr (no e1)⟩
    have eG : Ex G' (upd G' a (XT (.ref C) d a)) := Ex.new (w.noG ha)
    have r : Rp K (upd G' a (XT (.ref C) d a)) (.exc C fs) (.ref a) := ⟨a, d, rfl, upd_same, dr.mono eG⟩
    exact k.nx _ _ _ μ' _ (e.trans eG) ((((s.mono eG).set r i).set r j).wipe1 i) (w.newG ha) (yes e1)
end
/-! ### the rules of the text -/
section
variable {X : Cx} {W : WX} {a b c o e : Expr} {da db dc de : TD} {dA : TTd} {pos : Pos} {es : List Expr} {t : TA} {dt : TAd} {k : Nat} {C fI : Addr} {ps : List Str} {x m : Str} {p : Pos} {tg iter : Expr} {dg : DG} {wd : DI}
theorem sx_lift {st : Stmt} {td : DS} (h : PSD X st td) : PSX X W st (xLift td) := .mk' h.ps (rsx_lift h.rs)
theorem ssx_nil : PSSX X W [] (xLift dNext) := .mk' pss_nil (rsx_lift rs_next)
theorem ssx_lift {st : List Stmt} {td : DS} (h : PSSD X st td) : PSSX X W st (xLift td) := .mk' h.ps (rsx_lift h.rs)
theorem ssx_cons {st : Stmt} {sts : List Stmt} {d1 d2 : DSX} (h1 : PSX X W st d1) (h2 : PSSX X W sts d2) : PSSX X W (st :: sts) (xSeq d1 d2) := .mk' (pss_cons h1.ps h2.ps) (rsx_seq h1.rs h2.rs)
theorem ssx_one {st : Stmt} {d1 : DSX} (h1 : PSX X W st d1) : PSSX X W [st] d1 := .mk' (pss_one h1.ps) h1.rs
theorem sx_if {s1 s2 : List Stmt} {d1 d2 : DSX} (hc : PTD X c dA) (h1 : PSSX X W s1 d1) (h2 : PSSX X W s2 d2) : PSX X W (.If c s1 s2 pos) (xIf dA d1 d2) := .mk' (ps_if hc.pe h1.ps h2.ps) (rsx_if hc.re h1.rs h2.rs)
theorem sx_for {s1 : List Stmt} {d1 : DSX} (hp : PassesOwn (model X.prog X.w) X.A X.env X.xe) (hc : X.calm = true) (hi : PID X tg iter wd) (hg : PGD X tg dg) (hb : PSSX X W s1 d1) (hs : ∀ x, foldedSetIterable iter X.env x = pure x := by intro _; rfl) : PSX X W (.For tg iter s1 [] pos) (xFor wd dg d1) := .mk' (ps_for hp hc hi.pi hg.pg hb.ps hs) (rsx_for hi.ri hg.rg hb.rs)
theorem sx_expr {de : TDX} (he : PEX X W e de) (hs : swapsWith e none pos.line X.env = pure false := by rfl) : PSX X W (.Expr e pos) (xDrop de) := .mk' (ps_expr he.pe hs) (rsx_drop he.re)
theorem sx_ret {de : TDX} (he : PEX X W e de) : PSX X W (.Return (some e) pos) (xRet de) := .mk' (ps_ret he.pe) (rsx_ret he.re)
theorem sx_set {de : TDX} (i : Nat) {pos' : Pos} (hN : X.N.Nodup) (he : PEX X W e de) (hi : X.N[i]? = some x := by rfl) (hx : Loc X.env.scope x := by first | exact Or.inl rfl | exact Or.inr rfl) (hs : swapsWith e (some (.Name x pos')) pos.line X.env = pure false := by rfl) (hf : X.fn x = true ∨ X.env.scope.names.lookup x = some .local := by first | exact .inl rfl | exact .inr rfl | assumption) :
    PSX X W (.Assign [.Name x pos'] e pos) (xSet i de) := .mk' (ps_set hN hi hx he.pe hs hf) (rsx_set he.re)
theorem sx_bad {p2 : Pos} (hc : X.calm = true) (tk : Takes X W) (T : BTX.BadTxt X.prog X.K X.mg x C fI) (hr : Room k X.A) (hk : 1 ≤ k) (ha : PAD X [a] dt) (hg : Gl X x := by rfl) (hd : (x == ("__debug__" : Str)) = false := by decide)
    (he : starEach (a :: []) X.env = (false, eval a X.env) :: starEach [] X.env := by rfl) (hpl : (backTo pos (starEach [] X.env)).any (·.1) = false := by rfl) :
    PSX X W (.Raise (some (.Call (.Name x p) [a] [] pos)) none p2) (xBad C dt) := .mk' (ps_raise hc tk (pmk_bad T hr hk ha.pe hg hd he hpl)) (rsx_bad ha.re)
def DefAtX (P : Program) (w : World) (K : PySem.W.Frag) (mg : Str → Option Value) (base : Heap) (x : Str) (k : Nat) (ps : List Str) (PD : DPX) : Prop := ∃ (f : Addr) (fd : FuncData), mg x = some (.ref f) ∧ PySem.W.keepIn K (.ref f) = true ∧ Binds K fd ps [] ∧ FnOk P w K mg base (L2.CX P w) k f fd ps (spDX K PD)
theorem ex_call {PD : DPX} (tk : Takes X W) (G : DefAtX X.prog X.w X.K X.mg X.base x k ps PD) (hr : Room k X.A) (ha : PAD X (e :: es) dt)
    (hg : Gl X x := by rfl) (hdb : (x == ("__debug__" : Str)) = false := by decide) (he : starEach (e :: es) X.env = (false, eval e X.env) :: starEach es X.env := by rfl) (hpl : (backTo pos (starEach es X.env)).any (·.1) = false := by rfl) :
    PEX X W (.Call (.Name x p) (e :: es) [] pos) (xCall PD dt) := by
  obtain ⟨f, fd, h1, h2, h3, h4⟩ := G
  exact .mk' (pe_callS h4 hr hg h1 h2 h3 (passAt tk) ha.pe hdb he hpl) (rex_call ha.re)
theorem sx_try {n y : Str} {i j : Nat} {body : List Stmt} {np yp mp ap pos' : Pos} {cv : Value} {cat : Addr → Option Bool} {tb : DSX} (st : X.stack = X.env :: X.outer) (fr : X.env.frame = some X.env.locals) (nd : X.N.Nodup) (iN : X.N[i]? = some n) (jN : X.N[j]? = some y) (nl : X.env.kindOf n = some .local) (yl : X.env.scope.names.lookup y = some .local) (nsl : X.env.scope.names.lookup n = some .local) (ij : i ≠ j)
    (names : Names X x cv) (tk : Takes X W) (nex : X.ex = []) (hc : ∀ C b, cat C = some b → PySem.W.exmOne X.K (.ref C) cv = some b)
    (hb : ∀ (W' : WX) (pn : List (Addr × Obj)) (xe : Value → Shared → Prop), Takes (X.tr pn xe) W' → PassesOwn (model X.prog X.w) X.A X.env xe → PSSX (X.tr pn xe) W' body tb)
    (ndb : (n == ("__debug__" : Str)) = false := by decide) (ncd : (n == ("__classdict__" : Str)) = false := by decide) (sw : ∀ (A : Cx), A.env = X.env → swapsWith (.Name n mp) (some (.Name y yp)) ap.line A.env = pure false := by intro A h; rw [h]; rfl) :
    PSX X W (.Try body [.ExceptHandler (some (.Name x np)) (some n) [.Assign [.Name y yp] (.Name n mp) ap] pos'] [] [] pos) (xTryKeep cat i j tb) :=
  .mk' (ps_try_keep (tb := fun W' => tsOfX X.K W' tb) st fr nd iN jN nl yl nsl ij names tk nex ndb ncd sw fun W' pn xe h1 h2 => (hb W' pn xe h1 h2).ps) (rsx_try (c := cv) (cat := cat) (i := i) (j := j) (W := W) (tb := fun W' => tsOfX X.K W' tb) (db := tb) hc fun W' σ ds G F μ H E D xk a b c d e => ⟨ds, G, F, μ, D, xk, a, b, c, d, e⟩)
end
/-- what may not raise, by what may -/
theorem PSD.ofX {X : Cx} {st : Stmt} {td : DSX} (h : PSX X (fun _ _ _ _ => False) st td) : PSD X st (td fun _ _ _ _ => False) := ⟨⟨fun pins s σ H E I ⟨ds, G, F, μ, D, a, b, c, d⟩ => h.ps.run pins s σ H E I ⟨ds, G, F, μ, D, _, a, b, c, d, fun C fs d σ' ds' G' μ' H' _ _ _ _ x => x⟩⟩⟩
theorem takes_never {X : Cx} : Takes X (fun _ _ _ _ => False) := fun u s' ⟨_, _, _, _, _, _, _, _, _, _, _, _, _, _, _, _, z⟩ => z.elim
section
variable {P : Program} {w : World} {K : PySem.W.Frag} {mg : Str → Option Value} {base : Heap}
theorem defAtX {x qual : Str} {st : Stmt} {N ps : List Str} {k : Nat} {PD : DPX} {td : DSX} (Hh : Here K mg x qual st ps) (S : FnScope N ps (defScope st)) (len : ∀ ds μ Q E, PD ds μ Q E → ds.length = ps.length)
    (body : ∀ (f : Addr) (cdv : Value) (A : Around) (outer : List Env) (s : Shared) (H : Hp) (E : XK), Room k (A.deeper (PyProof.Rows.envOfC qual (defScope st) s.heap.objs.size f cdv)) → PSSX (cxOf (L2.CX P w) P w K mg base N qual (defScope st) f cdv A outer s H E) (fun cls d _ H' => E cls d H') (defBody st) td)
    (rd : ∀ ds μ Q E, PD ds μ Q E → td (fun C fs _ μ' => GhE E C fs μ') { nx := fun _ μ' => GhQ Q .non μ', rt := GhQ Q } (startD N ds) μ) : DefAtX P w K mg base x (k + 1) ps PD := by
  obtain ⟨f, fd, h1, h2, h3⟩ := Hh
  refine ⟨f, fd, h1, h2.kp, h3, h2.okX S (fun vs H Q E h => ?_) (fun cdv A outer s H vs Q E hr h => ⟨_, (body f cdv A outer s H E hr).ps, ?_⟩)⟩
  · obtain ⟨G, F, μ, ds, Qd, Ed, r, hw, hp, kq, ke⟩ := h
    rw [r.len]; exact len ds μ Qd Ed hp
  · obtain ⟨G, F, μ, ds, Qd, Ed, r, hw, hp, kq, ke⟩ := h
    have hs : RpS K G (startD N ds) (L2.start N vs) := by
      unfold startD L2.start
      rw [r.len]
      exact RpS.start r
    have kg := kq_gh kq
    refine (body f cdv A outer s H E hr).rs (L2.start N vs) (startD N ds) G F μ H _ _ _ hs hw (rd ds μ Qd Ed hp) ⟨fun σ' ds' G' μ' H' e _ w' q => kg .non .non G' μ' H' e w' rfl q, kg, fun σ' ds' G' μ' H' e _ w' q => q.elim, fun σ' ds' G' μ' H' e _ w' q => q.elim⟩ fun C fs d σ' ds' G' μ' H' e _ w' dr q => ?_
    obtain ⟨μ2, s2, q⟩ := q
    exact ke C fs d G' μ2 H' e (w'.sub s2) dr q
end
end DL
set_option Elab.async false
set_option linter.all false
set_option maxRecDepth 100000
set_option maxHeartbeats 4000001
namespace DL
open PySem L2
/-! ## The law's own numbers, names, fleets: data and promises -/
abbrev Lamp := Str × Int × Int
abbrev Kind := Str × Int × List Lamp
abbrev Flt := List Str × List Kind
abbrev Sight := Int × Int × List Str
def lampD (l : Lamp) : D := .tup [.str l.1, .int l.2.1, .int l.2.2]
def kindD (k : Kind) : D := .tup [.str k.1, .int k.2.1, .tup (k.2.2.map lampD)]
def fleetD (f : Flt) : D := .tup [.tup (f.1.map .str), .tup (f.2.map kindD)]
def sightD (s : Sight) : D := .tup [.int s.1, .int s.2.1, .tup (s.2.2.map .str)]
def GoodLamp (cs : List Str) (l : Lamp) : Prop := l.1 ∈ cs ∧ 0 ≤ l.2.1 ∧ l.2.1 < 32 ∧ 0 ≤ l.2.2 ∧ l.2.2 < 32
def GoodLamps (cs : List Str) (ls : List Lamp) : Prop := 1 ≤ ls.length ∧ ls.length ≤ 6 ∧ ∀ l ∈ ls, GoodLamp cs l
def GoodKind (cs : List Str) (k : Kind) : Prop := 0 ≤ k.2.1 ∧ k.2.1 ≤ 16 ∧ GoodLamps cs k.2.2
def Asc (s : Str) : Prop := ∀ c ∈ s.cps.toList, c < 1114112
def AscKind (k : Kind) : Prop := Asc k.1 ∧ ∀ l ∈ k.2.2, Asc l.1
structure GoodFleet (cs ks : List Str) (f : Flt) : Prop where
  c0 : 1 ≤ f.1.length
  c6 : f.1.length ≤ 6
  cp : f.1 = cs.take f.1.length
  k0 : 1 ≤ f.2.length
  k6 : f.2.length ≤ 6
  kp : f.2.map (·.1) = ks.take f.2.length
  kg : ∀ k ∈ f.2, GoodKind f.1 k
def GoodSight (cs : List Str) (s : Sight) : Prop := 0 ≤ s.1 ∧ s.1 ≤ 99 ∧ 0 ≤ s.2.1 ∧ s.2.1 < 32 ∧ s.2.2.length ≤ 6 ∧ ∀ c ∈ s.2.2, c ∈ cs
def bars : List Str := ["colours", "kind", "lamp", "sight"]
def IsName (s : Str) : Prop := 1 ≤ s.length ∧ s.length ≤ 6 ∧ (∀ c ∈ s.cps.toList, 97 ≤ c ∧ c ≤ 122) ∧ s ∉ bars
def GoodNames (ns : List Str) : Prop := ns.length = 6 ∧ ns.Nodup ∧ (∀ s ∈ ns, IsName s) ∧ Str.ofString "zzq" ∉ ns

/-- the table of draws at m, its digits at dg; at most n draws so far -/
def tabD (cells : List Int) (dg : Addr) (at_ : Int) (rest : List (Key × D)) : List (Key × D) := (.inr "cells", .lst (cells.map .int)) :: (.inr "digits", .obj dg) :: (.inr "at", .int at_) :: rest
structure MOk (m dg : Addr) (rest : List (Key × D)) (n : Nat) (μ : Mu) : Prop where
  ne : m ≠ dg
  few : rest.length ≤ 100 ∧ ∀ kv ∈ rest, kv.1 ≠ (Sum.inr "at" : Key)
  tab : ∃ (cells digits : List Int) (at_ : Int), μ m = some (.dK (tabD cells dg at_ rest)) ∧ μ dg = some (.lst (digits.map .int)) ∧ cells.length = 64 ∧ (∀ c ∈ cells, 0 ≤ c ∧ c < 2147483647) ∧ 0 ≤ at_ ∧ at_ ≤ n ∧ digits.length ≤ 64
def restD (cs ks : List Str) : List (Key × D) := [(.inr "colours", .lst (cs.map .str)), (.inr "kinds", .lst (ks.map .str))]
/-- all but the table and its digits stays -/
def Fr (m dg : Addr) (μ ν : Mu) : Prop := ∀ a, a ≠ m → a ≠ dg → ν a = μ a
theorem Fr.refl {m dg : Addr} (μ : Mu) : Fr m dg μ μ := fun _ _ _ => rfl
theorem Fr.trans {m dg : Addr} {μ ν ρ : Mu} (a : Fr m dg μ ν) (b : Fr m dg ν ρ) : Fr m dg μ ρ := fun x h1 h2 => (b x h1 h2).trans (a x h1 h2)
theorem MOk.mono {m dg : Addr} {rest : List (Key × D)} {n k : Nat} {μ : Mu} (h : MOk m dg rest n μ) (e : n ≤ k) : MOk m dg rest k μ := by
  obtain ⟨a, f, c, d, t, h1, h2, h3, h4, h5, h6, h7⟩ := h
  exact ⟨a, f, c, d, t, h1, h2, h3, h4, h5, by omega, h7⟩
theorem MOk.putO {m dg p : Addr} {rest : List (Key × D)} {n : Nat} {μ : Mu} {o : MO} (h : MOk m dg rest n μ) (e1 : p ≠ m) (e2 : p ≠ dg) : MOk m dg rest n (put μ p o) := by
  obtain ⟨a, f, c, d, t, h1, h2, h3⟩ := h
  exact ⟨a, f, c, d, t, by rw [put_ne (Ne.symm e1)]; exact h1, by rw [put_ne (Ne.symm e2)]; exact h2, h3⟩
theorem MOk.neM {m dg p : Addr} {rest : List (Key × D)} {n : Nat} {μ : Mu} (h : MOk m dg rest n μ) (e : μ p = none) : p ≠ m := by
  obtain ⟨_, _, c, d, t, h1, h2, _⟩ := h
  intro z; rw [z, h1] at e; cases e
theorem MOk.neD {m dg p : Addr} {rest : List (Key × D)} {n : Nat} {μ : Mu} (h : MOk m dg rest n μ) (e : μ p = none) : p ≠ dg := by
  obtain ⟨_, _, c, d, t, h1, h2, _⟩ := h
  intro z; rw [z, h2] at e; cases e

/-! promises -/
def P__law_mixed : DP := fun ds μ Q => ∃ c k : Int, ds = [.int c, .int k] ∧ 0 ≤ c ∧ c < 2^40 ∧ 0 ≤ k ∧ k < 2^40 ∧ ∀ r, 0 ≤ r → r < 2147483629 → Q (.int r) μ
def P__law_folded : DP := fun ds μ Q => ∃ ns : List Int, ds = [.scr (ns.map .int)] ∧ ns.length ≤ 63 ∧ ∀ cells : List Int, cells.length = 64 → (∀ c ∈ cells, 0 ≤ c ∧ c < 2147483647) → Q (.lst (cells.map .int)) μ
def P__law_draw : DP := fun ds μ Q => ∃ (m dg : Addr) (rest : List (Key × D)) (n : Nat) (j : Int), ds = [.obj m, .int j] ∧ MOk m dg rest n μ ∧ n < 2^30 ∧ 0 < j ∧ j < 2^29 ∧
  ∀ r μ', 0 ≤ r → r < j → MOk m dg rest (n + 1) μ' → Fr m dg μ μ' → Q (.int r) μ'
def P__law_names : DP := fun ds μ Q => ∃ c : Int, ds = [.int c, .int 6] ∧ 0 ≤ c ∧ ∀ ns, GoodNames ns → Q (.lst (ns.map .str)) μ
def P__law_lamp : DP := fun ds μ Q => ∃ (m dg : Addr) (rest : List (Key × D)) (n : Nat) (cs : List Str), ds = [.obj m, .tup (cs.map .str)] ∧ MOk m dg rest n μ ∧ n < 2^29 ∧ 1 ≤ cs.length ∧ cs.length ≤ 6 ∧
  ∀ l μ', GoodLamp cs l → MOk m dg rest (n + 4) μ' → Fr m dg μ μ' → Q (lampD l) μ'
def P__law_lamps : DP := fun ds μ Q => ∃ (m dg p : Addr) (rest : List (Key × D)) (n : Nat) (cs : List Str) (rows : List Kind), ds = [.obj m, .tup (cs.map .str), .obj p] ∧ MOk m dg rest n μ ∧ n < 2^28 ∧ 1 ≤ cs.length ∧ cs.length ≤ 6 ∧
  μ p = some (.lst (rows.map kindD)) ∧ p ≠ m ∧ p ≠ dg ∧ rows.length ≤ 6 ∧ (∀ k ∈ rows, GoodKind cs k) ∧ (∀ k ∈ rows, AscKind k) ∧ ∀ ls μ', GoodLamps cs ls → MOk m dg rest (n + 30) μ' → Fr m dg μ μ' → Q (.tup (ls.map lampD)) μ'
def P__law_fleet : DP := fun ds μ Q => ∃ (m dg : Addr) (cs ks : List Str) (n : Nat), ds = [.obj m] ∧ MOk m dg (restD cs ks) n μ ∧ n < 2^27 ∧ cs.length = 6 ∧ ks.length = 6 ∧ (∀ s ∈ cs, Asc s) ∧ (∀ s ∈ ks, Asc s) ∧
  ∀ f μ', GoodFleet cs ks f → MOk m dg (restD cs ks) (n + 300) μ' → Fr m dg μ μ' → Q (fleetD f) μ'
def shows (b : Int) (l : Lamp) : Bool := decide ((b - l.2.1) % 32 ≤ (l.2.2 - l.2.1) % 32)
/-- a kind's column at a bearing -/
def colOf (ls : List Lamp) (b : Int) : List Str := (ls.filter (shows b)).map (·.1)
def columnOf (f : Flt) (k : Str) (c s : Int) : List Str := (f.2.map fun x => if x.1 = k then colOf x.2.2 ((s - c) % 32) else []).flatten
def P__law_column : DP := fun ds μ Q => ∃ (f : Flt) (k : Str) (c s : Int), ds = [fleetD f, .tup [.str k, .int c], .int s] ∧ (∀ x ∈ f.2, x.2.2.length ≤ 6) ∧ f.2.length ≤ 6 ∧ Q (.tup ((columnOf f k c s).map .str)) μ
def P__law_sights : DP := fun ds μ Q => ∃ (m dg : Addr) (cs ks : List Str) (rest : List (Key × D)) (n : Nat) (f : Flt) (j : Int), ds = [.obj m, fleetD f, .int j] ∧ MOk m dg rest n μ ∧ n < 2^26 ∧ GoodFleet cs ks f ∧ ks.Nodup ∧ (∀ s ∈ f.1, Asc s) ∧ 0 ≤ j ∧ j ≤ 60 ∧
  ∀ (ss : List Sight) (μ' : Mu), ss.length ≤ j.toNat → (∀ s ∈ ss, GoodSight f.1 s) → MOk m dg rest (n + 2000) μ' → Fr m dg μ μ' → Q (.lst (ss.map sightD)) μ'
def P__law_begun : DP := fun ds μ Q => ∃ ns : List Int, ds = [.scr (ns.map .int)] ∧ ns.length ≤ 63 ∧ ∀ m dg cs ks μ', μ m = none → μ dg = none → GoodNames cs → GoodNames ks → MOk m dg (restD cs ks) 10 μ' → Fr m dg μ μ' → Q (.obj m) μ'
/-- a word of a row: a text or a number -/
abbrev Word := Sum Str Int
def wordD : Word → D
  | .inl s => .str s
  | .inr i => .int i
def wText : Word → Str
  | .inl s => s
  | .inr i => toString i
def rowOf (ws : List Word) : Str := Txt.join " " (ws.map wText)
def WordOk : Word → Prop
  | .inl s => s.length ≤ 100
  | .inr i => 0 ≤ i ∧ i < 1000000
def P__law_row : DP := fun ds μ Q => ∃ (x : D) (ws : List Word), ds = [x] ∧ SeqD μ x (ws.map wordD) ∧ ws.length ≤ 100 ∧ (∀ w ∈ ws, WordOk w) ∧ Q (.str (rowOf ws)) μ
def sightWords (s : Sight) : List Word := .inl "sight" :: .inr s.1 :: .inr s.2.1 :: s.2.2.map .inl
def lampWords (l : Lamp) : List Word := [.inl "lamp", .inl l.1, .inr l.2.1, .inr l.2.2]
def kindWords (k : Kind) : List Word := [.inl "kind", .inl k.1, .inr k.2.1]
def colourWords (cs : List Str) : List Word := .inl "colours" :: cs.map .inl
def ShortSight (s : Sight) : Prop := (0 ≤ s.1 ∧ s.1 < 1000000) ∧ (0 ≤ s.2.1 ∧ s.2.1 < 1000000) ∧ s.2.2.length ≤ 90 ∧ ∀ c ∈ s.2.2, c.length ≤ 100
def P__law_sight_row : DP := fun ds μ Q => ∃ s : Sight, ds = [sightD s] ∧ ShortSight s ∧ Q (.str (rowOf (sightWords s))) μ
def kindLines (k : Kind) : List Str := rowOf (kindWords k) :: k.2.2.map fun l => rowOf (lampWords l)
def headLines (f : Flt) : List Str := rowOf (colourWords f.1) :: (f.2.map kindLines).flatten
def linesOf (f : Flt) (ss : List Sight) : List Str := headLines f ++ ss.map fun s => rowOf (sightWords s)
structure ShortFleet (f : Flt) : Prop where
  c : f.1.length ≤ 90
  cl : ∀ c ∈ f.1, c.length ≤ 100
  k : f.2.length ≤ 90
  kl : ∀ k ∈ f.2, k.1.length ≤ 100 ∧ (0 ≤ k.2.1 ∧ k.2.1 < 1000000) ∧ k.2.2.length ≤ 90 ∧ ∀ l ∈ k.2.2, l.1.length ≤ 100 ∧ (0 ≤ l.2.1 ∧ l.2.1 < 1000000) ∧ (0 ≤ l.2.2 ∧ l.2.2 < 1000000)
def P__law_lines : DP := fun ds μ Q => ∃ (f : Flt) (ss : List Sight), ds = [fleetD f, .lst (ss.map sightD)] ∧ ShortFleet f ∧ ss.length ≤ 1000 ∧ (∀ s ∈ ss, ShortSight s) ∧ Q (.lst ((linesOf f ss).map .str)) μ
/-! the program's: rows by their words, the draft -/
def ShortW (ws : List Str) : Prop := ws.length ≤ 200000 ∧ ∀ w ∈ ws, w.length ≤ 1000000
def letters : Str := "abcdefghijklmnopqrstuvwxyz"
def isNameB (s : Str) : Bool := !bars.any (· == s) && ((decide (1 ≤ s.length) && decide (s.length ≤ 6)) && s.cps.toList.all fun c => decide (c ∈ letters.cps.toList))
def numOf (w : Str) (m : Nat) : Option Nat := (List.range (m + 1)).find? fun n => decide (w = Str.ofString (toString (n : Int)))
def numD : Option Nat → D
  | some n => .int n
  | none => .non
def coloursOf (ws : List Str) : Option (List Str) := if (1 ≤ (ws.drop 1).length ∧ (ws.drop 1).length ≤ 6) ∧ (ws.drop 1).Nodup ∧ (ws.drop 1).all isNameB = true then some (ws.drop 1) else none
def coloursD : Option (List Str) → D
  | some ns => .tup (ns.map .str)
  | none => .non
def kindOf : List Str → Option (Str × Nat)
  | [_, k, t] => if isNameB k = true then (numOf t 16).map fun n => (k, n) else none
  | _ => none
def pairD : Option (Str × Nat) → D
  | some p => .tup [.str p.1, .int p.2]
  | none => .non
def lampOf (cs : List Str) : List Str → Option Lamp
  | [_, c, a, b] => if c ∈ cs then (match numOf a 31, numOf b 31 with
    | some x, some y => some (c, (x : Int), (y : Int))
    | _, _ => none) else none
  | _ => none
def lampOD : Option Lamp → D
  | some l => lampD l
  | none => .non
def sightOf (cs : List Str) : List Str → Option Sight
  | _ :: m :: s :: col => if col.length ≤ 6 then (match numOf m 99, numOf s 31 with
    | some x, some y => if col.all (fun c => decide (c ∈ cs)) = true then some ((x : Int), (y : Int), col) else none
    | _, _ => none) else none
  | _ => none
def sightOD : Option Sight → D
  | some l => sightD l
  | none => .non
def wordsOf (line : Str) : List Str := (Txt.split ((Txt.split line "#").headD Str.empty) " ").filter fun w => !w.cps.toList.isEmpty
def P_is_name : DP := fun ds μ Q => ∃ s : Str, ds = [.str s] ∧ s.length ≤ 1000000 ∧ Q (.bl (isNameB s)) μ
def P_number_of : DP := fun ds μ Q => ∃ (w : Str) (m : Int), ds = [.str w, .int m] ∧ 0 ≤ m ∧ m ≤ 1000 ∧ Q (numD (numOf w m.toNat)) μ
def P_colours_of : DP := fun ds μ Q => ∃ ws : List Str, ds = [.lst (ws.map .str)] ∧ ShortW ws ∧ Q (coloursD (coloursOf ws)) μ
def P_kind_of : DP := fun ds μ Q => ∃ ws : List Str, ds = [.lst (ws.map .str)] ∧ ShortW ws ∧ Q (pairD (kindOf ws)) μ
def P_lamp_of : DP := fun ds μ Q => ∃ ws cs : List Str, ds = [.lst (ws.map .str), .tup (cs.map .str)] ∧ ShortW ws ∧ Q (lampOD (lampOf cs ws)) μ
def P_sight_of : DP := fun ds μ Q => ∃ ws cs : List Str, ds = [.lst (ws.map .str), .tup (cs.map .str)] ∧ ShortW ws ∧ Q (sightOD (sightOf cs ws)) μ
def P_words_of : DP := fun ds μ Q => ∃ s : Str, ds = [.str s] ∧ s.length ≤ 100000 ∧ Q (.lst ((wordsOf s).map .str)) μ
/-- what the rows have told so far -/
structure Dr where
  cs : List Str
  ks : List Kind
  ss : List Sight
def lacksB (d : Dr) : Bool := match d.ks.getLast? with
  | none => true
  | some k => k.2.2.isEmpty
def mayB (d : Dr) : Bool := !d.cs.isEmpty && (d.ss.isEmpty && (d.ks.isEmpty || (!lacksB d && decide (d.ks.length < 6))))
def takeC (d : Dr) (ws : List Str) : Option Dr := match coloursOf ws with
  | some ns => if d.cs = [] then some { d with cs := ns } else none
  | none => none
def takeK (d : Dr) (ws : List Str) : Option Dr := match kindOf ws with
  | some p => if mayB d = true ∧ p.1 ∉ d.ks.map (·.1) then some { d with ks := d.ks ++ [(p.1, (p.2 : Int), [])] } else none
  | none => none
def addLamp (l : Lamp) (k : Kind) : Kind := (k.1, k.2.1, k.2.2 ++ [l])
def takeL (d : Dr) (ws : List Str) : Option Dr := match lampOf d.cs ws with
  | some l => match d.ks.getLast? with
    | some k => if d.ss = [] ∧ k.2.2.length ≠ 6 then some { d with ks := d.ks.dropLast ++ [addLamp l k] } else none
    | none => none
  | none => none
def takeS (d : Dr) (ws : List Str) : Option Dr := match sightOf d.cs ws with
  | some s => if lacksB d = false ∧ d.ss.length ≠ 60 then some { d with ss := d.ss ++ [s] } else none
  | none => none
def takeM (d : Dr) (ws : List Str) : Option Dr := match ws with
  | [] => none
  | w :: _ => if w = "colours" then takeC d ws else if w = "kind" then takeK d ws else if w = "lamp" then takeL d ws else if w = "sight" then takeS d ws else none
structure DrOk (d : Dr) : Prop where
  c : d.cs.length ≤ 6
  k : d.ks.length ≤ 6
  l : ∀ k ∈ d.ks, k.2.2.length ≤ 6
  s : d.ss.length ≤ 60
def kindsAt (ks : List Kind) (las : List Addr) : List D := List.zipWith (fun (k : Kind) la => D.tup [.str k.1, .int k.2.1, .obj la]) ks las
structure DraftAt (Draft a kk ss : Addr) (las : List Addr) (d : Dr) (μ : Mu) : Prop where
  it : μ a = some (.ins Draft [("_colours", .tup (d.cs.map .str)), ("_kinds", .obj kk), ("_sights", .obj ss)])
  kinds : μ kk = some (.lst (kindsAt d.ks las))
  sights : μ ss = some (.lst (d.ss.map sightD))
  many : las.length = d.ks.length
  lamps : ∀ (i : Nat) (k : Kind) (la : Addr), d.ks[i]? = some k → las[i]? = some la → μ la = some (.lst (k.2.2.map lampD))
  apart : (kk :: ss :: las).Nodup
  ok : DrOk d
/-- what a step may change -/
structure Step (a kk ss : Addr) (las las' : List Addr) (μ μ' : Mu) : Prop where
  old : ∀ b m, b ≠ a → b ≠ kk → b ≠ ss → b ∉ las → μ b = some m → μ' b = some m
  new : ∀ la ∈ las', la ∈ las ∨ μ la = none
def TakeP (Draft : Addr) (f : Dr → List Str → Option Dr) : DP := fun ds μ Q => ∃ (a kk ss : Addr) (las : List Addr) (d : Dr) (ws : List Str), ds = [.obj a, .lst (ws.map .str)] ∧ ShortW ws ∧ ws ≠ [] ∧ DraftAt Draft a kk ss las d μ ∧
  (f d ws = none → Q (.bl false) μ) ∧ ∀ d' las' μ', f d ws = some d' → DraftAt Draft a kk ss las' d' μ' → Step a kk ss las las' μ μ' → Q (.bl true) μ'
def P_Draft___init__ (Draft : Addr) : DP := fun ds μ Q => ∃ a : Addr, ds = [.obj a] ∧ μ a = some (.ins Draft []) ∧ ∀ kk ss μ', μ kk = none → μ ss = none → kk ≠ ss → μ' = put (put (put μ kk (.lst [])) ss (.lst [])) a (.ins Draft [("_colours", .tup []), ("_kinds", .obj kk), ("_sights", .obj ss)]) → Q .non μ'
def P_Draft_lacks (Draft : Addr) : DP := fun ds μ Q => ∃ (a kk ss : Addr) (las : List Addr) (d : Dr), ds = [.obj a] ∧ DraftAt Draft a kk ss las d μ ∧ Q (.bl (lacksB d)) μ
def P_Draft__may_begin_kind (Draft : Addr) : DP := fun ds μ Q => ∃ (a kk ss : Addr) (las : List Addr) (d : Dr), ds = [.obj a] ∧ DraftAt Draft a kk ss las d μ ∧ Q (.bl (mayB d)) μ
def P_Draft__take_colours (Draft : Addr) : DP := TakeP Draft takeC
def P_Draft__take_kind (Draft : Addr) : DP := TakeP Draft takeK
def P_Draft__take_lamp (Draft : Addr) : DP := TakeP Draft takeL
def P_Draft__take_sight (Draft : Addr) : DP := TakeP Draft takeS
def P_Draft_take (Draft : Addr) : DP := TakeP Draft takeM
def P_Draft_told (Draft : Addr) : DP := fun ds μ Q => ∃ (a kk ss : Addr) (las : List Addr) (d : Dr), ds = [.obj a] ∧ DraftAt Draft a kk ss las d μ ∧ Q (.tup [fleetD (d.cs, d.ks), .lst (d.ss.map sightD)]) μ
/-! lines with one thing wrong -/
def oddFirst : List Str := ["colours", "colours a a", "colours A", "colours abcdefg", "colours kind", "colours a b c d e f g", "colours a1", "kind a 1", "lamp a 1 1", "sight 1 1", "Colours a", "colours a, b", "colour a", "colours a 1", "colours sight", "colours a lamp", "colours\ta", "colours a b a", "colours colours"]
def oddKind (k : Str) : List Str := ["kind", "kind zzq", "kind zzq 17", "kind zzq -1", "kind zzq 01", "kind zzq 1 1", "kind zzq x", "kind 1 1", "kind zzqzzqz 1", "kind Zq 1", "kind lamp 1", "kind " ++ k ++ " 1", "colours a", "kinds zzq 1", "kind zzq 1.0", "kind sight 2", "kind zzq 1_0", "kind zzq 100"]
def oddLamp (c : Str) : List Str := ["lamp", "lamp " ++ c, "lamp " ++ c ++ " 1", "lamp " ++ c ++ " 32 1", "lamp " ++ c ++ " 1 32", "lamp " ++ c ++ " -1 1", "lamp " ++ c ++ " 01 1", "lamp zzq 1 2", "lamp " ++ c ++ " x 2", "lamp 1 2 " ++ c, "lamp 1 2", "lamps " ++ c ++ " 1 2", "colours a", "lamp " ++ c ++ " 1 2 3", "lamp " ++ c ++ " 1 02", "lamp " ++ Txt.upper c ++ "Q 1 2", "Lamp " ++ c ++ " 1 2"]
def oddSight (c : Str) : List Str := ["sight", "sight 1", "sight 100 1", "sight 1 32", "sight -1 1", "sight 01 1", "sight 1 01", "sight 1 x", "sight 1 1 zzq", "sight 1 1 " ++ c ++ " zzq", "sight 1 1" ++ repS (" " ++ c) 7, "Sight 1 1", "sight " ++ c ++ " 1 1", "sights 1 1", "1 1 " ++ c, "sight 1 1	", "# 	", "colours a", "kind zzqzzq 1", "lamp " ++ c ++ " 1 2", "sight 1 1 " ++ c ++ ",", "sight 1, 1", "look 1", "sight 1 1 1", "sight 1.0 1", "sight 1 1 dark1"]
/-- a text drawn from a row of texts -/
def OddP (args : List D) (row : List Str) (m dg : Addr) (n : Nat) : DP := fun ds μ Q => ∃ rest, ds = .obj m :: args ∧ MOk m dg rest n μ ∧ n < 2^29 ∧ ∀ l μ', l ∈ row → MOk m dg rest (n + 1) μ' → Fr m dg μ μ' → Q (.str l) μ'
def P__law_odd_first : DP := fun ds μ Q => ∃ m dg n, OddP [] oddFirst m dg n ds μ Q
def P__law_odd_kind : DP := fun ds μ Q => ∃ m dg n k, k.length ≤ 100 ∧ OddP [.str k] (oddKind k) m dg n ds μ Q
def P__law_odd_lamp : DP := fun ds μ Q => ∃ m dg n c, IsName c ∧ OddP [.str c] (oddLamp c) m dg n ds μ Q
def P__law_odd_sight : DP := fun ds μ Q => ∃ m dg n c, IsName c ∧ OddP [.str c] (oddSight c) m dg n ds μ Q
/-! whole texts, line by line -/
/-- a line is taken -/
def lineM (d : Dr) (line : Str) : Option Dr := if 9 ∈ TL.tl line then none else if wordsOf line = [] then some d else takeM d (wordsOf line)
def runM : Dr → List Str → Option Dr
  | d, [] => some d
  | d, l :: r => match lineM d l with
    | none => none
    | some d' => runM d' r
def dr0 : Dr := ⟨[], [], []⟩
/-- a good text -/
structure TextOk (f : Flt) (ss : List Sight) : Prop where
  c1 : 1 ≤ f.1.length
  c6 : f.1.length ≤ 6
  cd : f.1.Nodup
  cn : ∀ c ∈ f.1, IsName c
  k1 : 1 ≤ f.2.length
  k6 : f.2.length ≤ 6
  kd : (f.2.map (·.1)).Nodup
  kn : ∀ k ∈ f.2, IsName k.1
  kg : ∀ k ∈ f.2, GoodKind f.1 k
  sg : ∀ s ∈ ss, GoodSight f.1 s
  s6 : ss.length ≤ 60
structure LinesOk (n : Nat) (ls : List Str) : Prop where
  few : ls.length ≤ n
  ok : ∀ l ∈ ls, l.length ≤ 100 ∧ 10 ∉ TL.tl l
/-- the line that is due is the first that is none -/
def BadAt (ls : List Str) (due : Nat) : Prop := ∃ pre l post d, ls = pre ++ l :: post ∧ pre.length + 1 = due ∧ runM dr0 pre = some d ∧ lineM d l = none
def Lacking (ls : List Str) : Prop := ∃ d, runM dr0 ls = some d ∧ lacksB d = true
def Spoilt (ls : List Str) (due : Nat) : Prop := LinesOk 105 ls ∧ ((due = 0 ∧ Lacking ls) ∨ BadAt ls due)
def lDueD (ls : List Str) (due : Int) : D := .tup [.lst (ls.map .str), .int due]
/-- one line told further down, what is put between saying nothing -/
def Padded (ls : List Str) (due : Nat) (found : List Str) (place : Nat) : Prop := (∀ d, runM d found = runM d ls) ∧ ∀ pre l post, ls = pre ++ l :: post → pre.length + 1 = due → ∃ f1 f2, found = f1 ++ l :: f2 ∧ f1.length + 1 = place ∧ ∀ d, runM d f1 = runM d pre
/-- a text that one thing is spoilt of -/
def SpoilP (j : Nat) (extra : List D) (m dg : Addr) (rest : List (Key × D)) (n : Nat) (f : Flt) (ss : List Sight) : DP := fun ds μ Q => ds = .obj m :: fleetD f :: .lst ((linesOf f ss).map .str) :: extra ∧ MOk m dg rest n μ ∧ n + j < 2^28 ∧ TextOk f ss ∧ Str.ofString "zzq" ∉ f.1 ∧ ss.length ≤ 14 ∧
  ∀ ls due μ', Spoilt ls due → MOk m dg rest (n + j) μ' → Fr m dg μ μ' → Q (lDueD ls due) μ'
def P__law_many : DP := fun ds μ Q => ∃ m dg rest n f ss, SpoilP 5 [.int ((headLines f).length : Nat)] m dg rest n f ss ds μ Q
def P__law_spoilt : DP := fun ds μ Q => ∃ m dg rest n f ss, SpoilP 10 [] m dg rest n f ss ds μ Q
def P__law_spread : DP := fun ds μ Q => ∃ (m dg : Addr) (rest : List (Key × D)) (n : Nat) (ls : List Str) (due : Nat), ds = [.obj m, .lst (ls.map .str), .int due] ∧ MOk m dg rest n μ ∧ n < 2^28 ∧ LinesOk 107 ls ∧ due ≤ ls.length ∧
  ∀ found place μ', ((due = 0 ∧ found = ls ∧ place = max 1 ls.length + 1) ∨ (due ≠ 0 ∧ Padded ls due found place)) → LinesOk 321 found → MOk m dg rest (n + 400) μ' → Fr m dg μ μ' → Q (lDueD found (place : Nat)) μ'
def goM : Nat → Dr → List Str → Sum Nat Dr
  | n, d, [] => if lacksB d = true then .inl n else .inr d
  | n, d, line :: r => match lineM d line with
    | none => .inl n
    | some d' => goM (n + 1) d' r
def readM (s : Str) : Sum Nat Dr := goM 1 ⟨[], [], []⟩ (Txt.split s "\n")
def P__law_refused : DP := fun ds μ Q => (∃ x n, ds = [x] ∧ TyD μ x (.type n) ∧ n ∈ ["NoneType", "int", "list", "bool", "tuple", "dict"] ∧ Q (.lst [.int 0]) μ) ∨
  ∃ s : Str, ds = [.str s] ∧ s.length ≤ 90000 ∧ match readM s with
    | .inl n => Q (.lst [.int (n : Int)]) μ
    | .inr _ => Q .non μ
def P_law : DP := fun ds μ Q => ∃ ns : List Int, ds = [.scr (ns.map .int)] ∧ ns.length ≤ 63 ∧ Q (.bl true) μ
end DL
set_option Elab.async false
set_option linter.all false
set_option maxRecDepth 100000
set_option maxHeartbeats 4000001
namespace DL
open PySem L2

def c_ROW_WORDS : D := .tup [.str "colours", .str "kind", .str "lamp", .str "sight"]
def td_is_name  : DS :=
  (dSeq (dIfS (dOrT (dTest (dOp (dIn false) (dVar 0) (dC c_ROW_WORDS))) (dNotT (dTest (dChain (dCmp fun i j => decide (i ≤ j)) (dCmp fun i j => decide (i ≤ j)) (dC (.int 1)) (dCB dLen (dConsA (dVar 0) dNilA)) (dC (.int 6)))))) (dRet (dC (.bl false))) dNext)
    (dRet (dCB dAll (dConsA (dLc false (diStr (dVar 0)) (dgName 1) dYes (dOp (dIn false) (dVar 1) (dC (.str "abcdefghijklmnopqrstuvwxyz"))) [1]) dNilA))))
def td_number_of  : DS :=
  (dSeq (dFor (diRng1 (dConsA (dOp (dAdd false) (dVar 1) (dC (.int 1))) dNilA)) (dgName 2) (dIfS (dTest (dOp (dEqn false) (dVar 0) (dCB dStr (dConsA (dVar 2) dNilA)))) (dRet (dVar 2)) dNext))
    (dRet (dC .non)))
def td_colours_of  : DS :=
  (dSeq (dAsg (dSl false (dVar 0) (dPart (dC (.int 1))) dNoPart) (dgName 1))
    (dSeq (dIfS (dOrT (dNotT (dTest (dChain (dCmp fun i j => decide (i ≤ j)) (dCmp fun i j => decide (i ≤ j)) (dC (.int 1)) (dCB dLen (dConsA (dVar 1) dNilA)) (dC (.int 6))))) (dTest (dOp (dCmp fun i j => decide (i < j)) (dLenSet (dVar 1)) (dCB dLen (dConsA (dVar 1) dNilA))))) (dRet (dC .non)) dNext)
    (dSeq (dIfS (dNotT (dTru (dCB dAll (dConsA (dLc false (diSeq (dVar 1)) (dgName 2) dYes (dCall P_is_name (dConsA (dVar 2) dNilA)) [2]) dNilA)))) (dRet (dC .non)) dNext)
    (dRet (dCB dTupOf (dConsA (dVar 1) dNilA))))))
def td_kind_of  : DS :=
  (dSeq (dIfS (dOrT (dTest (dOp (dEqn true) (dCB dLen (dConsA (dVar 0) dNilA)) (dC (.int 3)))) (dNotT (dTru (dCall P_is_name (dConsA (dOp dIx (dVar 0) (dC (.int 1))) dNilA))))) (dRet (dC .non)) dNext)
    (dSeq (dAsg (dCall P_number_of (dConsA (dOp dIx (dVar 0) (dC (.int 2))) (dConsA (dC (.int 16)) dNilA))) (dgName 1))
    (dSeq (dIfS (dTest (dOp (dIsN false) (dVar 1) (dC .non))) (dRet (dC .non)) dNext)
    (dRet (dTup (dConsA (dOp dIx (dVar 0) (dC (.int 1))) (dConsA (dVar 1) dNilA)))))))
def td_lamp_of  : DS :=
  (dSeq (dIfS (dOrT (dTest (dOp (dEqn true) (dCB dLen (dConsA (dVar 0) dNilA)) (dC (.int 4)))) (dTest (dOp (dIn true) (dOp dIx (dVar 0) (dC (.int 1))) (dVar 1)))) (dRet (dC .non)) dNext)
    (dSeq (dAsg (dCall P_number_of (dConsA (dOp dIx (dVar 0) (dC (.int 2))) (dConsA (dC (.int 31)) dNilA))) (dgName 2))
    (dSeq (dAsg (dCall P_number_of (dConsA (dOp dIx (dVar 0) (dC (.int 3))) (dConsA (dC (.int 31)) dNilA))) (dgName 3))
    (dSeq (dIfS (dOrT (dTest (dOp (dIsN false) (dVar 2) (dC .non))) (dTest (dOp (dIsN false) (dVar 3) (dC .non)))) (dRet (dC .non)) dNext)
    (dRet (dTup (dConsA (dOp dIx (dVar 0) (dC (.int 1))) (dConsA (dVar 2) (dConsA (dVar 3) dNilA)))))))))
def td_sight_of  : DS :=
  (dSeq (dIfS (dNotT (dTest (dChain (dCmp fun i j => decide (i ≤ j)) (dCmp fun i j => decide (i ≤ j)) (dC (.int 3)) (dCB dLen (dConsA (dVar 0) dNilA)) (dOp (dAdd false) (dC (.int 3)) (dC (.int 6)))))) (dRet (dC .non)) dNext)
    (dSeq (dAsg (dCall P_number_of (dConsA (dOp dIx (dVar 0) (dC (.int 1))) (dConsA (dC (.int 99)) dNilA))) (dgName 2))
    (dSeq (dAsg (dCall P_number_of (dConsA (dOp dIx (dVar 0) (dC (.int 2))) (dConsA (dC (.int 31)) dNilA))) (dgName 3))
    (dSeq (dAsg (dCB dTupOf (dConsA (dSl false (dVar 0) (dPart (dC (.int 3))) dNoPart) dNilA)) (dgName 4))
    (dSeq (dIfS (dOrT (dTest (dOp (dIsN false) (dVar 2) (dC .non))) (dTest (dOp (dIsN false) (dVar 3) (dC .non)))) (dRet (dC .non)) dNext)
    (dSeq (dIfS (dNotT (dTru (dCB dAll (dConsA (dLc false (diSeq (dVar 4)) (dgName 5) dYes (dOp (dIn false) (dVar 5) (dVar 1)) [5]) dNilA)))) (dRet (dC .non)) dNext)
    (dRet (dTup (dConsA (dVar 2) (dConsA (dVar 3) (dConsA (dVar 4) dNilA)))))))))))
def td_words_of  : DS :=
  (dRet (dLc false (diSeq (dM1 (dSplit false) (dOp dIx (dM1 (dSplit false) (dVar 0) (dC (.str "#"))) (dC (.int 0))) (dC (.str " ")))) (dgName 1) (dTru (dVar 1)) (dVar 1) [1]))
def td_Draft___init__ (Draft : Addr) : DS :=
  (dSeq (dsFld Draft "_colours" (dVar 0) (dTup dNilA))
    (dSeq (dsFld Draft "_kinds" (dVar 0) (dLst true dNilA))
    (dsFld Draft "_sights" (dVar 0) (dLst true dNilA))))
def td_Draft_lacks (Draft : Addr) : DS :=
  (dRet (dOrV (dNotV (dFld Draft "_kinds" (dVar 0))) (dNotV (dOp dIx (dOp dIx (dFld Draft "_kinds" (dVar 0)) (dNeg (dC (.int 1)))) (dC (.int 2))))))
def td_Draft__may_begin_kind (Draft : Addr) : DS :=
  (dSeq (dIfS (dOrT (dNotT (dTru (dFld Draft "_colours" (dVar 0)))) (dTru (dFld Draft "_sights" (dVar 0)))) (dRet (dC (.bl false))) dNext)
    (dRet (dOrV (dNotV (dFld Draft "_kinds" (dVar 0))) (dAndV (dNotV (dMeth Draft "lacks" (P_Draft_lacks Draft) (dVar 0) dNilA)) (dOp (dCmp fun i j => decide (i < j)) (dCB dLen (dConsA (dFld Draft "_kinds" (dVar 0)) dNilA)) (dC (.int 6)))))))
def td_Draft__take_colours (Draft : Addr) : DS :=
  (dSeq (dAsg (dCall P_colours_of (dConsA (dVar 1) dNilA)) (dgName 2))
    (dSeq (dIfS (dOrT (dTru (dFld Draft "_colours" (dVar 0))) (dTest (dOp (dIsN false) (dVar 2) (dC .non)))) (dRet (dC (.bl false))) dNext)
    (dSeq (dsFld Draft "_colours" (dVar 0) (dVar 2))
    (dRet (dC (.bl true))))))
def td_Draft__take_kind (Draft : Addr) : DS :=
  (dSeq (dAsg (dCall P_kind_of (dConsA (dVar 1) dNilA)) (dgName 2))
    (dSeq (dIfS (dOrT (dTest (dOp (dIsN false) (dVar 2) (dC .non))) (dNotT (dTru (dMeth Draft "_may_begin_kind" (P_Draft__may_begin_kind Draft) (dVar 0) dNilA)))) (dRet (dC (.bl false))) dNext)
    (dSeq (dAsg (dVar 2) (dgTup [3, 4]))
    (dSeq (dIfS (dTest (dOp (dIn false) (dVar 3) (dLc false (diSeq (dFld Draft "_kinds" (dVar 0))) (dgName 5) dYes (dOp dIx (dVar 5) (dC (.int 0))) [5]))) (dRet (dC (.bl false))) dNext)
    (dSeq (dDrop (dBML dAppend (dFld Draft "_kinds" (dVar 0)) (dConsA (dTup (dConsA (dVar 3) (dConsA (dVar 4) (dConsA (dLst true dNilA) dNilA)))) dNilA)))
    (dRet (dC (.bl true))))))))
def td_Draft__take_lamp (Draft : Addr) : DS :=
  (dSeq (dAsg (dCall P_lamp_of (dConsA (dVar 1) (dConsA (dFld Draft "_colours" (dVar 0)) dNilA))) (dgName 2))
    (dSeq (dIfS (dOrT (dTest (dOp (dIsN false) (dVar 2) (dC .non))) (dOrT (dNotT (dTru (dFld Draft "_kinds" (dVar 0)))) (dTru (dFld Draft "_sights" (dVar 0))))) (dRet (dC (.bl false))) dNext)
    (dSeq (dAsg (dOp dIx (dOp dIx (dFld Draft "_kinds" (dVar 0)) (dNeg (dC (.int 1)))) (dC (.int 2))) (dgName 3))
    (dSeq (dIfS (dTest (dOp (dEqn false) (dCB dLen (dConsA (dVar 3) dNilA)) (dC (.int 6)))) (dRet (dC (.bl false))) dNext)
    (dSeq (dDrop (dBML dAppend (dVar 3) (dConsA (dVar 2) dNilA)))
    (dRet (dC (.bl true))))))))
def td_Draft__take_sight (Draft : Addr) : DS :=
  (dSeq (dAsg (dCall P_sight_of (dConsA (dVar 1) (dConsA (dFld Draft "_colours" (dVar 0)) dNilA))) (dgName 2))
    (dSeq (dIfS (dOrT (dTest (dOp (dIsN false) (dVar 2) (dC .non))) (dOrT (dTru (dMeth Draft "lacks" (P_Draft_lacks Draft) (dVar 0) dNilA)) (dTest (dOp (dEqn false) (dCB dLen (dConsA (dFld Draft "_sights" (dVar 0)) dNilA)) (dC (.int 60)))))) (dRet (dC (.bl false))) dNext)
    (dSeq (dDrop (dBML dAppend (dFld Draft "_sights" (dVar 0)) (dConsA (dVar 2) dNilA)))
    (dRet (dC (.bl true))))))
def td_Draft_take (Draft : Addr) : DS :=
  (dSeq (dAsg (dOp dIx (dVar 1) (dC (.int 0))) (dgName 2))
    (dSeq (dIfS (dTest (dOp (dEqn false) (dVar 2) (dC (.str "colours")))) (dRet (dMeth Draft "_take_colours" (P_Draft__take_colours Draft) (dVar 0) (dConsA (dVar 1) dNilA))) dNext)
    (dSeq (dIfS (dTest (dOp (dEqn false) (dVar 2) (dC (.str "kind")))) (dRet (dMeth Draft "_take_kind" (P_Draft__take_kind Draft) (dVar 0) (dConsA (dVar 1) dNilA))) dNext)
    (dSeq (dIfS (dTest (dOp (dEqn false) (dVar 2) (dC (.str "lamp")))) (dRet (dMeth Draft "_take_lamp" (P_Draft__take_lamp Draft) (dVar 0) (dConsA (dVar 1) dNilA))) dNext)
    (dRet (dAndV (dOp (dEqn false) (dVar 2) (dC (.str "sight"))) (dMeth Draft "_take_sight" (P_Draft__take_sight Draft) (dVar 0) (dConsA (dVar 1) dNilA))))))))
def td_Draft_told (Draft : Addr) : DS :=
  (dSeq (dAsg (dCB dTupOf (dConsA (dLc false (diSeq (dFld Draft "_kinds" (dVar 0))) (dgTup [2, 3, 4]) dYes (dTup (dConsA (dVar 2) (dConsA (dVar 3) (dConsA (dCB dTupOf (dConsA (dVar 4) dNilA)) dNilA)))) [2, 3, 4]) dNilA)) (dgName 1))
    (dRet (dTup (dConsA (dTup (dConsA (dFld Draft "_colours" (dVar 0)) (dConsA (dVar 1) dNilA))) (dConsA (dCB (dListOf false) (dConsA (dFld Draft "_sights" (dVar 0)) dNilA)) dNilA)))))
def td__law_mixed  : DS :=
  (dSeq (dAsg (dOp (dAdd false) (dOp (dAdd false) (dOp dMod (dOp (dMul false) (dOp (dMul false) (dVar 0) (dOp (dAdd false) (dC (.int 1)) (dOp (dMul false) (dC (.int 2)) (dVar 1)))) (dC (.int 48271))) (dC (.int 2147483647))) (dOp (dMul false) (dOp (dMul false) (dC (.int 7919)) (dVar 1)) (dVar 1))) (dOp (dMul false) (dC (.int 104729)) (dVar 1))) (dgName 2))
    (dRet (dOp dFDiv (dOp dMod (dOp (dMul false) (dVar 2) (dC (.int 69621))) (dC (.int 2147483629))) (dC (.int 7)))))
def td__law_folded  : DS :=
  (dSeq (dAsg (dLc true (diRng1 (dConsA (dC (.int 64)) dNilA)) (dgName 2) dYes (dOp (dAdd false) (dC (.int 17)) (dVar 2)) [2]) (dgName 1))
    (dSeq (dFor (diEnumS (dConsA (dVar 0) dNilA)) (dgTup [2, 3]) (dAsg (dOp dMod (dOp (dAdd false) (dOp (dMul false) (dOp dIx (dVar 1) (dOp dMod (dVar 2) (dC (.int 64)))) (dC (.int 48271))) (dVar 3)) (dC (.int 2147483647))) (dgSub (dVar 1) (dOp dMod (dVar 2) (dC (.int 64))))))
    (dSeq (dFor (diRng2 (dConsA (dC (.int 1)) (dConsA (dC (.int 64)) dNilA))) (dgName 2) (dAsg (dOp dMod (dOp (dAdd false) (dOp dIx (dVar 1) (dVar 2)) (dOp (dMul false) (dOp dIx (dVar 1) (dOp dSub (dVar 2) (dC (.int 1)))) (dC (.int 16807)))) (dC (.int 2147483647))) (dgSub (dVar 1) (dVar 2))))
    (dRet (dVar 1)))))
def td__law_draw  : DS :=
  (dSeq (dAsg (dDGet (dVar 0) (dC (.str "at"))) (dgName 2))
    (dSeq (dDPut (dVar 0) (dC (.str "at")) (dOp (dAdd false) (dVar 2) (dC (.int 1))))
    (dSeq (dIfS (dTest (dOp (dEqn true) (dDGet (dVar 0) (dC (.str "digits"))) (dLst false dNilA))) (dSeq (dAsg (dOp dMod (dVar 2) (dCB dLen (dConsA (dDGet (dVar 0) (dC (.str "digits"))) dNilA))) (dgName 3))
    (dSeq (dAsg (dOp dIx (dDGet (dVar 0) (dC (.str "digits"))) (dVar 3)) (dgName 4))
    (dSeq (dAsg (dOp dFDiv (dVar 4) (dVar 1)) (dgSub (dDGet (dVar 0) (dC (.str "digits"))) (dVar 3)))
    (dRet (dOp dMod (dVar 4) (dVar 1)))))) dNext)
    (dRet (dOp dMod (dCall P__law_mixed (dConsA (dCall P__law_mixed (dConsA (dOp (dAdd false) (dOp dIx (dDGet (dVar 0) (dC (.str "cells"))) (dOp dMod (dVar 2) (dC (.int 64)))) (dOp (dMul false) (dC (.int 31)) (dOp dFDiv (dVar 2) (dC (.int 64))))) (dConsA (dVar 2) dNilA))) (dConsA (dOp (dAdd false) (dVar 2) (dC (.int 7))) dNilA))) (dVar 1))))))
def td__law_names  : DS :=
  (dSeq (dAsg (dC (.str "abcdefghijklmnopqrstuvwxyz")) (dgName 2))
    (dSeq (dIfS (dTest (dOp (dEqn false) (dOp dMod (dVar 0) (dC (.int 4))) (dC (.int 3)))) (dRet (dLc false (diRng1 (dConsA (dVar 1) dNilA)) (dgName 3) dYes (dOp (dMul false) (dOp dIx (dVar 2) (dOp dMod (dOp dSub (dOp dFDiv (dVar 0) (dC (.int 4))) (dVar 3)) (dC (.int 26)))) (dOp (dAdd false) (dC (.int 1)) (dVar 3))) [3])) dNext)
    (dSeq (dAsg (dOp (dAdd false) (dC (.int 1)) (dOp dMod (dOp dFDiv (dVar 0) (dC (.int 3))) (dC (.int 6)))) (dgName 4))
    (dSeq (dAsg (dOp dIx (dLst false (dConsA (dOp dMod (dOp dFDiv (dVar 0) (dC (.int 18))) (dVar 4)) (dConsA (dC (.int 0)) (dConsA (dOp dSub (dVar 4) (dC (.int 1))) dNilA)))) (dOp dMod (dVar 0) (dC (.int 3)))) (dgName 5))
    (dSeq (dAsg (dLc false (diRng1 (dConsA (dC (.int 6)) dNilA)) (dgName 7) dYes (dOp dIx (dVar 2) (dOp dMod (dOp (dAdd false) (dOp dFDiv (dVar 0) (dC (.int 7))) (dOp (dMul false) (dC (.int 5)) (dVar 7))) (dC (.int 26)))) [7]) (dgName 6))
    (dSeq (dAsg (dLst true dNilA) (dgName 8))
    (dSeq (dFor (diRng1 (dConsA (dVar 1) dNilA)) (dgName 3) (dSeq (dAsg (dOp dIx (dVar 2) (dOp dMod (dOp (dAdd false) (dOp dFDiv (dVar 0) (dC (.int 11))) (dVar 3)) (dC (.int 26)))) (dgName 9))
    (dDrop (dBML dAppend (dVar 8) (dConsA (dM1 dJoin (dC (.str "")) (dOp (dAdd false) (dOp (dAdd false) (dSl false (dVar 6) dNoPart (dPart (dVar 5))) (dLst false (dConsA (dVar 9) dNilA))) (dSl false (dVar 6) (dPart (dOp (dAdd false) (dVar 5) (dC (.int 1)))) (dPart (dVar 4))))) dNilA)))))
    (dSeq (dAsg (dLst false (dConsA (dC (.str "colours")) (dConsA (dC (.str "kind")) (dConsA (dC (.str "lamp")) (dConsA (dC (.str "sight")) dNilA))))) (dgName 10))
    (dSeq (dIfS (dTest (dOp (dEqn true) (dLc false (diSeq (dVar 8)) (dgName 11) (dTest (dOp (dIn false) (dVar 11) (dVar 10))) (dVar 11) [11]) (dLst false dNilA))) (dRet (dLc false (diRng1 (dConsA (dVar 1) dNilA)) (dgName 3) dYes (dOp (dAdd false) (dC (.str "f")) (dOp dIx (dVar 2) (dVar 3))) [3])) dNext)
    (dRet (dVar 8)))))))))))
def td__law_lamp  : DS :=
  (dSeq (dAsg (dCall P__law_draw (dConsA (dVar 0) (dConsA (dC (.int 32)) dNilA))) (dgName 2))
    (dSeq (dAsg (dOp dIx (dLst false (dConsA (dC (.int 0)) (dConsA (dC (.int 3)) (dConsA (dC (.int 9)) (dConsA (dC (.int 11)) (dConsA (dC (.int 19)) (dConsA (dC (.int 31)) (dConsA (dCall P__law_draw (dConsA (dVar 0) (dConsA (dC (.int 32)) dNilA))) dNilA)))))))) (dCall P__law_draw (dConsA (dVar 0) (dConsA (dC (.int 7)) dNilA)))) (dgName 3))
    (dRet (dTup (dConsA (dOp dIx (dVar 1) (dCall P__law_draw (dConsA (dVar 0) (dConsA (dCB dLen (dConsA (dVar 1) dNilA)) dNilA)))) (dConsA (dVar 2) (dConsA (dOp dMod (dOp (dAdd false) (dVar 2) (dVar 3)) (dC (.int 32))) dNilA)))))))
def td__law_lamps  : DS :=
  (dSeq (dIfS (dOrT (dTest (dOp (dEqn false) (dVar 2) (dLst false dNilA))) (dTest (dOp (dCmp fun i j => decide (i < j)) (dCall P__law_draw (dConsA (dVar 0) (dConsA (dC (.int 5)) dNilA))) (dC (.int 2))))) (dRet (dCB dTupOf (dConsA (dLc false (diRng1 (dConsA (dOp (dAdd false) (dC (.int 1)) (dCall P__law_draw (dConsA (dVar 0) (dConsA (dC (.int 4)) dNilA)))) dNilA)) (dgName 3) dYes (dCall P__law_lamp (dConsA (dVar 0) (dConsA (dVar 1) dNilA))) [3]) dNilA))) dNext)
    (dSeq (dAsg (dCB (dListOf true) (dConsA (dOp dIx (dOp dIx (dVar 2) (dCall P__law_draw (dConsA (dVar 0) (dConsA (dCB dLen (dConsA (dVar 2) dNilA)) dNilA)))) (dC (.int 2))) dNilA)) (dgName 4))
    (dSeq (dAsg (dCall P__law_draw (dConsA (dVar 0) (dConsA (dCB dLen (dConsA (dVar 4) dNilA)) dNilA))) (dgName 5))
    (dSeq (dAsg (dCall P__law_draw (dConsA (dVar 0) (dConsA (dC (.int 4)) dNilA))) (dgName 6))
    (dSeq (dIfS (dAndT (dTest (dOp (dEqn false) (dVar 6) (dC (.int 0)))) (dTest (dOp (dCmp fun i j => decide (i < j)) (dCB dLen (dConsA (dVar 4) dNilA)) (dC (.int 6))))) (dDrop (dBML dInsert (dVar 4) (dConsA (dVar 5) (dConsA (dCall P__law_lamp (dConsA (dVar 0) (dConsA (dVar 1) dNilA))) dNilA)))) (dIfS (dAndT (dTest (dOp (dEqn false) (dVar 6) (dC (.int 1)))) (dTest (dOp (dCmp fun i j => decide (j < i)) (dCB dLen (dConsA (dVar 4) dNilA)) (dC (.int 1))))) (dDrop (dBML dPopAt (dVar 4) (dConsA (dVar 5) dNilA))) (dIfS (dTest (dOp (dEqn false) (dVar 6) (dC (.int 2)))) (dSeq (dAsg (dOp dIx (dVar 4) (dVar 5)) (dgTup [7, 8, 9]))
    (dAsg (dTup (dConsA (dVar 7) (dConsA (dVar 8) (dConsA (dOp dMod (dOp (dAdd false) (dOp (dAdd false) (dVar 9) (dC (.int 1))) (dCall P__law_draw (dConsA (dVar 0) (dConsA (dC (.int 3)) dNilA)))) (dC (.int 32))) dNilA)))) (dgSub (dVar 4) (dVar 5)))) (dAsg (dCall P__law_lamp (dConsA (dVar 0) (dConsA (dVar 1) dNilA))) (dgSub (dVar 4) (dVar 5))))))
    (dRet (dCB dTupOf (dConsA (dVar 4) dNilA))))))))
def td__law_fleet  : DS :=
  (dSeq (dAsg (dCB dInt (dConsA (dOp (dEqn false) (dCall P__law_draw (dConsA (dVar 0) (dConsA (dC (.int 8)) dNilA))) (dC (.int 0))) dNilA)) (dgName 1))
    (dSeq (dAsg (dCB dTupOf (dConsA (dSl false (dDGet (dVar 0) (dC (.str "colours"))) dNoPart (dPart (dOp (dAdd false) (dC (.int 1)) (dCall P__law_draw (dConsA (dVar 0) (dConsA (dOp dIx (dLst false (dConsA (dC (.int 4)) (dConsA (dC (.int 6)) dNilA))) (dVar 1)) dNilA)))))) dNilA)) (dgName 2))
    (dSeq (dAsg (dLst true dNilA) (dgName 3))
    (dSeq (dFor (diSeq (dSl false (dDGet (dVar 0) (dC (.str "kinds"))) dNoPart (dPart (dOp (dAdd false) (dC (.int 1)) (dCall P__law_draw (dConsA (dVar 0) (dConsA (dOp dIx (dLst false (dConsA (dC (.int 4)) (dConsA (dC (.int 6)) dNilA))) (dVar 1)) dNilA))))))) (dgName 4) (dSeq (dAsg (dOp dIx (dLst false (dConsA (dC (.int 0)) (dConsA (dC (.int 1)) (dConsA (dC (.int 2)) (dConsA (dC (.int 4)) (dConsA (dC (.int 16)) (dConsA (dCall P__law_draw (dConsA (dVar 0) (dConsA (dC (.int 17)) dNilA))) dNilA))))))) (dCall P__law_draw (dConsA (dVar 0) (dConsA (dC (.int 6)) dNilA)))) (dgName 5))
    (dDrop (dBML dAppend (dVar 3) (dConsA (dTup (dConsA (dVar 4) (dConsA (dVar 5) (dConsA (dCall P__law_lamps (dConsA (dVar 0) (dConsA (dVar 2) (dConsA (dVar 3) dNilA)))) dNilA)))) dNilA)))))
    (dRet (dTup (dConsA (dVar 2) (dConsA (dCB dTupOf (dConsA (dVar 3) dNilA)) dNilA))))))))
def td__law_column  : DS :=
  (dSeq (dAsg (dOp dMod (dOp dSub (dVar 2) (dOp dIx (dVar 1) (dC (.int 1)))) (dC (.int 32))) (dgName 3))
    (dSeq (dAsg (dLst true dNilA) (dgName 4))
    (dSeq (dFor (diSeq (dOp dIx (dVar 0) (dC (.int 1)))) (dgTup [5, 6, 7]) (dFor (diSeq (dVar 7)) (dgTup [8, 9, 10]) (dIfS (dAndT (dTest (dOp (dEqn false) (dVar 5) (dOp dIx (dVar 1) (dC (.int 0))))) (dTest (dOp (dCmp fun i j => decide (i ≤ j)) (dOp dMod (dOp dSub (dVar 3) (dVar 9)) (dC (.int 32))) (dOp dMod (dOp dSub (dVar 10) (dVar 9)) (dC (.int 32)))))) (dDrop (dBML dAppend (dVar 4) (dConsA (dVar 8) dNilA))) dNext)))
    (dRet (dCB dTupOf (dConsA (dVar 4) dNilA))))))
def td__law_sights_1  : DS :=
  (dDrop (dBML dInsert (dVar 8) (dConsA (dCall P__law_draw (dConsA (dVar 0) (dConsA (dOp (dAdd false) (dCB dLen (dConsA (dVar 8) dNilA)) (dC (.int 1))) dNilA))) (dConsA (dTup (dConsA (dVar 7) (dConsA (dVar 11) (dConsA (dVar 12) dNilA)))) dNilA))))
def td__law_sights_2  : DS :=
  (dSeq (dIfS (dTest (dOp (dEqn false) (dCall P__law_draw (dConsA (dVar 0) (dConsA (dC (.int 24)) dNilA))) (dC (.int 0)))) (dSeq (dAsg (dCall P__law_draw (dConsA (dVar 0) (dConsA (dC (.int 7)) dNilA))) (dgName 14))
    (dAsg (dCB dTupOf (dConsA (dLc false (diRng1 (dConsA (dVar 14) dNilA)) (dgName 15) dYes (dOp dIx (dOp dIx (dVar 1) (dC (.int 0))) (dCall P__law_draw (dConsA (dVar 0) (dConsA (dCB dLen (dConsA (dOp dIx (dVar 1) (dC (.int 0))) dNilA)) dNilA)))) [15]) dNilA)) (dgName 12))) dNext)
    (td__law_sights_1 ))
def td__law_sights  : DS :=
  (dSeq (dAsg (dOp dIx (dOp dIx (dVar 1) (dC (.int 1))) (dCall P__law_draw (dConsA (dVar 0) (dConsA (dCB dLen (dConsA (dOp dIx (dVar 1) (dC (.int 1))) dNilA)) dNilA)))) (dgTup [3, 4, 5]))
    (dSeq (dAsg (dCall P__law_draw (dConsA (dVar 0) (dConsA (dC (.int 32)) dNilA))) (dgName 6))
    (dSeq (dAsg (dC (.int 0)) (dgName 7))
    (dSeq (dAsg (dLst true dNilA) (dgName 8))
    (dSeq (dFor (diRng1 (dConsA (dCall P__law_draw (dConsA (dVar 0) (dConsA (dOp (dAdd false) (dVar 2) (dC (.int 1))) dNilA))) dNilA)) (dgName 9) (dSeq (dFor (diRng1 (dConsA (dOp dIx (dLst false (dConsA (dC (.int 0)) (dConsA (dC (.int 0)) (dConsA (dC (.int 1)) (dConsA (dC (.int 1)) (dConsA (dC (.int 2)) (dConsA (dC (.int 5)) dNilA))))))) (dCall P__law_draw (dConsA (dVar 0) (dConsA (dC (.int 6)) dNilA)))) dNilA)) (dgName 10) (dIfS (dTest (dOp (dCmp fun i j => decide (i < j)) (dVar 7) (dC (.int 99)))) (dSeq (dAsg (dOp (dAdd false) (dVar 7) (dC (.int 1))) (dgName 7))
    (dAsg (dOp dMod (dOp dSub (dOp (dAdd false) (dVar 6) (dCall P__law_draw (dConsA (dVar 0) (dConsA (dOp (dAdd false) (dOp (dMul false) (dC (.int 2)) (dVar 4)) (dC (.int 1))) dNilA)))) (dVar 4)) (dC (.int 32))) (dgName 6))) dNext))
    (dSeq (dAsg (dCall P__law_draw (dConsA (dVar 0) (dConsA (dC (.int 32)) dNilA))) (dgName 11))
    (dSeq (dAsg (dCall P__law_column (dConsA (dVar 1) (dConsA (dTup (dConsA (dVar 3) (dConsA (dVar 6) dNilA))) (dConsA (dVar 11) dNilA)))) (dgName 12))
    (dSeq (dIfS (dAndT (dTest (dOp (dEqn true) (dVar 12) (dTup dNilA))) (dTest (dOp (dEqn false) (dCall P__law_draw (dConsA (dVar 0) (dConsA (dC (.int 4)) dNilA))) (dC (.int 0))))) (dSeq (dAsg (dCall P__law_draw (dConsA (dVar 0) (dConsA (dCB dLen (dConsA (dVar 12) dNilA)) dNilA))) (dgName 13))
    (dAsg (dOp (dAdd false) (dSl false (dVar 12) dNoPart (dPart (dVar 13))) (dSl false (dVar 12) (dPart (dOp (dAdd false) (dVar 13) (dC (.int 1)))) dNoPart)) (dgName 12))) dNext)
    (td__law_sights_2 ))))))
    (dRet (dVar 8)))))))
def td__law_begun_1  : DS :=
  (dSeq (dDPut (dVar 1) (dC (.str "colours")) (dCall P__law_names (dConsA (dOp dIx (dVar 2) (dC (.int 0))) (dConsA (dC (.int 6)) dNilA))))
    (dSeq (dDPut (dVar 1) (dC (.str "kinds")) (dCall P__law_names (dConsA (dOp dIx (dVar 2) (dC (.int 1))) (dConsA (dC (.int 6)) dNilA))))
    (dRet (dVar 1))))
def td__law_begun_2  : DS :=
  (dSeq (dAsg (dLc false (diRng1 (dConsA (dC (.int 2)) dNilA)) (dgName 3) dYes (dCall P__law_draw (dConsA (dVar 1) (dConsA (dOp dPow (dC (.int 10)) (dC (.int 6))) dNilA))) [3]) (dgName 2))
    (dSeq (dIfS (dTest (dOp (dEqn false) (dCall P__law_draw (dConsA (dVar 1) (dConsA (dC (.int 4)) dNilA))) (dC (.int 0)))) (dAsg (dOp (dMul false) (dSl false (dVar 2) dNoPart (dPart (dC (.int 1)))) (dC (.int 2))) (dgName 2)) dNext)
    (td__law_begun_1 )))
def td__law_begun  : DS :=
  (dSeq (dAsg (dDisp (((dC (.str "cells")), (dCall P__law_folded (dConsA (dVar 0) dNilA))) :: (((dC (.str "digits")), (dLst true dNilA)) :: (((dC (.str "at")), (dC (.int 0))) :: [])))) (dgName 1))
    (dSeq (dIfS (dAndT (dTest (dOp (dEqn true) (dVar 0) (dLst false dNilA))) (dTest (dOp (dEqn false) (dOp dMod (dOp dIx (dVar 0) (dC (.int 0))) (dC (.int 2))) (dC (.int 1))))) (dDPut (dVar 1) (dC (.str "digits")) (dOp (dAdd true) (dLst false (dConsA (dOp dFDiv (dOp dIx (dVar 0) (dC (.int 0))) (dC (.int 2))) dNilA)) (dSl false (dVar 0) (dPart (dC (.int 1))) dNoPart))) dNext)
    (td__law_begun_2 )))
def td__law_row  : DS :=
  (dRet (dM1 dJoin (dC (.str " ")) (dLc false (diSeq (dVar 0)) (dgName 1) dYes (dCB dStr (dConsA (dVar 1) dNilA)) [1])))
def td__law_sight_row  : DS :=
  (dRet (dCall P__law_row (dConsA (dOp (dAdd false) (dOp (dAdd false) (dTup (dConsA (dC (.str "sight")) dNilA)) (dSl false (dVar 0) dNoPart (dPart (dC (.int 2))))) (dOp dIx (dVar 0) (dC (.int 2)))) dNilA)))
def td__law_lines  : DS :=
  (dSeq (dAsg (dLst true (dConsA (dCall P__law_row (dConsA (dOp (dAdd false) (dTup (dConsA (dC (.str "colours")) dNilA)) (dOp dIx (dVar 0) (dC (.int 0)))) dNilA)) dNilA)) (dgName 2))
    (dSeq (dFor (diSeq (dOp dIx (dVar 0) (dC (.int 1)))) (dgTup [3, 4, 5]) (dSeq (dDrop (dBML dAppend (dVar 2) (dConsA (dCall P__law_row (dConsA (dLst false (dConsA (dC (.str "kind")) (dConsA (dVar 3) (dConsA (dVar 4) dNilA)))) dNilA)) dNilA)))
    (dAsg (dOp (dAdd true) (dVar 2) (dLc false (diSeq (dVar 5)) (dgName 6) dYes (dCall P__law_row (dConsA (dOp (dAdd false) (dTup (dConsA (dC (.str "lamp")) dNilA)) (dVar 6)) dNilA)) [6])) (dgName 2))))
    (dRet (dOp (dAdd false) (dVar 2) (dLc false (diSeq (dVar 1)) (dgName 7) dYes (dCall P__law_sight_row (dConsA (dVar 7) dNilA)) [7])))))
def td__law_odd_first  : DS :=
  (dSeq (dAsg (dLst false (dConsA (dC (.str "colours")) (dConsA (dC (.str "colours a a")) (dConsA (dC (.str "colours A")) (dConsA (dC (.str "colours abcdefg")) (dConsA (dC (.str "colours kind")) (dConsA (dC (.str "colours a b c d e f g")) dNilA))))))) (dgName 1))
    (dSeq (dAsg (dOp (dAdd false) (dVar 1) (dLst false (dConsA (dC (.str "colours a1")) (dConsA (dC (.str "kind a 1")) (dConsA (dC (.str "lamp a 1 1")) (dConsA (dC (.str "sight 1 1")) (dConsA (dC (.str "Colours a")) (dConsA (dC (.str "colours a, b")) (dConsA (dC (.str "colour a")) dNilA))))))))) (dgName 1))
    (dSeq (dAsg (dOp (dAdd false) (dVar 1) (dLst false (dConsA (dC (.str "colours a 1")) (dConsA (dC (.str "colours sight")) (dConsA (dC (.str "colours a lamp")) (dConsA (dC (.str "colours\ta")) (dConsA (dC (.str "colours a b a")) (dConsA (dC (.str "colours colours")) dNilA)))))))) (dgName 1))
    (dRet (dOp dIx (dVar 1) (dCall P__law_draw (dConsA (dVar 0) (dConsA (dC (.int 19)) dNilA))))))))
def td__law_odd_kind  : DS :=
  (dSeq (dAsg (dLst false (dConsA (dC (.str "kind")) (dConsA (dC (.str "kind zzq")) (dConsA (dC (.str "kind zzq 17")) (dConsA (dC (.str "kind zzq -1")) (dConsA (dC (.str "kind zzq 01")) (dConsA (dC (.str "kind zzq 1 1")) (dConsA (dC (.str "kind zzq x")) (dConsA (dC (.str "kind 1 1")) dNilA))))))))) (dgName 2))
    (dSeq (dAsg (dOp (dAdd false) (dVar 2) (dLst false (dConsA (dC (.str "kind zzqzzqz 1")) (dConsA (dC (.str "kind Zq 1")) (dConsA (dC (.str "kind lamp 1")) (dConsA (dOp (dAdd false) (dOp (dAdd false) (dC (.str "kind ")) (dVar 1)) (dC (.str " 1"))) (dConsA (dC (.str "colours a")) (dConsA (dC (.str "kinds zzq 1")) dNilA)))))))) (dgName 2))
    (dRet (dOp dIx (dOp (dAdd false) (dVar 2) (dLst false (dConsA (dC (.str "kind zzq 1.0")) (dConsA (dC (.str "kind sight 2")) (dConsA (dC (.str "kind zzq 1_0")) (dConsA (dC (.str "kind zzq 100")) dNilA)))))) (dCall P__law_draw (dConsA (dVar 0) (dConsA (dC (.int 18)) dNilA)))))))
def td__law_odd_lamp  : DS :=
  (dSeq (dAsg (dLst false (dConsA (dC (.str "lamp")) (dConsA (dOp (dAdd false) (dC (.str "lamp ")) (dVar 1)) (dConsA (dOp (dAdd false) (dOp (dAdd false) (dC (.str "lamp ")) (dVar 1)) (dC (.str " 1"))) (dConsA (dOp (dAdd false) (dOp (dAdd false) (dC (.str "lamp ")) (dVar 1)) (dC (.str " 32 1"))) (dConsA (dOp (dAdd false) (dOp (dAdd false) (dC (.str "lamp ")) (dVar 1)) (dC (.str " 1 32"))) dNilA)))))) (dgName 2))
    (dSeq (dAsg (dOp (dAdd false) (dVar 2) (dLst false (dConsA (dOp (dAdd false) (dOp (dAdd false) (dC (.str "lamp ")) (dVar 1)) (dC (.str " -1 1"))) (dConsA (dOp (dAdd false) (dOp (dAdd false) (dC (.str "lamp ")) (dVar 1)) (dC (.str " 01 1"))) (dConsA (dC (.str "lamp zzq 1 2")) dNilA))))) (dgName 2))
    (dSeq (dAsg (dOp (dAdd false) (dVar 2) (dLst false (dConsA (dOp (dAdd false) (dOp (dAdd false) (dC (.str "lamp ")) (dVar 1)) (dC (.str " x 2"))) (dConsA (dOp (dAdd false) (dC (.str "lamp 1 2 ")) (dVar 1)) (dConsA (dC (.str "lamp 1 2")) (dConsA (dOp (dAdd false) (dOp (dAdd false) (dC (.str "lamps ")) (dVar 1)) (dC (.str " 1 2"))) dNilA)))))) (dgName 2))
    (dSeq (dAsg (dOp (dAdd false) (dVar 2) (dLst false (dConsA (dC (.str "colours a")) (dConsA (dOp (dAdd false) (dOp (dAdd false) (dC (.str "lamp ")) (dVar 1)) (dC (.str " 1 2 3"))) (dConsA (dOp (dAdd false) (dOp (dAdd false) (dC (.str "lamp ")) (dVar 1)) (dC (.str " 1 02"))) dNilA))))) (dgName 2))
    (dSeq (dAsg (dOp (dAdd false) (dVar 2) (dLst false (dConsA (dOp (dAdd false) (dOp (dAdd false) (dC (.str "lamp ")) (dM0 dUpper (dVar 1))) (dC (.str "Q 1 2"))) (dConsA (dOp (dAdd false) (dOp (dAdd false) (dC (.str "Lamp ")) (dVar 1)) (dC (.str " 1 2"))) dNilA)))) (dgName 2))
    (dRet (dOp dIx (dVar 2) (dCall P__law_draw (dConsA (dVar 0) (dConsA (dC (.int 17)) dNilA))))))))))
def td__law_odd_sight  : DS :=
  (dSeq (dAsg (dLst false (dConsA (dC (.str "sight")) (dConsA (dC (.str "sight 1")) (dConsA (dC (.str "sight 100 1")) (dConsA (dC (.str "sight 1 32")) (dConsA (dC (.str "sight -1 1")) (dConsA (dC (.str "sight 01 1")) (dConsA (dC (.str "sight 1 01")) (dConsA (dC (.str "sight 1 x")) dNilA))))))))) (dgName 2))
    (dSeq (dAsg (dOp (dAdd false) (dVar 2) (dLst false (dConsA (dC (.str "sight 1 1 zzq")) (dConsA (dOp (dAdd false) (dOp (dAdd false) (dC (.str "sight 1 1 ")) (dVar 1)) (dC (.str " zzq"))) (dConsA (dOp (dAdd false) (dC (.str "sight 1 1")) (dOp (dMul false) (dOp (dAdd false) (dC (.str " ")) (dVar 1)) (dC (.int 7)))) (dConsA (dC (.str "Sight 1 1")) dNilA)))))) (dgName 2))
    (dSeq (dAsg (dOp (dAdd false) (dVar 2) (dLst false (dConsA (dOp (dAdd false) (dOp (dAdd false) (dC (.str "sight ")) (dVar 1)) (dC (.str " 1 1"))) (dConsA (dC (.str "sights 1 1")) (dConsA (dOp (dAdd false) (dC (.str "1 1 ")) (dVar 1)) (dConsA (dC (.str "sight 1 1\t")) (dConsA (dC (.str "# \t")) (dConsA (dC (.str "colours a")) dNilA)))))))) (dgName 2))
    (dSeq (dAsg (dOp (dAdd false) (dVar 2) (dLst false (dConsA (dC (.str "kind zzqzzq 1")) (dConsA (dOp (dAdd false) (dOp (dAdd false) (dC (.str "lamp ")) (dVar 1)) (dC (.str " 1 2"))) (dConsA (dOp (dAdd false) (dOp (dAdd false) (dC (.str "sight 1 1 ")) (dVar 1)) (dC (.str ","))) (dConsA (dC (.str "sight 1, 1")) (dConsA (dC (.str "look 1")) dNilA))))))) (dgName 2))
    (dRet (dOp dIx (dOp (dAdd false) (dVar 2) (dLst false (dConsA (dC (.str "sight 1 1 1")) (dConsA (dC (.str "sight 1.0 1")) (dConsA (dC (.str "sight 1 1 dark1")) dNilA))))) (dCall P__law_draw (dConsA (dVar 0) (dConsA (dC (.int 26)) dNilA)))))))))
def td__law_many_1  : DS :=
  (dRet (dTup (dConsA (dOp (dAdd false) (dSl false (dVar 2) dNoPart (dPart (dVar 3))) (dOp (dMul false) (dLst false (dConsA (dC (.str "sight 99 31")) dNilA)) (dC (.int 61)))) (dConsA (dOp (dAdd false) (dVar 3) (dC (.int 61))) dNilA))))
def td__law_many_2  : DS :=
  (dSeq (dIfS (dTest (dOp (dEqn false) (dVar 6) (dC (.int 2)))) (dRet (dTup (dConsA (dOp (dAdd false) (dSl false (dVar 2) dNoPart (dPart (dC (.int 2)))) (dOp (dMul false) (dLst false (dConsA (dOp (dAdd false) (dOp (dAdd false) (dC (.str "lamp ")) (dVar 4)) (dC (.str " 1 2"))) dNilA)) (dC (.int 7)))) (dConsA (dC (.int 9)) dNilA)))) dNext)
    (td__law_many_1 ))
def td__law_many_3  : DS :=
  (dSeq (dIfS (dTest (dOp (dEqn false) (dVar 6) (dC (.int 1)))) (dSeq (dAsg (dSl false (dVar 2) dNoPart (dPart (dC (.int 1)))) (dgName 7))
    (dSeq (dFor (diSeq (dVar 5)) (dgName 8) (dAsg (dOp (dAdd false) (dVar 7) (dLst false (dConsA (dOp (dAdd false) (dOp (dAdd false) (dC (.str "kind ")) (dVar 8)) (dC (.str " 1"))) (dConsA (dOp (dAdd false) (dOp (dAdd false) (dC (.str "lamp ")) (dVar 4)) (dC (.str " 1 2"))) dNilA)))) (dgName 7)))
    (dRet (dTup (dConsA (dVar 7) (dConsA (dC (.int 14)) dNilA)))))) dNext)
    (td__law_many_2 ))
def td__law_many  : DS :=
  (dSeq (dAsg (dOp dIx (dOp dIx (dVar 1) (dC (.int 0))) (dC (.int 0))) (dgName 4))
    (dSeq (dAsg (dLst false (dConsA (dC (.str "zzqqa")) (dConsA (dC (.str "zzqqb")) (dConsA (dC (.str "zzqqc")) (dConsA (dC (.str "zzqqd")) (dConsA (dC (.str "zzqqe")) (dConsA (dC (.str "zzqqf")) (dConsA (dC (.str "zzqqg")) dNilA)))))))) (dgName 5))
    (dSeq (dAsg (dCall P__law_draw (dConsA (dVar 0) (dConsA (dC (.int 4)) dNilA))) (dgName 6))
    (dSeq (dIfS (dTest (dOp (dEqn false) (dVar 6) (dC (.int 0)))) (dRet (dTup (dConsA (dOp (dAdd false) (dLst false (dConsA (dOp (dAdd false) (dC (.str "colours ")) (dM1 dJoin (dC (.str " ")) (dVar 5))) dNilA)) (dSl false (dVar 2) (dPart (dC (.int 1))) dNoPart)) (dConsA (dC (.int 1)) dNilA)))) dNext)
    (td__law_many_3 )))))
def td__law_spoilt_1  : DS :=
  (dSeq (dAsg (dOp dIx (dLst false (dConsA (dSl false (dVar 2) dNoPart (dPart (dC (.int 1)))) (dConsA (dSl false (dVar 2) dNoPart (dPart (dC (.int 2)))) (dConsA (dLst false dNilA) dNilA)))) (dCall P__law_draw (dConsA (dVar 0) (dConsA (dC (.int 3)) dNilA)))) (dgName 12))
    (dRet (dTup (dConsA (dOp (dAdd false) (dVar 12) (dOp (dMul false) (dLst false (dConsA (dOp dIx (dLst false (dConsA (dC (.str "")) (dConsA (dC (.str "# so")) (dConsA (dC (.str "  ")) dNilA)))) (dCall P__law_draw (dConsA (dVar 0) (dConsA (dC (.int 3)) dNilA)))) dNilA)) (dOp (dMul false) (dCall P__law_draw (dConsA (dVar 0) (dConsA (dC (.int 3)) dNilA))) (dCB dInt (dConsA (dOp (dEqn true) (dVar 12) (dLst false dNilA)) dNilA))))) (dConsA (dC (.int 0)) dNilA)))))
def td__law_spoilt_2  : DS :=
  (dSeq (dIfS (dTest (dOp (dEqn false) (dVar 3) (dC (.int 8)))) (dSeq (dAsg (dLst false (dConsA (dTup (dConsA (dSl false (dVar 2) (dPart (dC (.int 1))) dNoPart) (dConsA (dC (.int 1)) dNilA))) (dConsA (dTup (dConsA (dOp (dAdd false) (dSl false (dVar 2) dNoPart (dPart (dC (.int 1)))) (dSl false (dVar 2) (dPart (dC (.int 2))) dNoPart)) (dConsA (dC (.int 2)) dNilA))) (dConsA (dTup (dConsA (dOp (dAdd false) (dSl false (dVar 2) dNoPart (dPart (dC (.int 2)))) (dLst false (dConsA (dC (.str "kind zzqzzq 1")) dNilA))) (dConsA (dC (.int 3)) dNilA))) dNilA)))) (dgName 11))
    (dSeq (dAsg (dOp (dAdd false) (dVar 11) (dLst false (dConsA (dTup (dConsA (dOp (dAdd false) (dSl false (dVar 2) dNoPart (dPart (dC (.int 2)))) (dLst false (dConsA (dC (.str "sight 1 1")) dNilA))) (dConsA (dC (.int 3)) dNilA))) (dConsA (dTup (dConsA (dOp (dAdd false) (dSl false (dVar 2) dNoPart (dPart (dC (.int 1)))) (dLst false (dConsA (dC (.str "sight 1 1")) dNilA))) (dConsA (dC (.int 2)) dNilA))) dNilA)))) (dgName 11))
    (dRet (dOp dIx (dVar 11) (dCall P__law_draw (dConsA (dVar 0) (dConsA (dC (.int 5)) dNilA))))))) dNext)
    (td__law_spoilt_1 ))
def td__law_spoilt_3  : DS :=
  (dSeq (dIfS (dTest (dOp (dCmp fun i j => decide (i < j)) (dVar 3) (dC (.int 8)))) (dRet (dCall P__law_many (dConsA (dVar 0) (dConsA (dVar 1) (dConsA (dVar 2) (dConsA (dVar 5) dNilA)))))) dNext)
    (td__law_spoilt_2 ))
def td__law_spoilt_4  : DS :=
  (dSeq (dIfS (dTest (dOp (dCmp fun i j => decide (i < j)) (dVar 3) (dC (.int 7)))) (dSeq (dAsg (dOp (dAdd false) (dVar 5) (dCall P__law_draw (dConsA (dVar 0) (dConsA (dOp dSub (dOp (dAdd false) (dCB dLen (dConsA (dVar 2) dNilA)) (dC (.int 1))) (dVar 5)) dNilA)))) (dgName 9))
    (dSeq (dAsg (dCall P__law_odd_sight (dConsA (dVar 0) (dConsA (dVar 4) dNilA))) (dgName 10))
    (dIfS (dOrT (dTest (dOp (dIn true) (dSl false (dVar 10) dNoPart (dPart (dC (.int 4)))) (dTup (dConsA (dC (.str "kind")) (dConsA (dC (.str "lamp")) dNilA))))) (dTest (dOp (dCmp fun i j => decide (j < i)) (dVar 9) (dVar 5)))) (dRet (dTup (dConsA (dOp (dAdd false) (dOp (dAdd false) (dSl false (dVar 2) dNoPart (dPart (dVar 9))) (dLst false (dConsA (dVar 10) dNilA))) (dSl false (dVar 2) (dPart (dVar 9)) dNoPart)) (dConsA (dOp (dAdd false) (dVar 9) (dC (.int 1))) dNilA)))) dNext))) dNext)
    (td__law_spoilt_3 ))
def td__law_spoilt_5  : DS :=
  (dSeq (dIfS (dTest (dOp (dEqn false) (dVar 3) (dC (.int 2)))) (dSeq (dAsg (dOp (dAdd false) (dC (.int 2)) (dCall P__law_draw (dConsA (dVar 0) (dConsA (dOp dSub (dVar 5) (dC (.int 1))) dNilA)))) (dgName 9))
    (dRet (dTup (dConsA (dOp (dAdd false) (dOp (dAdd false) (dSl false (dVar 2) dNoPart (dPart (dVar 9))) (dLst false (dConsA (dCall P__law_odd_lamp (dConsA (dVar 0) (dConsA (dVar 4) dNilA))) dNilA))) (dSl false (dVar 2) (dPart (dVar 9)) dNoPart)) (dConsA (dOp (dAdd false) (dVar 9) (dC (.int 1))) dNilA))))) dNext)
    (td__law_spoilt_4 ))
def td__law_spoilt_6  : DS :=
  (dSeq (dIfS (dTest (dOp (dEqn false) (dVar 3) (dC (.int 1)))) (dSeq (dAsg (dOp dIx (dLst false (dConsA (dC (.int 3)) (dConsA (dVar 5) dNilA))) (dCall P__law_draw (dConsA (dVar 0) (dConsA (dC (.int 2)) dNilA)))) (dgName 9))
    (dRet (dTup (dConsA (dOp (dAdd false) (dOp (dAdd false) (dSl false (dVar 2) dNoPart (dPart (dVar 9))) (dLst false (dConsA (dCall P__law_odd_kind (dConsA (dVar 0) (dConsA (dOp dIx (dOp dIx (dOp dIx (dVar 1) (dC (.int 1))) (dC (.int 0))) (dC (.int 0))) dNilA))) dNilA))) (dSl false (dVar 2) (dPart (dVar 9)) dNoPart)) (dConsA (dOp (dAdd false) (dVar 9) (dC (.int 1))) dNilA))))) dNext)
    (td__law_spoilt_5 ))
def td__law_spoilt  : DS :=
  (dSeq (dAsg (dCall P__law_draw (dConsA (dVar 0) (dConsA (dC (.int 10)) dNilA))) (dgName 3))
    (dSeq (dAsg (dOp dIx (dOp dIx (dVar 1) (dC (.int 0))) (dC (.int 0))) (dgName 4))
    (dSeq (dAsg (dOp (dAdd false) (dC (.int 1)) (dCB dSum (dConsA (dLc false (diSeq (dOp dIx (dVar 1) (dC (.int 1)))) (dgTup [6, 7, 8]) dYes (dOp (dAdd false) (dC (.int 1)) (dCB dLen (dConsA (dVar 8) dNilA))) [6, 7, 8]) dNilA))) (dgName 5))
    (dSeq (dIfS (dTest (dOp (dEqn false) (dVar 3) (dC (.int 0)))) (dRet (dTup (dConsA (dOp (dAdd false) (dLst false (dConsA (dCall P__law_odd_first (dConsA (dVar 0) dNilA)) dNilA)) (dSl false (dVar 2) (dPart (dC (.int 1))) dNoPart)) (dConsA (dC (.int 1)) dNilA)))) dNext)
    (td__law_spoilt_6 )))))
def td__law_spread_1  : DS :=
  (dSeq (dDrop (dBML dAppend (dVar 4) (dConsA (dVar 7) dNilA)))
    (dIfS (dTest (dOp (dEqn false) (dOp (dAdd false) (dVar 6) (dC (.int 1))) (dVar 2))) (dAsg (dCB dLen (dConsA (dVar 4) dNilA)) (dgName 5)) dNext))
def td__law_spread_2  : DS :=
  (dSeq (dAsg (dCall P__law_draw (dConsA (dVar 0) (dConsA (dC (.int 3)) dNilA))) (dgName 3))
    (dSeq (dAsg (dLst true dNilA) (dgName 4))
    (dSeq (dAsg (dC (.int 0)) (dgName 5))
    (dSeq (dFor (diEnum (dConsA (dVar 1) dNilA)) (dgTup [6, 7]) (dSeq (dIfS (dAndT (dTest (dOp (dCmp fun i j => decide (j < i)) (dVar 3) (dC (.int 0)))) (dTest (dOp (dEqn false) (dCall P__law_draw (dConsA (dVar 0) (dConsA (dC (.int 3)) dNilA))) (dC (.int 0))))) (dAsg (dOp (dAdd true) (dVar 4) (dOp (dMul false) (dLst false (dConsA (dOp dIx (dLst false (dConsA (dC (.str "")) (dConsA (dC (.str "# so ~")) (dConsA (dC (.str "   ")) (dConsA (dC (.str " # kind")) dNilA))))) (dCall P__law_draw (dConsA (dVar 0) (dConsA (dC (.int 4)) dNilA)))) dNilA)) (dOp (dAdd false) (dC (.int 1)) (dCall P__law_draw (dConsA (dVar 0) (dConsA (dC (.int 2)) dNilA)))))) (dgName 4)) dNext)
    (td__law_spread_1 )))
    (dRet (dTup (dConsA (dVar 4) (dConsA (dVar 5) dNilA))))))))
def td__law_spread  : DS :=
  (dSeq (dIfS (dTest (dOp (dEqn false) (dVar 2) (dC (.int 0)))) (dRet (dTup (dConsA (dVar 1) (dConsA (dOp (dAdd false) (dCB dMax2 (dConsA (dC (.int 1)) (dConsA (dCB dLen (dConsA (dVar 1) dNilA)) dNilA))) (dC (.int 1))) dNilA)))) dNext)
    (td__law_spread_2 ))
def td_law (isa : Value → Value → Option Bool)  : DS :=
  (dSeq (dAsg (dCall P__law_begun (dConsA (dVar 0) dNilA)) (dgName 1))
    (dSeq (dAsg (dCall P__law_fleet (dConsA (dVar 1) dNilA)) (dgName 2))
    (dSeq (dAsg (dCall P__law_lines (dConsA (dVar 2) (dConsA (dCall P__law_sights (dConsA (dVar 1) (dConsA (dVar 2) (dConsA (dC (.int 14)) dNilA)))) dNilA))) (dgName 3))
    (dSeq (dIfS (dTest (dOp (dEqn false) (dCall P__law_draw (dConsA (dVar 1) (dConsA (dC (.int 10)) dNilA))) (dC (.int 0)))) (dSeq (dAsg (dCall P__law_spread (dConsA (dVar 1) (dConsA (dVar 3) (dConsA (dC (.int 1)) dNilA)))) (dgTup [4, 5]))
    (dRet (dAndV (dOp (dIsN false) (dCall P__law_refused (dConsA (dM1 dJoin (dC (.str "\n")) (dVar 4)) dNilA)) (dC .non)) (dOp (dIsN false) (dCall P__law_refused (dConsA (dOp (dAdd false) (dM1 dJoin (dC (.str "\n")) (dVar 3)) (dC (.str "\n"))) dNilA)) (dC .non))))) dNext)
    (dSeq (dFor (diRng1 (dConsA (dC (.int 3)) dNilA)) (dgName 6) (dSeq (dAsg (dCall P__law_spoilt (dConsA (dVar 1) (dConsA (dVar 2) (dConsA (dVar 3) dNilA)))) (dgTup [4, 5]))
    (dSeq (dIfS (dAndT (dTest (dOp (dCmp fun i j => decide (j < i)) (dVar 5) (dC (.int 0)))) (dTest (dOp (dEqn false) (dCall P__law_draw (dConsA (dVar 1) (dConsA (dC (.int 2)) dNilA))) (dC (.int 1))))) (dAsg (dOp (dAdd false) (dVar 4) (dOp dIx (dLst false (dConsA (dLst false (dConsA (dC (.str "no line")) (dConsA (dC (.str "?")) dNilA))) (dConsA (dLst false (dConsA (dC (.str "colours # \t")) (dConsA (dC (.str "5")) dNilA))) dNilA))) (dCall P__law_draw (dConsA (dVar 1) (dConsA (dC (.int 2)) dNilA))))) (dgName 4)) dNext)
    (dSeq (dAsg (dCall P__law_spread (dConsA (dVar 1) (dConsA (dVar 4) (dConsA (dVar 5) dNilA)))) (dgTup [4, 5]))
    (dFor (diRng1 (dConsA (dC (.int 2)) dNilA)) (dgName 7) (dSeq (dAsg (dCall P__law_refused (dConsA (dM1 dJoin (dC (.str "\n")) (dVar 4)) dNilA)) (dgName 8))
    (dIfS (dOrT (dTest (dOp (dEqn true) (dVar 8) (dLst false (dConsA (dVar 5) dNilA)))) (dTru (dCB (dIsi isa) (dConsA (dOp dIx (dVar 8) (dC (.int 0))) (dConsA (dC (.ty "bool")) dNilA))))) (dRet (dC (.bl false))) dNext)))))))
    (dRet (dOp (dEqn false) (dCall P__law_refused (dConsA (dOp dIx (dLst false (dConsA (dC .non) (dConsA (dC (.int 5)) (dConsA (dLst false (dConsA (dC (.str "colours a")) dNilA)) (dConsA (dC (.bl true)) (dConsA (dTup (dConsA (dC (.str "colours a")) dNilA)) (dConsA dDNew dNilA))))))) (dCall P__law_draw (dConsA (dVar 1) (dConsA (dC (.int 6)) dNilA)))) dNilA)) (dLst false (dConsA (dC (.int 0)) dNilA)))))))))

abbrev N_is_name : List Str := ["word", "sign"]
abbrev N_number_of : List Str := ["word", "most", "number"]
abbrev N_colours_of : List Str := ["words", "names", "name"]
abbrev N_kind_of : List Str := ["words", "turn"]
abbrev N_lamp_of : List Str := ["words", "colours", "first", "last"]
abbrev N_sight_of : List Str := ["words", "colours", "moment", "side", "column", "colour"]
abbrev N_words_of : List Str := ["line", "word"]
abbrev N_Draft___init__ : List Str := ["self"]
abbrev N_Draft_lacks : List Str := ["self"]
abbrev N_Draft__may_begin_kind : List Str := ["self"]
abbrev N_Draft__take_colours : List Str := ["self", "words", "colours"]
abbrev N_Draft__take_kind : List Str := ["self", "words", "row", "kind", "turn", "other"]
abbrev N_Draft__take_lamp : List Str := ["self", "words", "lamp", "lamps"]
abbrev N_Draft__take_sight : List Str := ["self", "words", "sight"]
abbrev N_Draft_take : List Str := ["self", "words", "word"]
abbrev N_Draft_told : List Str := ["self", "kinds", "kind", "turn", "lamps"]
abbrev N__law_mixed : List Str := ["_law_cell", "_law_k", "_law_number"]
abbrev N__law_folded : List Str := ["_law_script", "_law_found", "_law_k", "_law_cell"]
abbrev N__law_draw : List Str := ["_law_m", "_law_many_here", "_law_k", "_law_at", "_law_cell"]
abbrev N__law_names : List Str := ["_law_cell", "_law_many_here", "_law_letters", "_law_k", "_law_size", "_law_at", "_law_row_here", "_law_j", "_law_found", "_law_sign", "_law_bars", "_law_name"]
abbrev N__law_lamp : List Str := ["_law_m", "_law_colours", "_law_first", "_law_wide"]
abbrev N__law_lamps : List Str := ["_law_m", "_law_colours", "_law_rows", "_law_k", "_law_lamps_here", "_law_at", "_law_way", "_law_colour", "_law_first", "_law_last"]
abbrev N__law_fleet : List Str := ["_law_m", "_law_great", "_law_colours", "_law_rows", "_law_name", "_law_turn"]
abbrev N__law_column : List Str := ["_law_fleet_here", "_law_boat", "_law_side", "_law_bearing", "_law_found", "_law_kind", "_law_turn", "_law_lamps_here", "_law_colour", "_law_first", "_law_last"]
abbrev N__law_sights : List Str := ["_law_m", "_law_fleet_here", "_law_most", "_law_kind", "_law_turn", "_law_lamps_here", "_law_course", "_law_moment", "_law_found", "_law_k", "_law_step", "_law_side", "_law_some", "_law_at", "_law_many_here", "_law_j"]
abbrev N__law_begun : List Str := ["_law_script", "_law_m", "_law_seeds", "_law_k"]
abbrev N__law_row : List Str := ["_law_words", "_law_word"]
abbrev N__law_sight_row : List Str := ["_law_sight"]
abbrev N__law_lines : List Str := ["_law_fleet_here", "_law_sights_here", "_law_lines_here", "_law_kind", "_law_turn", "_law_lamps_here", "_law_lamp_here", "_law_sight"]
abbrev N__law_odd_first : List Str := ["_law_m", "_law_some"]
abbrev N__law_odd_kind : List Str := ["_law_m", "_law_kind", "_law_some"]
abbrev N__law_odd_lamp : List Str := ["_law_m", "_law_colour", "_law_some"]
abbrev N__law_odd_sight : List Str := ["_law_m", "_law_colour", "_law_some"]
abbrev N__law_many : List Str := ["_law_m", "_law_fleet_here", "_law_good", "_law_heads", "_law_colour", "_law_some", "_law_way", "_law_lines_here", "_law_name"]
abbrev N__law_spoilt : List Str := ["_law_m", "_law_fleet_here", "_law_good", "_law_way", "_law_colour", "_law_heads", "_law_kind", "_law_turn", "_law_lamps_here", "_law_at", "_law_line", "_law_some", "_law_few"]
abbrev N__law_spread : List Str := ["_law_m", "_law_lines_here", "_law_due", "_law_way", "_law_found", "_law_place", "_law_k", "_law_line"]
abbrev N_law : List Str := ["_law_script", "_law_m", "_law_fleet_here", "_law_good", "_law_lines_here", "_law_due", "_law_turn", "_law_again", "_law_found"]
end DL
set_option Elab.async false
set_option linter.all false
set_option maxRecDepth 100000
set_option maxHeartbeats 4000001
namespace DL
open PySem L2
def topS (i : Nat) : Stmt := PySem.Challenge.pw_lanternwatch_k10_lines_told.main.body.getD i (.Pass ⟨0, 0, 0, 0⟩)
structure Tx (K : PySem.W.Frag) (mg : Str → Option Value) (a_ROW_WORDS Draft : Addr) : Prop where
  c_LAST_MOMENT : ∃ t, mg "LAST_MOMENT" = some (.int 99 t)
  c_LAST_POINT : ∃ t, mg "LAST_POINT" = some (.int 31 t)
  c_LETTERS : ∃ t, mg "LETTERS" = some (.str "abcdefghijklmnopqrstuvwxyz" t)
  c_LONGEST_COLUMN : ∃ t, mg "LONGEST_COLUMN" = some (.int 6 t)
  c_LONGEST_NAME : ∃ t, mg "LONGEST_NAME" = some (.int 6 t)
  c_MOST_COLOURS : ∃ t, mg "MOST_COLOURS" = some (.int 6 t)
  c_MOST_KINDS : ∃ t, mg "MOST_KINDS" = some (.int 6 t)
  c_MOST_LAMPS : ∃ t, mg "MOST_LAMPS" = some (.int 6 t)
  c_MOST_SIGHTS : ∃ t, mg "MOST_SIGHTS" = some (.int 60 t)
  c_MOST_TURN : ∃ t, mg "MOST_TURN" = some (.int 16 t)
  c_ROW_WORDS : mg "ROW_WORDS" = some (.ref a_ROW_WORDS) ∧ ∀ G, Rp K G c_ROW_WORDS (.ref a_ROW_WORDS)
  b_all : mg "all" = none
  b_bool : mg "bool" = none
  b_enumerate : mg "enumerate" = none
  b_int : mg "int" = none
  b_isinstance : mg "isinstance" = none
  b_len : mg "len" = none
  b_list : mg "list" = none
  b_max : mg "max" = none
  b_range : mg "range" = none
  b_set : mg "set" = none
  b_str : mg "str" = none
  b_sum : mg "sum" = none
  b_tuple : mg "tuple" = none
  cl_Draft : Cls K Draft
  n_Draft__colours : NoAttr K Draft "_colours"
  n_Draft__kinds : NoAttr K Draft "_kinds"
  n_Draft__sights : NoAttr K Draft "_sights"
section
variable {P : Program} {w : World} {K : PySem.W.Frag} {mg : Str → Option Value} {base : Heap} {isa : Value → Value → Option Bool} {a_ROW_WORDS Draft : Addr}
abbrev s_is_name : Stmt := (topS 20)
abbrev ps_is_name : List Str := ["word"]
theorem sc_is_name : FnScope N_is_name ps_is_name (defScope s_is_name) := ⟨rfl, rfl, rfl, by decide +kernel, rfl, by decide +kernel, by decide +kernel⟩
theorem tm_is_name (T : Tx K mg a_ROW_WORDS Draft)  : ∀ (f : Addr) (cdv : Value) (A : Around) (outer : List Env) (s : Shared) (H : Hp) (E : XK), Room 0 (A.deeper (PyProof.Rows.envOfC "is_name" (defScope s_is_name) s.heap.objs.size f cdv)) →
    PSSD (cxOf CX0 P w K mg base N_is_name "is_name" (defScope s_is_name) f cdv A outer s H E).nox (defBody s_is_name) (td_is_name ) :=
  fun f cdv A outer s H E hr => (ssd_cons (sd_if (td_w (wd_or (td_cmpR op_inG rr_in (ed_var 0) (ed_gref T.c_ROW_WORDS) (by rfl)) (wd_or1 (td_not (td_chain op_le rr_cmp op_le rr_cmp ed_int (ed_callB call_lenG rl_len T.b_len PySem.boot_len (ad_cons (ed_var 0) ad_nil)) (ed_gint T.c_LONGEST_NAME)))))) (ssd_one (sd_ret ed_bl)) ssd_nil)
    (ssd_one (sd_ret (ed_callB (cr_all rfl) rl_all T.b_all PyProof.Rows.boot_all (ad_cons (ed_lc false (own := [("sign", 1)]) rfl sc_is_name.nd (blkOk_by (own := [("sign", 1)]) (N := N_is_name) (sc := defScope s_is_name) (by decide +kernel)) (id_str (ed_var 0)) (fun _ _ _ _ _ => gc_name 1 sc_is_name.nd) (fun _ _ _ _ _ => tsd_nil) (fun _ _ _ _ _ => (ed_cmpR op_inG rr_in (ed_var 1) (ed_gstr T.c_LETTERS) (by rfl)))) ad_nil)))))
abbrev s_number_of : Stmt := (topS 21)
abbrev ps_number_of : List Str := ["word", "most"]
theorem sc_number_of : FnScope N_number_of ps_number_of (defScope s_number_of) := ⟨rfl, rfl, rfl, by decide +kernel, rfl, by decide +kernel, by decide +kernel⟩
theorem tm_number_of (T : Tx K mg a_ROW_WORDS Draft)  : ∀ (f : Addr) (cdv : Value) (A : Around) (outer : List Env) (s : Shared) (H : Hp) (E : XK), Room 0 (A.deeper (PyProof.Rows.envOfC "number_of" (defScope s_number_of) s.heap.objs.size f cdv)) →
    PSSD (cxOf CX0 P w K mg base N_number_of "number_of" (defScope s_number_of) f cdv A outer s H E).nox (defBody s_number_of) (td_number_of ) :=
  fun f cdv A outer s H E hr => (ssd_cons (sd_for PassesOwn.never rfl (id_rng1 T.b_range (ad_cons (ed_add false (ed_var 1) ed_int) ad_nil)) (gd_name 2 sc_number_of.nd) (ssd_one (sd_if (td_cmpR (op_eqG hr.units) rr_eq (ed_var 0) (ed_callTy call_strG rl_str T.b_str PyProof.Rows.boot_str (ad_cons (ed_var 2) ad_nil)) (nomark _)) (ssd_one (sd_ret (ed_var 2))) ssd_nil)))
    (ssd_one (sd_ret ed_non)))
abbrev s_colours_of : Stmt := (topS 22)
abbrev ps_colours_of : List Str := ["words"]
theorem sc_colours_of : FnScope N_colours_of ps_colours_of (defScope s_colours_of) := ⟨rfl, rfl, rfl, by decide +kernel, rfl, by decide +kernel, by decide +kernel⟩
theorem tm_colours_of (T : Tx K mg a_ROW_WORDS Draft) (h_is_name : DefAt P w K mg base "is_name" 1 ps_is_name P_is_name) : ∀ (f : Addr) (cdv : Value) (A : Around) (outer : List Env) (s : Shared) (H : Hp) (E : XK), Room 1 (A.deeper (PyProof.Rows.envOfC "colours_of" (defScope s_colours_of) s.heap.objs.size f cdv)) →
    PSSD (cxOf CX0 P w K mg base N_colours_of "colours_of" (defScope s_colours_of) f cdv A outer s H E).nox (defBody s_colours_of) (td_colours_of ) :=
  fun f cdv A outer s H E hr => (ssd_cons (sd_set 1 sc_colours_of.nd (ed_sl false (ed_var 0) (od_some ed_int) od_none))
    (ssd_cons (sd_if (td_w (wd_or (td_not (td_chain op_le rr_cmp op_le rr_cmp ed_int (ed_callB call_lenG rl_len T.b_len PySem.boot_len (ad_cons (ed_var 1) ad_nil)) (ed_gint T.c_MOST_COLOURS))) (wd_or1 (td_cmpR op_lt rr_cmp (ed_lenSet T.b_len T.b_set (ed_var 1)) (ed_callB call_lenG rl_len T.b_len PySem.boot_len (ad_cons (ed_var 1) ad_nil)) (nomark _))))) (ssd_one (sd_ret ed_non)) ssd_nil)
    (ssd_cons (sd_if (td_not (td_tru (ed_callB (cr_all rfl) rl_all T.b_all PyProof.Rows.boot_all (ad_cons (ed_lc false (own := [("name", 2)]) rfl sc_colours_of.nd (blkOk_by (own := [("name", 2)]) (N := N_colours_of) (sc := defScope s_colours_of) (by decide +kernel)) (id_seq (ed_var 1)) (fun _ _ _ _ _ => gc_name 2 sc_colours_of.nd) (fun _ _ _ _ _ => tsd_nil) (fun _ _ _ _ _ => (ed_callD h_is_name (hr.mono (by decide)) (ad_cons (ed_var 2) ad_nil)))) ad_nil)))) (ssd_one (sd_ret ed_non)) ssd_nil)
    (ssd_one (sd_ret (ed_callTy call_tuple_of rl_tupOf T.b_tuple PyProof.Rows.boot_tuple (ad_cons (ed_var 1) ad_nil)))))))
abbrev s_kind_of : Stmt := (topS 23)
abbrev ps_kind_of : List Str := ["words"]
theorem sc_kind_of : FnScope N_kind_of ps_kind_of (defScope s_kind_of) := ⟨rfl, rfl, rfl, by decide +kernel, rfl, by decide +kernel, by decide +kernel⟩
theorem tm_kind_of (T : Tx K mg a_ROW_WORDS Draft) (h_is_name : DefAt P w K mg base "is_name" 1 ps_is_name P_is_name) (h_number_of : DefAt P w K mg base "number_of" 1 ps_number_of P_number_of) : ∀ (f : Addr) (cdv : Value) (A : Around) (outer : List Env) (s : Shared) (H : Hp) (E : XK), Room 1 (A.deeper (PyProof.Rows.envOfC "kind_of" (defScope s_kind_of) s.heap.objs.size f cdv)) →
    PSSD (cxOf CX0 P w K mg base N_kind_of "kind_of" (defScope s_kind_of) f cdv A outer s H E).nox (defBody s_kind_of) (td_kind_of ) :=
  fun f cdv A outer s H E hr => (ssd_cons (sd_if (td_w (wd_or (td_cmpR (op_neG hr.units) rr_ne (ed_callB call_lenG rl_len T.b_len PySem.boot_len (ad_cons (ed_var 0) ad_nil)) ed_int (nomark _)) (wd_or1 (td_not (td_tru (ed_callD h_is_name (hr.mono (by decide)) (ad_cons (ed_ix (ed_var 0) ed_int) ad_nil))))))) (ssd_one (sd_ret ed_non)) ssd_nil)
    (ssd_cons (sd_set 1 sc_kind_of.nd (ed_callD h_number_of (hr.mono (by decide)) (ad_cons (ed_ix (ed_var 0) ed_int) (ad_cons (ed_gint T.c_MOST_TURN) ad_nil))))
    (ssd_cons (sd_if (td_cmpR op_isN rr_isN (ed_var 1) ed_non (nomark _)) (ssd_one (sd_ret ed_non)) ssd_nil)
    (ssd_one (sd_ret (ed_tup (ad_cons (ed_ix (ed_var 0) ed_int) (ad_cons (ed_var 1) ad_nil))))))))
abbrev s_lamp_of : Stmt := (topS 24)
abbrev ps_lamp_of : List Str := ["words", "colours"]
theorem sc_lamp_of : FnScope N_lamp_of ps_lamp_of (defScope s_lamp_of) := ⟨rfl, rfl, rfl, by decide +kernel, rfl, by decide +kernel, by decide +kernel⟩
theorem tm_lamp_of (T : Tx K mg a_ROW_WORDS Draft) (h_number_of : DefAt P w K mg base "number_of" 1 ps_number_of P_number_of) : ∀ (f : Addr) (cdv : Value) (A : Around) (outer : List Env) (s : Shared) (H : Hp) (E : XK), Room 1 (A.deeper (PyProof.Rows.envOfC "lamp_of" (defScope s_lamp_of) s.heap.objs.size f cdv)) →
    PSSD (cxOf CX0 P w K mg base N_lamp_of "lamp_of" (defScope s_lamp_of) f cdv A outer s H E).nox (defBody s_lamp_of) (td_lamp_of ) :=
  fun f cdv A outer s H E hr => (ssd_cons (sd_if (td_w (wd_or (td_cmpR (op_neG hr.units) rr_ne (ed_callB call_lenG rl_len T.b_len PySem.boot_len (ad_cons (ed_var 0) ad_nil)) ed_int (nomark _)) (wd_or1 (td_cmpR op_notInG rr_in (ed_ix (ed_var 0) ed_int) (ed_var 1) (by rfl))))) (ssd_one (sd_ret ed_non)) ssd_nil)
    (ssd_cons (sd_set 2 sc_lamp_of.nd (ed_callD h_number_of (hr.mono (by decide)) (ad_cons (ed_ix (ed_var 0) ed_int) (ad_cons (ed_gint T.c_LAST_POINT) ad_nil))))
    (ssd_cons (sd_set 3 sc_lamp_of.nd (ed_callD h_number_of (hr.mono (by decide)) (ad_cons (ed_ix (ed_var 0) ed_int) (ad_cons (ed_gint T.c_LAST_POINT) ad_nil))))
    (ssd_cons (sd_if (td_w (wd_or (td_cmpR op_isN rr_isN (ed_var 2) ed_non (nomark _)) (wd_or1 (td_cmpR op_isN rr_isN (ed_var 3) ed_non (nomark _))))) (ssd_one (sd_ret ed_non)) ssd_nil)
    (ssd_one (sd_ret (ed_tup (ad_cons (ed_ix (ed_var 0) ed_int) (ad_cons (ed_var 2) (ad_cons (ed_var 3) ad_nil))))))))))
abbrev s_sight_of : Stmt := (topS 25)
abbrev ps_sight_of : List Str := ["words", "colours"]
theorem sc_sight_of : FnScope N_sight_of ps_sight_of (defScope s_sight_of) := ⟨rfl, rfl, rfl, by decide +kernel, rfl, by decide +kernel, by decide +kernel⟩
theorem tm_sight_of (T : Tx K mg a_ROW_WORDS Draft) (h_number_of : DefAt P w K mg base "number_of" 1 ps_number_of P_number_of) : ∀ (f : Addr) (cdv : Value) (A : Around) (outer : List Env) (s : Shared) (H : Hp) (E : XK), Room 1 (A.deeper (PyProof.Rows.envOfC "sight_of" (defScope s_sight_of) s.heap.objs.size f cdv)) →
    PSSD (cxOf CX0 P w K mg base N_sight_of "sight_of" (defScope s_sight_of) f cdv A outer s H E).nox (defBody s_sight_of) (td_sight_of ) :=
  fun f cdv A outer s H E hr => (ssd_cons (sd_if (td_not (td_chain op_le rr_cmp op_le rr_cmp ed_int (ed_callB call_lenG rl_len T.b_len PySem.boot_len (ad_cons (ed_var 0) ad_nil)) (ed_add false ed_int (ed_gint T.c_LONGEST_COLUMN)))) (ssd_one (sd_ret ed_non)) ssd_nil)
    (ssd_cons (sd_set 2 sc_sight_of.nd (ed_callD h_number_of (hr.mono (by decide)) (ad_cons (ed_ix (ed_var 0) ed_int) (ad_cons (ed_gint T.c_LAST_MOMENT) ad_nil))))
    (ssd_cons (sd_set 3 sc_sight_of.nd (ed_callD h_number_of (hr.mono (by decide)) (ad_cons (ed_ix (ed_var 0) ed_int) (ad_cons (ed_gint T.c_LAST_POINT) ad_nil))))
    (ssd_cons (sd_set 4 sc_sight_of.nd (ed_callTy call_tuple_of rl_tupOf T.b_tuple PyProof.Rows.boot_tuple (ad_cons (ed_sl false (ed_var 0) (od_some ed_int) od_none) ad_nil)))
    (ssd_cons (sd_if (td_w (wd_or (td_cmpR op_isN rr_isN (ed_var 2) ed_non (nomark _)) (wd_or1 (td_cmpR op_isN rr_isN (ed_var 3) ed_non (nomark _))))) (ssd_one (sd_ret ed_non)) ssd_nil)
    (ssd_cons (sd_if (td_not (td_tru (ed_callB (cr_all rfl) rl_all T.b_all PyProof.Rows.boot_all (ad_cons (ed_lc false (own := [("colour", 5)]) rfl sc_sight_of.nd (blkOk_by (own := [("colour", 5)]) (N := N_sight_of) (sc := defScope s_sight_of) (by decide +kernel)) (id_seq (ed_var 4)) (fun _ _ _ _ _ => gc_name 5 sc_sight_of.nd) (fun _ _ _ _ _ => tsd_nil) (fun _ _ _ _ _ => (ed_cmpR op_inG rr_in (ed_var 5) (ed_var 1) (by rfl)))) ad_nil)))) (ssd_one (sd_ret ed_non)) ssd_nil)
    (ssd_one (sd_ret (ed_tup (ad_cons (ed_var 2) (ad_cons (ed_var 3) (ad_cons (ed_var 4) ad_nil))))))))))))
abbrev s_words_of : Stmt := (topS 31)
abbrev ps_words_of : List Str := ["line"]
theorem sc_words_of : FnScope N_words_of ps_words_of (defScope s_words_of) := ⟨rfl, rfl, rfl, by decide +kernel, rfl, by decide +kernel, by decide +kernel⟩
theorem tm_words_of (T : Tx K mg a_ROW_WORDS Draft)  : ∀ (f : Addr) (cdv : Value) (A : Around) (outer : List Env) (s : Shared) (H : Hp) (E : XK), Room 0 (A.deeper (PyProof.Rows.envOfC "words_of" (defScope s_words_of) s.heap.objs.size f cdv)) →
    PSSD (cxOf CX0 P w K mg base N_words_of "words_of" (defScope s_words_of) f cdv A outer s H E).nox (defBody s_words_of) (td_words_of ) :=
  fun f cdv A outer s H E hr => (ssd_one (sd_ret (ed_lc false (own := [("word", 1)]) rfl sc_words_of.nd (blkOk_by (own := [("word", 1)]) (N := N_words_of) (sc := defScope s_words_of) (by decide +kernel)) (id_seq (ed_split false (ed_ix (ed_split false (ed_var 0) ed_str) ed_int) ed_str)) (fun _ _ _ _ _ => gc_name 1 sc_words_of.nd) (fun _ _ _ _ _ => tsd_one (td_tru (ed_var 1))) (fun _ _ _ _ _ => (ed_var 1)))))
abbrev s_Draft___init__ : Stmt := (inClass (topS 30) 0)
abbrev ps_Draft___init__ : List Str := ["self"]
theorem sc_Draft___init__ : FnScope N_Draft___init__ ps_Draft___init__ (defScope s_Draft___init__) := ⟨rfl, rfl, rfl, by decide +kernel, rfl, by decide +kernel, by decide +kernel⟩
theorem tm_Draft___init__ (T : Tx K mg a_ROW_WORDS Draft)  : ∀ (f : Addr) (cdv : Value) (A : Around) (outer : List Env) (s : Shared) (H : Hp) (E : XK), Room 0 (A.deeper (PyProof.Rows.envOfC "Draft.__init__" (defScope s_Draft___init__) s.heap.objs.size f cdv)) →
    PSSD (cxOf CX0 P w K mg base N_Draft___init__ "Draft.__init__" (defScope s_Draft___init__) f cdv A outer s H E).nox (defBody s_Draft___init__) (td_Draft___init__ Draft) :=
  fun f cdv A outer s H E hr => (ssd_cons (sd_fld T.cl_Draft T.n_Draft__colours (ed_var 0) (ed_tup ad_nil))
    (ssd_cons (sd_fld T.cl_Draft T.n_Draft__kinds (ed_var 0) (ed_lst true ad_nil))
    (ssd_one (sd_fld T.cl_Draft T.n_Draft__sights (ed_var 0) (ed_lst true ad_nil)))))
abbrev s_Draft_lacks : Stmt := (inClass (topS 30) 2)
abbrev ps_Draft_lacks : List Str := ["self"]
theorem sc_Draft_lacks : FnScope N_Draft_lacks ps_Draft_lacks (defScope s_Draft_lacks) := ⟨rfl, rfl, rfl, by decide +kernel, rfl, by decide +kernel, by decide +kernel⟩
theorem tm_Draft_lacks (T : Tx K mg a_ROW_WORDS Draft)  : ∀ (f : Addr) (cdv : Value) (A : Around) (outer : List Env) (s : Shared) (H : Hp) (E : XK), Room 0 (A.deeper (PyProof.Rows.envOfC "Draft.lacks" (defScope s_Draft_lacks) s.heap.objs.size f cdv)) →
    PSSD (cxOf CX0 P w K mg base N_Draft_lacks "Draft.lacks" (defScope s_Draft_lacks) f cdv A outer s H E).nox (defBody s_Draft_lacks) (td_Draft_lacks Draft) :=
  fun f cdv A outer s H E hr => (ssd_one (sd_ret (ed_or (ed_not (ed_fld T.cl_Draft T.n_Draft__kinds (ed_var 0))) (ed_one (ed_not (ed_ix (ed_ix (ed_fld T.cl_Draft T.n_Draft__kinds (ed_var 0)) (ed_neg ed_int)) ed_int))))))
abbrev s_Draft__may_begin_kind : Stmt := (inClass (topS 30) 6)
abbrev ps_Draft__may_begin_kind : List Str := ["self"]
theorem sc_Draft__may_begin_kind : FnScope N_Draft__may_begin_kind ps_Draft__may_begin_kind (defScope s_Draft__may_begin_kind) := ⟨rfl, rfl, rfl, by decide +kernel, rfl, by decide +kernel, by decide +kernel⟩
theorem tm_Draft__may_begin_kind (T : Tx K mg a_ROW_WORDS Draft) (h_Draft_lacks : MethAt P w K mg base Draft "lacks" 1 ps_Draft_lacks (P_Draft_lacks Draft)) : ∀ (f : Addr) (cdv : Value) (A : Around) (outer : List Env) (s : Shared) (H : Hp) (E : XK), Room 1 (A.deeper (PyProof.Rows.envOfC "Draft._may_begin_kind" (defScope s_Draft__may_begin_kind) s.heap.objs.size f cdv)) →
    PSSD (cxOf CX0 P w K mg base N_Draft__may_begin_kind "Draft._may_begin_kind" (defScope s_Draft__may_begin_kind) f cdv A outer s H E).nox (defBody s_Draft__may_begin_kind) (td_Draft__may_begin_kind Draft) :=
  fun f cdv A outer s H E hr => (ssd_cons (sd_if (td_w (wd_or (td_not (td_tru (ed_fld T.cl_Draft T.n_Draft__colours (ed_var 0)))) (wd_or1 (td_tru (ed_fld T.cl_Draft T.n_Draft__sights (ed_var 0)))))) (ssd_one (sd_ret ed_bl)) ssd_nil)
    (ssd_one (sd_ret (ed_or (ed_not (ed_fld T.cl_Draft T.n_Draft__kinds (ed_var 0))) (ed_one (ed_and (ed_not (ed_methD0 (ed_var 0) T.cl_Draft h_Draft_lacks (hr.mono (by decide)))) (ed_one (ed_cmpR op_lt rr_cmp (ed_callB call_lenG rl_len T.b_len PySem.boot_len (ad_cons (ed_fld T.cl_Draft T.n_Draft__kinds (ed_var 0)) ad_nil)) (ed_gint T.c_MOST_KINDS) (nomark _)))))))))
abbrev s_Draft__take_colours : Stmt := (inClass (topS 30) 4)
abbrev ps_Draft__take_colours : List Str := ["self", "words"]
theorem sc_Draft__take_colours : FnScope N_Draft__take_colours ps_Draft__take_colours (defScope s_Draft__take_colours) := ⟨rfl, rfl, rfl, by decide +kernel, rfl, by decide +kernel, by decide +kernel⟩
theorem tm_Draft__take_colours (T : Tx K mg a_ROW_WORDS Draft) (h_colours_of : DefAt P w K mg base "colours_of" 2 ps_colours_of P_colours_of) : ∀ (f : Addr) (cdv : Value) (A : Around) (outer : List Env) (s : Shared) (H : Hp) (E : XK), Room 2 (A.deeper (PyProof.Rows.envOfC "Draft._take_colours" (defScope s_Draft__take_colours) s.heap.objs.size f cdv)) →
    PSSD (cxOf CX0 P w K mg base N_Draft__take_colours "Draft._take_colours" (defScope s_Draft__take_colours) f cdv A outer s H E).nox (defBody s_Draft__take_colours) (td_Draft__take_colours Draft) :=
  fun f cdv A outer s H E hr => (ssd_cons (sd_set 2 sc_Draft__take_colours.nd (ed_callD h_colours_of (hr.mono (by decide)) (ad_cons (ed_var 1) ad_nil)))
    (ssd_cons (sd_if (td_w (wd_or (td_tru (ed_fld T.cl_Draft T.n_Draft__colours (ed_var 0))) (wd_or1 (td_cmpR op_isN rr_isN (ed_var 2) ed_non (nomark _))))) (ssd_one (sd_ret ed_bl)) ssd_nil)
    (ssd_cons (sd_fld T.cl_Draft T.n_Draft__colours (ed_var 0) (ed_var 2))
    (ssd_one (sd_ret ed_bl)))))
abbrev s_Draft__take_kind : Stmt := (inClass (topS 30) 5)
abbrev ps_Draft__take_kind : List Str := ["self", "words"]
theorem sc_Draft__take_kind : FnScope N_Draft__take_kind ps_Draft__take_kind (defScope s_Draft__take_kind) := ⟨rfl, rfl, rfl, by decide +kernel, rfl, by decide +kernel, by decide +kernel⟩
theorem tm_Draft__take_kind (T : Tx K mg a_ROW_WORDS Draft) (h_kind_of : DefAt P w K mg base "kind_of" 2 ps_kind_of P_kind_of) (h_Draft__may_begin_kind : MethAt P w K mg base Draft "_may_begin_kind" 2 ps_Draft__may_begin_kind (P_Draft__may_begin_kind Draft)) : ∀ (f : Addr) (cdv : Value) (A : Around) (outer : List Env) (s : Shared) (H : Hp) (E : XK), Room 2 (A.deeper (PyProof.Rows.envOfC "Draft._take_kind" (defScope s_Draft__take_kind) s.heap.objs.size f cdv)) →
    PSSD (cxOf CX0 P w K mg base N_Draft__take_kind "Draft._take_kind" (defScope s_Draft__take_kind) f cdv A outer s H E).nox (defBody s_Draft__take_kind) (td_Draft__take_kind Draft) :=
  fun f cdv A outer s H E hr => (ssd_cons (sd_set 2 sc_Draft__take_kind.nd (ed_callD h_kind_of (hr.mono (by decide)) (ad_cons (ed_var 1) ad_nil)))
    (ssd_cons (sd_if (td_w (wd_or (td_cmpR op_isN rr_isN (ed_var 2) ed_non (nomark _)) (wd_or1 (td_not (td_tru (ed_methD0 (ed_var 0) T.cl_Draft h_Draft__may_begin_kind (hr.mono (by decide)))))))) (ssd_one (sd_ret ed_bl)) ssd_nil)
    (ssd_cons (sd_asg (ed_var 2) (gd_tup rfl (gsd_cons (gd_name 3 sc_Draft__take_kind.nd) (gsd_cons (gd_name 4 sc_Draft__take_kind.nd) gsd_nil)) rfl))
    (ssd_cons (sd_if (td_cmpR op_inG rr_in (ed_var 3) (ed_lc false (own := [("other", 5)]) rfl sc_Draft__take_kind.nd (blkOk_by (own := [("other", 5)]) (N := N_Draft__take_kind) (sc := defScope s_Draft__take_kind) (by decide +kernel)) (id_seq (ed_fld T.cl_Draft T.n_Draft__kinds (ed_var 0))) (fun _ _ _ _ _ => gc_name 5 sc_Draft__take_kind.nd) (fun _ _ _ _ _ => tsd_nil) (fun _ _ _ _ _ => (ed_ix (ed_var 5) ed_int))) (by rfl)) (ssd_one (sd_ret ed_bl)) ssd_nil)
    (ssd_cons (sd_expr (ed_append (ed_fld T.cl_Draft T.n_Draft__kinds (ed_var 0)) (ad_cons (ed_tup (ad_cons (ed_var 3) (ad_cons (ed_var 4) (ad_cons (ed_lst true ad_nil) ad_nil)))) ad_nil)))
    (ssd_one (sd_ret ed_bl)))))))
abbrev s_Draft__take_lamp : Stmt := (inClass (topS 30) 7)
abbrev ps_Draft__take_lamp : List Str := ["self", "words"]
theorem sc_Draft__take_lamp : FnScope N_Draft__take_lamp ps_Draft__take_lamp (defScope s_Draft__take_lamp) := ⟨rfl, rfl, rfl, by decide +kernel, rfl, by decide +kernel, by decide +kernel⟩
theorem tm_Draft__take_lamp (T : Tx K mg a_ROW_WORDS Draft) (h_lamp_of : DefAt P w K mg base "lamp_of" 2 ps_lamp_of P_lamp_of) : ∀ (f : Addr) (cdv : Value) (A : Around) (outer : List Env) (s : Shared) (H : Hp) (E : XK), Room 2 (A.deeper (PyProof.Rows.envOfC "Draft._take_lamp" (defScope s_Draft__take_lamp) s.heap.objs.size f cdv)) →
    PSSD (cxOf CX0 P w K mg base N_Draft__take_lamp "Draft._take_lamp" (defScope s_Draft__take_lamp) f cdv A outer s H E).nox (defBody s_Draft__take_lamp) (td_Draft__take_lamp Draft) :=
  fun f cdv A outer s H E hr => (ssd_cons (sd_set 2 sc_Draft__take_lamp.nd (ed_callD h_lamp_of (hr.mono (by decide)) (ad_cons (ed_var 1) (ad_cons (ed_fld T.cl_Draft T.n_Draft__colours (ed_var 0)) ad_nil))))
    (ssd_cons (sd_if (td_w (wd_or (td_cmpR op_isN rr_isN (ed_var 2) ed_non (nomark _)) (wd_or (td_not (td_tru (ed_fld T.cl_Draft T.n_Draft__kinds (ed_var 0)))) (wd_or1 (td_tru (ed_fld T.cl_Draft T.n_Draft__sights (ed_var 0))))))) (ssd_one (sd_ret ed_bl)) ssd_nil)
    (ssd_cons (sd_set 3 sc_Draft__take_lamp.nd (ed_ix (ed_ix (ed_fld T.cl_Draft T.n_Draft__kinds (ed_var 0)) (ed_neg ed_int)) ed_int))
    (ssd_cons (sd_if (td_cmpR (op_eqG hr.units) rr_eq (ed_callB call_lenG rl_len T.b_len PySem.boot_len (ad_cons (ed_var 3) ad_nil)) (ed_gint T.c_MOST_LAMPS) (nomark _)) (ssd_one (sd_ret ed_bl)) ssd_nil)
    (ssd_cons (sd_expr (ed_append (ed_var 3) (ad_cons (ed_var 2) ad_nil)))
    (ssd_one (sd_ret ed_bl)))))))
abbrev s_Draft__take_sight : Stmt := (inClass (topS 30) 8)
abbrev ps_Draft__take_sight : List Str := ["self", "words"]
theorem sc_Draft__take_sight : FnScope N_Draft__take_sight ps_Draft__take_sight (defScope s_Draft__take_sight) := ⟨rfl, rfl, rfl, by decide +kernel, rfl, by decide +kernel, by decide +kernel⟩
theorem tm_Draft__take_sight (T : Tx K mg a_ROW_WORDS Draft) (h_sight_of : DefAt P w K mg base "sight_of" 2 ps_sight_of P_sight_of) (h_Draft_lacks : MethAt P w K mg base Draft "lacks" 1 ps_Draft_lacks (P_Draft_lacks Draft)) : ∀ (f : Addr) (cdv : Value) (A : Around) (outer : List Env) (s : Shared) (H : Hp) (E : XK), Room 2 (A.deeper (PyProof.Rows.envOfC "Draft._take_sight" (defScope s_Draft__take_sight) s.heap.objs.size f cdv)) →
    PSSD (cxOf CX0 P w K mg base N_Draft__take_sight "Draft._take_sight" (defScope s_Draft__take_sight) f cdv A outer s H E).nox (defBody s_Draft__take_sight) (td_Draft__take_sight Draft) :=
  fun f cdv A outer s H E hr => (ssd_cons (sd_set 2 sc_Draft__take_sight.nd (ed_callD h_sight_of (hr.mono (by decide)) (ad_cons (ed_var 1) (ad_cons (ed_fld T.cl_Draft T.n_Draft__colours (ed_var 0)) ad_nil))))
    (ssd_cons (sd_if (td_w (wd_or (td_cmpR op_isN rr_isN (ed_var 2) ed_non (nomark _)) (wd_or (td_tru (ed_methD0 (ed_var 0) T.cl_Draft h_Draft_lacks (hr.mono (by decide)))) (wd_or1 (td_cmpR (op_eqG hr.units) rr_eq (ed_callB call_lenG rl_len T.b_len PySem.boot_len (ad_cons (ed_fld T.cl_Draft T.n_Draft__sights (ed_var 0)) ad_nil)) (ed_gint T.c_MOST_SIGHTS) (nomark _)))))) (ssd_one (sd_ret ed_bl)) ssd_nil)
    (ssd_cons (sd_expr (ed_append (ed_fld T.cl_Draft T.n_Draft__sights (ed_var 0)) (ad_cons (ed_var 2) ad_nil)))
    (ssd_one (sd_ret ed_bl)))))
abbrev s_Draft_take : Stmt := (inClass (topS 30) 1)
abbrev ps_Draft_take : List Str := ["self", "words"]
theorem sc_Draft_take : FnScope N_Draft_take ps_Draft_take (defScope s_Draft_take) := ⟨rfl, rfl, rfl, by decide +kernel, rfl, by decide +kernel, by decide +kernel⟩
theorem tm_Draft_take (T : Tx K mg a_ROW_WORDS Draft) (h_Draft__take_colours : MethAt P w K mg base Draft "_take_colours" 3 ps_Draft__take_colours (P_Draft__take_colours Draft)) (h_Draft__take_kind : MethAt P w K mg base Draft "_take_kind" 3 ps_Draft__take_kind (P_Draft__take_kind Draft)) (h_Draft__take_lamp : MethAt P w K mg base Draft "_take_lamp" 3 ps_Draft__take_lamp (P_Draft__take_lamp Draft)) (h_Draft__take_sight : MethAt P w K mg base Draft "_take_sight" 3 ps_Draft__take_sight (P_Draft__take_sight Draft)) : ∀ (f : Addr) (cdv : Value) (A : Around) (outer : List Env) (s : Shared) (H : Hp) (E : XK), Room 3 (A.deeper (PyProof.Rows.envOfC "Draft.take" (defScope s_Draft_take) s.heap.objs.size f cdv)) →
    PSSD (cxOf CX0 P w K mg base N_Draft_take "Draft.take" (defScope s_Draft_take) f cdv A outer s H E).nox (defBody s_Draft_take) (td_Draft_take Draft) :=
  fun f cdv A outer s H E hr => (ssd_cons (sd_set 2 sc_Draft_take.nd (ed_ix (ed_var 1) ed_int))
    (ssd_cons (sd_if (td_cmpR (op_eqG hr.units) rr_eq (ed_var 2) ed_str (nomark _)) (ssd_one (sd_ret (ed_methD (ed_var 0) T.cl_Draft h_Draft__take_colours (hr.mono (by decide)) (ad_cons (ed_var 1) ad_nil)))) ssd_nil)
    (ssd_cons (sd_if (td_cmpR (op_eqG hr.units) rr_eq (ed_var 2) ed_str (nomark _)) (ssd_one (sd_ret (ed_methD (ed_var 0) T.cl_Draft h_Draft__take_kind (hr.mono (by decide)) (ad_cons (ed_var 1) ad_nil)))) ssd_nil)
    (ssd_cons (sd_if (td_cmpR (op_eqG hr.units) rr_eq (ed_var 2) ed_str (nomark _)) (ssd_one (sd_ret (ed_methD (ed_var 0) T.cl_Draft h_Draft__take_lamp (hr.mono (by decide)) (ad_cons (ed_var 1) ad_nil)))) ssd_nil)
    (ssd_one (sd_ret (ed_and (ed_cmpR (op_eqG hr.units) rr_eq (ed_var 2) ed_str (nomark _)) (ed_one (ed_methD (ed_var 0) T.cl_Draft h_Draft__take_sight (hr.mono (by decide)) (ad_cons (ed_var 1) ad_nil))))))))))
abbrev s_Draft_told : Stmt := (inClass (topS 30) 3)
abbrev ps_Draft_told : List Str := ["self"]
theorem sc_Draft_told : FnScope N_Draft_told ps_Draft_told (defScope s_Draft_told) := ⟨rfl, rfl, rfl, by decide +kernel, rfl, by decide +kernel, by decide +kernel⟩
theorem tm_Draft_told (T : Tx K mg a_ROW_WORDS Draft)  : ∀ (f : Addr) (cdv : Value) (A : Around) (outer : List Env) (s : Shared) (H : Hp) (E : XK), Room 0 (A.deeper (PyProof.Rows.envOfC "Draft.told" (defScope s_Draft_told) s.heap.objs.size f cdv)) →
    PSSD (cxOf CX0 P w K mg base N_Draft_told "Draft.told" (defScope s_Draft_told) f cdv A outer s H E).nox (defBody s_Draft_told) (td_Draft_told Draft) :=
  fun f cdv A outer s H E hr => (ssd_cons (sd_set 1 sc_Draft_told.nd (ed_callTy call_tuple_of rl_tupOf T.b_tuple PyProof.Rows.boot_tuple (ad_cons (ed_lc false (own := [("kind", 2), ("turn", 3), ("lamps", 4)]) rfl sc_Draft_told.nd (blkOk_by (own := [("kind", 2), ("turn", 3), ("lamps", 4)]) (N := N_Draft_told) (sc := defScope s_Draft_told) (by decide +kernel)) (id_seq (ed_fld T.cl_Draft T.n_Draft__kinds (ed_var 0))) (fun _ _ _ _ _ => gc_tup rfl (gsc_cons (gc_name 2 sc_Draft_told.nd) (gsc_cons (gc_name 3 sc_Draft_told.nd) (gsc_cons (gc_name 4 sc_Draft_told.nd) gsc_nil))) rfl) (fun _ _ _ _ _ => tsd_nil) (fun _ _ _ _ _ => (ed_tup (ad_cons (ed_var 2) (ad_cons (ed_var 3) (ad_cons (ed_callTy call_tuple_of rl_tupOf T.b_tuple PyProof.Rows.boot_tuple (ad_cons (ed_var 4) ad_nil)) ad_nil)))))) ad_nil)))
    (ssd_one (sd_ret (ed_tup (ad_cons (ed_tup (ad_cons (ed_fld T.cl_Draft T.n_Draft__colours (ed_var 0)) (ad_cons (ed_var 1) ad_nil))) (ad_cons (ed_callTy call_list_of rl_listOf T.b_list PyProof.Rows.boot_list (ad_cons (ed_fld T.cl_Draft T.n_Draft__sights (ed_var 0)) ad_nil)) ad_nil))))))
abbrev s__law_mixed : Stmt := (topS 34)
abbrev ps__law_mixed : List Str := ["_law_cell", "_law_k"]
theorem sc__law_mixed : FnScope N__law_mixed ps__law_mixed (defScope s__law_mixed) := ⟨rfl, rfl, rfl, by decide +kernel, rfl, by decide +kernel, by decide +kernel⟩
theorem tm__law_mixed (T : Tx K mg a_ROW_WORDS Draft)  : ∀ (f : Addr) (cdv : Value) (A : Around) (outer : List Env) (s : Shared) (H : Hp) (E : XK), Room 0 (A.deeper (PyProof.Rows.envOfC "_law_mixed" (defScope s__law_mixed) s.heap.objs.size f cdv)) →
    PSSD (cxOf CX0 P w K mg base N__law_mixed "_law_mixed" (defScope s__law_mixed) f cdv A outer s H E).nox (defBody s__law_mixed) (td__law_mixed ) :=
  fun f cdv A outer s H E hr => (ssd_cons (sd_set 2 sc__law_mixed.nd (ed_add false (ed_add false (ed_mod (ed_mul false (ed_mul false (ed_var 0) (ed_add false ed_int (ed_mul false ed_int (ed_var 1)))) ed_int) ed_int) (ed_mul false (ed_mul false ed_int (ed_var 1)) (ed_var 1))) (ed_mul false ed_int (ed_var 1))))
    (ssd_one (sd_ret (ed_fdiv (ed_mod (ed_mul false (ed_var 2) ed_int) ed_int) ed_int))))
abbrev s__law_folded : Stmt := (topS 35)
abbrev ps__law_folded : List Str := ["_law_script"]
theorem sc__law_folded : FnScope N__law_folded ps__law_folded (defScope s__law_folded) := ⟨rfl, rfl, rfl, by decide +kernel, rfl, by decide +kernel, by decide +kernel⟩
theorem tm__law_folded (T : Tx K mg a_ROW_WORDS Draft)  : ∀ (f : Addr) (cdv : Value) (A : Around) (outer : List Env) (s : Shared) (H : Hp) (E : XK), Room 0 (A.deeper (PyProof.Rows.envOfC "_law_folded" (defScope s__law_folded) s.heap.objs.size f cdv)) →
    PSSD (cxOf CX0 P w K mg base N__law_folded "_law_folded" (defScope s__law_folded) f cdv A outer s H E).nox (defBody s__law_folded) (td__law_folded ) :=
  fun f cdv A outer s H E hr => (ssd_cons (sd_setLc true 1 (own := [("_law_k", 2)]) rfl sc__law_folded.nd rfl rfl (sw_true rfl rfl rfl (by decide +kernel)) (blkOk_by (own := [("_law_k", 2)]) (N := N__law_folded) (sc := defScope s__law_folded) (by decide +kernel)) (id_rng1 T.b_range (ad_cons ed_int ad_nil)) (fun _ _ _ _ _ => gc_name 2 sc__law_folded.nd) (fun _ _ _ _ _ => tsd_nil) (fun _ _ _ _ _ => (ed_add false ed_int (ed_var 2))))
    (ssd_cons (sd_for PassesOwn.never rfl (id_enumS T.b_enumerate (ad_cons (ed_var 0) ad_nil)) (gd_tup rfl (gsd_cons (gd_name 2 sc__law_folded.nd) (gsd_cons (gd_name 3 sc__law_folded.nd) gsd_nil)) rfl) (ssd_one (sd_asg (ed_mod (ed_add false (ed_mul false (ed_ix (ed_var 1) (ed_mod (ed_var 2) ed_int)) ed_int) (ed_var 3)) ed_int) (gd_sub (ed_var 1) (ed_mod (ed_var 2) ed_int)))))
    (ssd_cons (sd_for PassesOwn.never rfl (id_rng2 T.b_range (ad_cons ed_int (ad_cons ed_int ad_nil))) (gd_name 2 sc__law_folded.nd) (ssd_one (sd_asg (ed_mod (ed_add false (ed_ix (ed_var 1) (ed_var 2)) (ed_mul false (ed_ix (ed_var 1) (ed_sub (ed_var 2) ed_int)) ed_int)) ed_int) (gd_sub (ed_var 1) (ed_var 2)))))
    (ssd_one (sd_ret (ed_var 1))))))
abbrev s__law_draw : Stmt := (topS 36)
abbrev ps__law_draw : List Str := ["_law_m", "_law_many_here"]
theorem sc__law_draw : FnScope N__law_draw ps__law_draw (defScope s__law_draw) := ⟨rfl, rfl, rfl, by decide +kernel, rfl, by decide +kernel, by decide +kernel⟩
theorem tm__law_draw (T : Tx K mg a_ROW_WORDS Draft) (h__law_mixed : DefAt P w K mg base "_law_mixed" 1 ps__law_mixed P__law_mixed) : ∀ (f : Addr) (cdv : Value) (A : Around) (outer : List Env) (s : Shared) (H : Hp) (E : XK), Room 1 (A.deeper (PyProof.Rows.envOfC "_law_draw" (defScope s__law_draw) s.heap.objs.size f cdv)) →
    PSSD (cxOf CX0 P w K mg base N__law_draw "_law_draw" (defScope s__law_draw) f cdv A outer s H E).nox (defBody s__law_draw) (td__law_draw ) :=
  fun f cdv A outer s H E hr => (ssd_cons (sd_set 2 sc__law_draw.nd (ed_dget (hu_of hr) (ed_var 0) ed_str))
    (ssd_cons (sd_dput (hu_of hr) (ed_var 0) ed_str (ed_add false (ed_var 2) ed_int))
    (ssd_cons (sd_if (td_cmpR (op_neG hr.units) rr_ne (ed_dget (hu_of hr) (ed_var 0) ed_str) (ed_lst false ad_nil) (nomark _)) (ssd_cons (sd_set 3 sc__law_draw.nd (ed_mod (ed_var 2) (ed_callB call_lenG rl_len T.b_len PySem.boot_len (ad_cons (ed_dget (hu_of hr) (ed_var 0) ed_str) ad_nil))))
    (ssd_cons (sd_set 4 sc__law_draw.nd (ed_ix (ed_dget (hu_of hr) (ed_var 0) ed_str) (ed_var 3)))
    (ssd_cons (sd_asg (ed_fdiv (ed_var 4) (ed_var 1)) (gd_sub (ed_dget (hu_of hr) (ed_var 0) ed_str) (ed_var 3)))
    (ssd_one (sd_ret (ed_mod (ed_var 4) (ed_var 1))))))) ssd_nil)
    (ssd_one (sd_ret (ed_mod (ed_callD h__law_mixed (hr.mono (by decide)) (ad_cons (ed_callD h__law_mixed (hr.mono (by decide)) (ad_cons (ed_add false (ed_ix (ed_dget (hu_of hr) (ed_var 0) ed_str) (ed_mod (ed_var 2) ed_int)) (ed_mul false ed_int (ed_fdiv (ed_var 2) ed_int))) (ad_cons (ed_var 2) ad_nil))) (ad_cons (ed_add false (ed_var 2) ed_int) ad_nil))) (ed_var 1)))))))
abbrev s__law_names : Stmt := (topS 37)
abbrev ps__law_names : List Str := ["_law_cell", "_law_many_here"]
theorem sc__law_names : FnScope N__law_names ps__law_names (defScope s__law_names) := ⟨rfl, rfl, rfl, by decide +kernel, rfl, by decide +kernel, by decide +kernel⟩
theorem tm__law_names (T : Tx K mg a_ROW_WORDS Draft)  : ∀ (f : Addr) (cdv : Value) (A : Around) (outer : List Env) (s : Shared) (H : Hp) (E : XK), Room 0 (A.deeper (PyProof.Rows.envOfC "_law_names" (defScope s__law_names) s.heap.objs.size f cdv)) →
    PSSD (cxOf CX0 P w K mg base N__law_names "_law_names" (defScope s__law_names) f cdv A outer s H E).nox (defBody s__law_names) (td__law_names ) :=
  fun f cdv A outer s H E hr => (ssd_cons (sd_set 2 sc__law_names.nd ed_str)
    (ssd_cons (sd_if (td_cmpR (op_eqG hr.units) rr_eq (ed_mod (ed_var 0) ed_int) ed_int (nomark _)) (ssd_one (sd_ret (ed_lc false (own := [("_law_k", 3)]) rfl sc__law_names.nd (blkOk_by (own := [("_law_k", 3)]) (N := N__law_names) (sc := defScope s__law_names) (by decide +kernel)) (id_rng1 T.b_range (ad_cons (ed_var 1) ad_nil)) (fun _ _ _ _ _ => gc_name 3 sc__law_names.nd) (fun _ _ _ _ _ => tsd_nil) (fun _ _ _ _ _ => (ed_mul false (ed_ix (ed_var 2) (ed_mod (ed_sub (ed_fdiv (ed_var 0) ed_int) (ed_var 3)) ed_int)) (ed_add false ed_int (ed_var 3))))))) ssd_nil)
    (ssd_cons (sd_set 4 sc__law_names.nd (ed_add false ed_int (ed_mod (ed_fdiv (ed_var 0) ed_int) ed_int)))
    (ssd_cons (sd_set 5 sc__law_names.nd (ed_ix (ed_lst false (ad_cons (ed_mod (ed_fdiv (ed_var 0) ed_int) (ed_var 4)) (ad_cons ed_int (ad_cons (ed_sub (ed_var 4) ed_int) ad_nil)))) (ed_mod (ed_var 0) ed_int)))
    (ssd_cons (sd_setLc false 6 (own := [("_law_j", 7)]) rfl sc__law_names.nd rfl rfl (sw_true rfl rfl rfl (by decide +kernel)) (blkOk_by (own := [("_law_j", 7)]) (N := N__law_names) (sc := defScope s__law_names) (by decide +kernel)) (id_rng1 T.b_range (ad_cons ed_int ad_nil)) (fun _ _ _ _ _ => gc_name 7 sc__law_names.nd) (fun _ _ _ _ _ => tsd_nil) (fun _ _ _ _ _ => (ed_ix (ed_var 2) (ed_mod (ed_add false (ed_fdiv (ed_var 0) ed_int) (ed_mul false ed_int (ed_var 7))) ed_int))))
    (ssd_cons (sd_set 8 sc__law_names.nd (ed_lst true ad_nil))
    (ssd_cons (sd_for PassesOwn.never rfl (id_rng1 T.b_range (ad_cons (ed_var 1) ad_nil)) (gd_name 3 sc__law_names.nd) (ssd_cons (sd_set 9 sc__law_names.nd (ed_ix (ed_var 2) (ed_mod (ed_add false (ed_fdiv (ed_var 0) ed_int) (ed_var 3)) ed_int)))
    (ssd_one (sd_expr (ed_append (ed_var 8) (ad_cons (ed_join ed_str (ed_add false (ed_add false (ed_sl false (ed_var 6) od_none (od_some (ed_var 5))) (ed_lst false (ad_cons (ed_var 9) ad_nil))) (ed_sl false (ed_var 6) (od_some (ed_add false (ed_var 5) ed_int)) (od_some (ed_var 4))))) ad_nil))))))
    (ssd_cons (sd_set 10 sc__law_names.nd (ed_lst false (ad_cons ed_str (ad_cons ed_str (ad_cons ed_str (ad_cons ed_str ad_nil))))))
    (ssd_cons (sd_if (td_cmpR (op_neG hr.units) rr_ne (ed_lc false (own := [("_law_name", 11)]) rfl sc__law_names.nd (blkOk_by (own := [("_law_name", 11)]) (N := N__law_names) (sc := defScope s__law_names) (by decide +kernel)) (id_seq (ed_var 8)) (fun _ _ _ _ _ => gc_name 11 sc__law_names.nd) (fun _ _ _ _ _ => tsd_one (td_cmpR op_inG rr_in (ed_var 11) (ed_var 10) (by rfl))) (fun _ _ _ _ _ => (ed_var 11))) (ed_lst false ad_nil) (nomark _)) (ssd_one (sd_ret (ed_lc false (own := [("_law_k", 3)]) rfl sc__law_names.nd (blkOk_by (own := [("_law_k", 3)]) (N := N__law_names) (sc := defScope s__law_names) (by decide +kernel)) (id_rng1 T.b_range (ad_cons (ed_var 1) ad_nil)) (fun _ _ _ _ _ => gc_name 3 sc__law_names.nd) (fun _ _ _ _ _ => tsd_nil) (fun _ _ _ _ _ => (ed_add false ed_str (ed_ix (ed_var 2) (ed_var 3))))))) ssd_nil)
    (ssd_one (sd_ret (ed_var 8))))))))))))
abbrev s__law_lamp : Stmt := (topS 38)
abbrev ps__law_lamp : List Str := ["_law_m", "_law_colours"]
theorem sc__law_lamp : FnScope N__law_lamp ps__law_lamp (defScope s__law_lamp) := ⟨rfl, rfl, rfl, by decide +kernel, rfl, by decide +kernel, by decide +kernel⟩
theorem tm__law_lamp (T : Tx K mg a_ROW_WORDS Draft) (h__law_draw : DefAt P w K mg base "_law_draw" 2 ps__law_draw P__law_draw) : ∀ (f : Addr) (cdv : Value) (A : Around) (outer : List Env) (s : Shared) (H : Hp) (E : XK), Room 2 (A.deeper (PyProof.Rows.envOfC "_law_lamp" (defScope s__law_lamp) s.heap.objs.size f cdv)) →
    PSSD (cxOf CX0 P w K mg base N__law_lamp "_law_lamp" (defScope s__law_lamp) f cdv A outer s H E).nox (defBody s__law_lamp) (td__law_lamp ) :=
  fun f cdv A outer s H E hr => (ssd_cons (sd_set 2 sc__law_lamp.nd (ed_callD h__law_draw (hr.mono (by decide)) (ad_cons (ed_var 0) (ad_cons ed_int ad_nil))))
    (ssd_cons (sd_set 3 sc__law_lamp.nd (ed_ix (ed_lst false (ad_cons ed_int (ad_cons ed_int (ad_cons ed_int (ad_cons ed_int (ad_cons ed_int (ad_cons ed_int (ad_cons (ed_callD h__law_draw (hr.mono (by decide)) (ad_cons (ed_var 0) (ad_cons ed_int ad_nil))) ad_nil)))))))) (ed_callD h__law_draw (hr.mono (by decide)) (ad_cons (ed_var 0) (ad_cons ed_int ad_nil)))))
    (ssd_one (sd_ret (ed_tup (ad_cons (ed_ix (ed_var 1) (ed_callD h__law_draw (hr.mono (by decide)) (ad_cons (ed_var 0) (ad_cons (ed_callB call_lenG rl_len T.b_len PySem.boot_len (ad_cons (ed_var 1) ad_nil)) ad_nil)))) (ad_cons (ed_var 2) (ad_cons (ed_mod (ed_add false (ed_var 2) (ed_var 3)) ed_int) ad_nil))))))))
abbrev s__law_lamps : Stmt := (topS 39)
abbrev ps__law_lamps : List Str := ["_law_m", "_law_colours", "_law_rows"]
theorem sc__law_lamps : FnScope N__law_lamps ps__law_lamps (defScope s__law_lamps) := ⟨rfl, rfl, rfl, by decide +kernel, rfl, by decide +kernel, by decide +kernel⟩
theorem tm__law_lamps (T : Tx K mg a_ROW_WORDS Draft) (h__law_draw : DefAt P w K mg base "_law_draw" 2 ps__law_draw P__law_draw) (h__law_lamp : DefAt P w K mg base "_law_lamp" 3 ps__law_lamp P__law_lamp) : ∀ (f : Addr) (cdv : Value) (A : Around) (outer : List Env) (s : Shared) (H : Hp) (E : XK), Room 3 (A.deeper (PyProof.Rows.envOfC "_law_lamps" (defScope s__law_lamps) s.heap.objs.size f cdv)) →
    PSSD (cxOf CX0 P w K mg base N__law_lamps "_law_lamps" (defScope s__law_lamps) f cdv A outer s H E).nox (defBody s__law_lamps) (td__law_lamps ) :=
  fun f cdv A outer s H E hr => (ssd_cons (sd_if (td_w (wd_or (td_cmpR (op_eqG hr.units) rr_eq (ed_var 2) (ed_lst false ad_nil) (nomark _)) (wd_or1 (td_cmpR op_lt rr_cmp (ed_callD h__law_draw (hr.mono (by decide)) (ad_cons (ed_var 0) (ad_cons ed_int ad_nil))) ed_int (nomark _))))) (ssd_one (sd_ret (ed_callTy call_tuple_of rl_tupOf T.b_tuple PyProof.Rows.boot_tuple (ad_cons (ed_lc false (own := [("_law_k", 3)]) rfl sc__law_lamps.nd (blkOk_by (own := [("_law_k", 3)]) (N := N__law_lamps) (sc := defScope s__law_lamps) (by decide +kernel)) (id_rng1 T.b_range (ad_cons (ed_add false ed_int (ed_callD h__law_draw (hr.mono (by decide)) (ad_cons (ed_var 0) (ad_cons ed_int ad_nil)))) ad_nil)) (fun _ _ _ _ _ => gc_name 3 sc__law_lamps.nd) (fun _ _ _ _ _ => tsd_nil) (fun _ _ _ _ _ => (ed_callD h__law_lamp (hr.mono (by decide)) (ad_cons (ed_var 0) (ad_cons (ed_var 1) ad_nil))))) ad_nil)))) ssd_nil)
    (ssd_cons (sd_set 4 sc__law_lamps.nd (ed_callTy call_list_of rl_listOf T.b_list PyProof.Rows.boot_list (ad_cons (ed_ix (ed_ix (ed_var 2) (ed_callD h__law_draw (hr.mono (by decide)) (ad_cons (ed_var 0) (ad_cons (ed_callB call_lenG rl_len T.b_len PySem.boot_len (ad_cons (ed_var 2) ad_nil)) ad_nil)))) ed_int) ad_nil)))
    (ssd_cons (sd_set 5 sc__law_lamps.nd (ed_callD h__law_draw (hr.mono (by decide)) (ad_cons (ed_var 0) (ad_cons (ed_callB call_lenG rl_len T.b_len PySem.boot_len (ad_cons (ed_var 4) ad_nil)) ad_nil))))
    (ssd_cons (sd_set 6 sc__law_lamps.nd (ed_callD h__law_draw (hr.mono (by decide)) (ad_cons (ed_var 0) (ad_cons ed_int ad_nil))))
    (ssd_cons (sd_if (td_w (wd_and (td_cmpR (op_eqG hr.units) rr_eq (ed_var 6) ed_int (nomark _)) (wd_and1 (td_cmpR op_lt rr_cmp (ed_callB call_lenG rl_len T.b_len PySem.boot_len (ad_cons (ed_var 4) ad_nil)) ed_int (nomark _))))) (ssd_one (sd_expr (ed_bml PySem.F.plainAttrs_list PySem.F.slot_list_insert PySem.F.type_list_insert mt_insert rm_insert (ed_var 4) (ad_cons (ed_var 5) (ad_cons (ed_callD h__law_lamp (hr.mono (by decide)) (ad_cons (ed_var 0) (ad_cons (ed_var 1) ad_nil))) ad_nil))))) (ssd_one (sd_if (td_w (wd_and (td_cmpR (op_eqG hr.units) rr_eq (ed_var 6) ed_int (nomark _)) (wd_and1 (td_cmpR op_gt rr_cmp (ed_callB call_lenG rl_len T.b_len PySem.boot_len (ad_cons (ed_var 4) ad_nil)) ed_int (nomark _))))) (ssd_one (sd_expr (ed_bml PySem.F.plainAttrs_list PySem.F.slot_list_pop PySem.F.type_list_pop mt_popAt rm_popAt (ed_var 4) (ad_cons (ed_var 5) ad_nil)))) (ssd_one (sd_if (td_cmpR (op_eqG hr.units) rr_eq (ed_var 6) ed_int (nomark _)) (ssd_cons (sd_asg (ed_ix (ed_var 4) (ed_var 5)) (gd_tup rfl (gsd_cons (gd_name 7 sc__law_lamps.nd) (gsd_cons (gd_name 8 sc__law_lamps.nd) (gsd_cons (gd_name 9 sc__law_lamps.nd) gsd_nil))) rfl))
    (ssd_one (sd_asg (ed_tup (ad_cons (ed_var 7) (ad_cons (ed_var 8) (ad_cons (ed_mod (ed_add false (ed_add false (ed_var 9) ed_int) (ed_callD h__law_draw (hr.mono (by decide)) (ad_cons (ed_var 0) (ad_cons ed_int ad_nil)))) ed_int) ad_nil)))) (gd_sub (ed_var 4) (ed_var 5))))) (ssd_one (sd_asg (ed_callD h__law_lamp (hr.mono (by decide)) (ad_cons (ed_var 0) (ad_cons (ed_var 1) ad_nil))) (gd_sub (ed_var 4) (ed_var 5)))))))))
    (ssd_one (sd_ret (ed_callTy call_tuple_of rl_tupOf T.b_tuple PyProof.Rows.boot_tuple (ad_cons (ed_var 4) ad_nil)))))))))
abbrev s__law_fleet : Stmt := (topS 40)
abbrev ps__law_fleet : List Str := ["_law_m"]
theorem sc__law_fleet : FnScope N__law_fleet ps__law_fleet (defScope s__law_fleet) := ⟨rfl, rfl, rfl, by decide +kernel, rfl, by decide +kernel, by decide +kernel⟩
theorem tm__law_fleet (T : Tx K mg a_ROW_WORDS Draft) (h__law_draw : DefAt P w K mg base "_law_draw" 2 ps__law_draw P__law_draw) (h__law_lamps : DefAt P w K mg base "_law_lamps" 4 ps__law_lamps P__law_lamps) : ∀ (f : Addr) (cdv : Value) (A : Around) (outer : List Env) (s : Shared) (H : Hp) (E : XK), Room 4 (A.deeper (PyProof.Rows.envOfC "_law_fleet" (defScope s__law_fleet) s.heap.objs.size f cdv)) →
    PSSD (cxOf CX0 P w K mg base N__law_fleet "_law_fleet" (defScope s__law_fleet) f cdv A outer s H E).nox (defBody s__law_fleet) (td__law_fleet ) :=
  fun f cdv A outer s H E hr => (ssd_cons (sd_set 1 sc__law_fleet.nd (ed_callTy call_int1 rl_int T.b_int PyProof.Rows.boot_int (ad_cons (ed_cmpR (op_eqG hr.units) rr_eq (ed_callD h__law_draw (hr.mono (by decide)) (ad_cons (ed_var 0) (ad_cons ed_int ad_nil))) ed_int (nomark _)) ad_nil)))
    (ssd_cons (sd_set 2 sc__law_fleet.nd (ed_callTy call_tuple_of rl_tupOf T.b_tuple PyProof.Rows.boot_tuple (ad_cons (ed_sl false (ed_dget (hu_of hr) (ed_var 0) ed_str) od_none (od_some (ed_add false ed_int (ed_callD h__law_draw (hr.mono (by decide)) (ad_cons (ed_var 0) (ad_cons (ed_ix (ed_lst false (ad_cons ed_int (ad_cons ed_int ad_nil))) (ed_var 1)) ad_nil)))))) ad_nil)))
    (ssd_cons (sd_set 3 sc__law_fleet.nd (ed_lst true ad_nil))
    (ssd_cons (sd_for PassesOwn.never rfl (id_seq (ed_sl false (ed_dget (hu_of hr) (ed_var 0) ed_str) od_none (od_some (ed_add false ed_int (ed_callD h__law_draw (hr.mono (by decide)) (ad_cons (ed_var 0) (ad_cons (ed_ix (ed_lst false (ad_cons ed_int (ad_cons ed_int ad_nil))) (ed_var 1)) ad_nil))))))) (gd_name 4 sc__law_fleet.nd) (ssd_cons (sd_set 5 sc__law_fleet.nd (ed_ix (ed_lst false (ad_cons ed_int (ad_cons ed_int (ad_cons ed_int (ad_cons ed_int (ad_cons ed_int (ad_cons (ed_callD h__law_draw (hr.mono (by decide)) (ad_cons (ed_var 0) (ad_cons ed_int ad_nil))) ad_nil))))))) (ed_callD h__law_draw (hr.mono (by decide)) (ad_cons (ed_var 0) (ad_cons ed_int ad_nil)))))
    (ssd_one (sd_expr (ed_append (ed_var 3) (ad_cons (ed_tup (ad_cons (ed_var 4) (ad_cons (ed_var 5) (ad_cons (ed_callD h__law_lamps (hr.mono (by decide)) (ad_cons (ed_var 0) (ad_cons (ed_var 2) (ad_cons (ed_var 3) ad_nil)))) ad_nil)))) ad_nil))))))
    (ssd_one (sd_ret (ed_tup (ad_cons (ed_var 2) (ad_cons (ed_callTy call_tuple_of rl_tupOf T.b_tuple PyProof.Rows.boot_tuple (ad_cons (ed_var 3) ad_nil)) ad_nil)))))))))
abbrev s__law_column : Stmt := (topS 41)
abbrev ps__law_column : List Str := ["_law_fleet_here", "_law_boat", "_law_side"]
theorem sc__law_column : FnScope N__law_column ps__law_column (defScope s__law_column) := ⟨rfl, rfl, rfl, by decide +kernel, rfl, by decide +kernel, by decide +kernel⟩
theorem tm__law_column (T : Tx K mg a_ROW_WORDS Draft)  : ∀ (f : Addr) (cdv : Value) (A : Around) (outer : List Env) (s : Shared) (H : Hp) (E : XK), Room 0 (A.deeper (PyProof.Rows.envOfC "_law_column" (defScope s__law_column) s.heap.objs.size f cdv)) →
    PSSD (cxOf CX0 P w K mg base N__law_column "_law_column" (defScope s__law_column) f cdv A outer s H E).nox (defBody s__law_column) (td__law_column ) :=
  fun f cdv A outer s H E hr => (ssd_cons (sd_set 3 sc__law_column.nd (ed_mod (ed_sub (ed_var 2) (ed_ix (ed_var 1) ed_int)) ed_int))
    (ssd_cons (sd_set 4 sc__law_column.nd (ed_lst true ad_nil))
    (ssd_cons (sd_for PassesOwn.never rfl (id_seq (ed_ix (ed_var 0) ed_int)) (gd_tup rfl (gsd_cons (gd_name 5 sc__law_column.nd) (gsd_cons (gd_name 6 sc__law_column.nd) (gsd_cons (gd_name 7 sc__law_column.nd) gsd_nil))) rfl) (ssd_one (sd_for PassesOwn.never rfl (id_seq (ed_var 7)) (gd_tup rfl (gsd_cons (gd_name 8 sc__law_column.nd) (gsd_cons (gd_name 9 sc__law_column.nd) (gsd_cons (gd_name 10 sc__law_column.nd) gsd_nil))) rfl) (ssd_one (sd_if (td_w (wd_and (td_cmpR (op_eqG hr.units) rr_eq (ed_var 5) (ed_ix (ed_var 1) ed_int) (nomark _)) (wd_and1 (td_cmpR op_le rr_cmp (ed_mod (ed_sub (ed_var 3) (ed_var 9)) ed_int) (ed_mod (ed_sub (ed_var 10) (ed_var 9)) ed_int) (nomark _))))) (ssd_one (sd_expr (ed_append (ed_var 4) (ad_cons (ed_var 8) ad_nil)))) ssd_nil)))))
    (ssd_one (sd_ret (ed_callTy call_tuple_of rl_tupOf T.b_tuple PyProof.Rows.boot_tuple (ad_cons (ed_var 4) ad_nil)))))))
abbrev s__law_sights : Stmt := (topS 42)
abbrev ps__law_sights : List Str := ["_law_m", "_law_fleet_here", "_law_most"]
theorem sc__law_sights : FnScope N__law_sights ps__law_sights (defScope s__law_sights) := ⟨rfl, rfl, rfl, by decide +kernel, rfl, by decide +kernel, by decide +kernel⟩
theorem tm__law_sights (T : Tx K mg a_ROW_WORDS Draft) (h__law_draw : DefAt P w K mg base "_law_draw" 2 ps__law_draw P__law_draw) (h__law_column : DefAt P w K mg base "_law_column" 1 ps__law_column P__law_column) : ∀ (f : Addr) (cdv : Value) (A : Around) (outer : List Env) (s : Shared) (H : Hp) (E : XK), Room 2 (A.deeper (PyProof.Rows.envOfC "_law_sights" (defScope s__law_sights) s.heap.objs.size f cdv)) →
    PSSD (cxOf CX0 P w K mg base N__law_sights "_law_sights" (defScope s__law_sights) f cdv A outer s H E).nox (defBody s__law_sights) (td__law_sights ) :=
  fun f cdv A outer s H E hr => (ssd_cons (sd_asg (ed_ix (ed_ix (ed_var 1) ed_int) (ed_callD h__law_draw (hr.mono (by decide)) (ad_cons (ed_var 0) (ad_cons (ed_callB call_lenG rl_len T.b_len PySem.boot_len (ad_cons (ed_ix (ed_var 1) ed_int) ad_nil)) ad_nil)))) (gd_tup rfl (gsd_cons (gd_name 3 sc__law_sights.nd) (gsd_cons (gd_name 4 sc__law_sights.nd) (gsd_cons (gd_name 5 sc__law_sights.nd) gsd_nil))) rfl))
    (ssd_cons (sd_set 6 sc__law_sights.nd (ed_callD h__law_draw (hr.mono (by decide)) (ad_cons (ed_var 0) (ad_cons ed_int ad_nil))))
    (ssd_cons (sd_set 7 sc__law_sights.nd ed_int)
    (ssd_cons (sd_set 8 sc__law_sights.nd (ed_lst true ad_nil))
    (ssd_cons (sd_for PassesOwn.never rfl (id_rng1 T.b_range (ad_cons (ed_callD h__law_draw (hr.mono (by decide)) (ad_cons (ed_var 0) (ad_cons (ed_add false (ed_var 2) ed_int) ad_nil))) ad_nil)) (gd_name 9 sc__law_sights.nd) (ssd_cons (sd_for PassesOwn.never rfl (id_rng1 T.b_range (ad_cons (ed_ix (ed_lst false (ad_cons ed_int (ad_cons ed_int (ad_cons ed_int (ad_cons ed_int (ad_cons ed_int (ad_cons ed_int ad_nil))))))) (ed_callD h__law_draw (hr.mono (by decide)) (ad_cons (ed_var 0) (ad_cons ed_int ad_nil)))) ad_nil)) (gd_name 10 sc__law_sights.nd) (ssd_one (sd_if (td_cmpR op_lt rr_cmp (ed_var 7) ed_int (nomark _)) (ssd_cons (sd_set 7 sc__law_sights.nd (ed_add false (ed_var 7) ed_int))
    (ssd_one (sd_set 6 sc__law_sights.nd (ed_mod (ed_sub (ed_add false (ed_var 6) (ed_callD h__law_draw (hr.mono (by decide)) (ad_cons (ed_var 0) (ad_cons (ed_add false (ed_mul false ed_int (ed_var 4)) ed_int) ad_nil)))) (ed_var 4)) ed_int)))) ssd_nil)))
    (ssd_cons (sd_set 11 sc__law_sights.nd (ed_callD h__law_draw (hr.mono (by decide)) (ad_cons (ed_var 0) (ad_cons ed_int ad_nil))))
    (ssd_cons (sd_set 12 sc__law_sights.nd (ed_callD h__law_column (hr.mono (by decide)) (ad_cons (ed_var 1) (ad_cons (ed_tup (ad_cons (ed_var 3) (ad_cons (ed_var 6) ad_nil))) (ad_cons (ed_var 11) ad_nil)))))
    (ssd_cons (sd_if (td_w (wd_and (td_cmpR (op_neG hr.units) rr_ne (ed_var 12) (ed_tup ad_nil) (nomark _)) (wd_and1 (td_cmpR (op_eqG hr.units) rr_eq (ed_callD h__law_draw (hr.mono (by decide)) (ad_cons (ed_var 0) (ad_cons ed_int ad_nil))) ed_int (nomark _))))) (ssd_cons (sd_set 13 sc__law_sights.nd (ed_callD h__law_draw (hr.mono (by decide)) (ad_cons (ed_var 0) (ad_cons (ed_callB call_lenG rl_len T.b_len PySem.boot_len (ad_cons (ed_var 12) ad_nil)) ad_nil))))
    (ssd_one (sd_set 12 sc__law_sights.nd (ed_add false (ed_sl false (ed_var 12) od_none (od_some (ed_var 13))) (ed_sl false (ed_var 12) (od_some (ed_add false (ed_var 13) ed_int)) od_none))))) ssd_nil)
    (ssd_cons (sd_if (td_cmpR (op_eqG hr.units) rr_eq (ed_callD h__law_draw (hr.mono (by decide)) (ad_cons (ed_var 0) (ad_cons ed_int ad_nil))) ed_int (nomark _)) (ssd_cons (sd_set 14 sc__law_sights.nd (ed_callD h__law_draw (hr.mono (by decide)) (ad_cons (ed_var 0) (ad_cons ed_int ad_nil))))
    (ssd_one (sd_set 12 sc__law_sights.nd (ed_callTy call_tuple_of rl_tupOf T.b_tuple PyProof.Rows.boot_tuple (ad_cons (ed_lc false (own := [("_law_j", 15)]) rfl sc__law_sights.nd (blkOk_by (own := [("_law_j", 15)]) (N := N__law_sights) (sc := defScope s__law_sights) (by decide +kernel)) (id_rng1 T.b_range (ad_cons (ed_var 14) ad_nil)) (fun _ _ _ _ _ => gc_name 15 sc__law_sights.nd) (fun _ _ _ _ _ => tsd_nil) (fun _ _ _ _ _ => (ed_ix (ed_ix (ed_var 1) ed_int) (ed_callD h__law_draw (hr.mono (by decide)) (ad_cons (ed_var 0) (ad_cons (ed_callB call_lenG rl_len T.b_len PySem.boot_len (ad_cons (ed_ix (ed_var 1) ed_int) ad_nil)) ad_nil)))))) ad_nil))))) ssd_nil)
    (ssd_one (sd_expr (ed_bml PySem.F.plainAttrs_list PySem.F.slot_list_insert PySem.F.type_list_insert mt_insert rm_insert (ed_var 8) (ad_cons (ed_callD h__law_draw (hr.mono (by decide)) (ad_cons (ed_var 0) (ad_cons (ed_add false (ed_callB call_lenG rl_len T.b_len PySem.boot_len (ad_cons (ed_var 8) ad_nil)) ed_int) ad_nil))) (ad_cons (ed_tup (ad_cons (ed_var 7) (ad_cons (ed_var 11) (ad_cons (ed_var 12) ad_nil)))) ad_nil)))))))))))
    (ssd_one (sd_ret (ed_var 8))))))))
abbrev s__law_begun : Stmt := (topS 43)
abbrev ps__law_begun : List Str := ["_law_script"]
theorem sc__law_begun : FnScope N__law_begun ps__law_begun (defScope s__law_begun) := ⟨rfl, rfl, rfl, by decide +kernel, rfl, by decide +kernel, by decide +kernel⟩
theorem tm__law_begun (T : Tx K mg a_ROW_WORDS Draft) (h__law_folded : DefAt P w K mg base "_law_folded" 1 ps__law_folded P__law_folded) (h__law_draw : DefAt P w K mg base "_law_draw" 2 ps__law_draw P__law_draw) (h__law_names : DefAt P w K mg base "_law_names" 1 ps__law_names P__law_names) : ∀ (f : Addr) (cdv : Value) (A : Around) (outer : List Env) (s : Shared) (H : Hp) (E : XK), Room 2 (A.deeper (PyProof.Rows.envOfC "_law_begun" (defScope s__law_begun) s.heap.objs.size f cdv)) →
    PSSD (cxOf CX0 P w K mg base N__law_begun "_law_begun" (defScope s__law_begun) f cdv A outer s H E).nox (defBody s__law_begun) (td__law_begun ) :=
  fun f cdv A outer s H E hr => (ssd_cons (sd_set 1 sc__law_begun.nd (ed_disp (ppd_cons ed_str (ed_callD h__law_folded (hr.mono (by decide)) (ad_cons (ed_var 0) ad_nil)) (ppd_cons ed_str (ed_lst true ad_nil) (ppd_cons ed_str ed_int ppd_nil))) (by rfl) (by rfl) (fun z => by cases z) (by decide)))
    (ssd_cons (sd_if (td_w (wd_and (td_cmpR (op_neG hr.units) rr_ne (ed_var 0) (ed_lst false ad_nil) (nomark _)) (wd_and1 (td_cmpR (op_eqG hr.units) rr_eq (ed_mod (ed_ix (ed_var 0) ed_int) ed_int) ed_int (nomark _))))) (ssd_one (sd_dput (hu_of hr) (ed_var 1) ed_str (ed_add true (ed_lst false (ad_cons (ed_fdiv (ed_ix (ed_var 0) ed_int) ed_int) ad_nil)) (ed_sl false (ed_var 0) (od_some ed_int) od_none)))) ssd_nil)
    (ssd_cons (sd_setLc false 2 (own := [("_law_k", 3)]) rfl sc__law_begun.nd rfl rfl (sw_true rfl rfl rfl (by decide +kernel)) (blkOk_by (own := [("_law_k", 3)]) (N := N__law_begun) (sc := defScope s__law_begun) (by decide +kernel)) (id_rng1 T.b_range (ad_cons ed_int ad_nil)) (fun _ _ _ _ _ => gc_name 3 sc__law_begun.nd) (fun _ _ _ _ _ => tsd_nil) (fun _ _ _ _ _ => (ed_callD h__law_draw (hr.mono (by decide)) (ad_cons (ed_var 1) (ad_cons (ed_pow ed_int ed_int) ad_nil)))))
    (ssd_cons (sd_if (td_cmpR (op_eqG hr.units) rr_eq (ed_callD h__law_draw (hr.mono (by decide)) (ad_cons (ed_var 1) (ad_cons ed_int ad_nil))) ed_int (nomark _)) (ssd_one (sd_set 2 sc__law_begun.nd (ed_mul false (ed_sl false (ed_var 2) od_none (od_some ed_int)) ed_int))) ssd_nil)
    (ssd_cons (sd_dput (hu_of hr) (ed_var 1) ed_str (ed_callD h__law_names (hr.mono (by decide)) (ad_cons (ed_ix (ed_var 2) ed_int) (ad_cons ed_int ad_nil))))
    (ssd_cons (sd_dput (hu_of hr) (ed_var 1) ed_str (ed_callD h__law_names (hr.mono (by decide)) (ad_cons (ed_ix (ed_var 2) ed_int) (ad_cons ed_int ad_nil))))
    (ssd_one (sd_ret (ed_var 1)))))))))
abbrev s__law_row : Stmt := (topS 44)
abbrev ps__law_row : List Str := ["_law_words"]
theorem sc__law_row : FnScope N__law_row ps__law_row (defScope s__law_row) := ⟨rfl, rfl, rfl, by decide +kernel, rfl, by decide +kernel, by decide +kernel⟩
theorem tm__law_row (T : Tx K mg a_ROW_WORDS Draft)  : ∀ (f : Addr) (cdv : Value) (A : Around) (outer : List Env) (s : Shared) (H : Hp) (E : XK), Room 0 (A.deeper (PyProof.Rows.envOfC "_law_row" (defScope s__law_row) s.heap.objs.size f cdv)) →
    PSSD (cxOf CX0 P w K mg base N__law_row "_law_row" (defScope s__law_row) f cdv A outer s H E).nox (defBody s__law_row) (td__law_row ) :=
  fun f cdv A outer s H E hr => (ssd_one (sd_ret (ed_join ed_str (ed_lc false (own := [("_law_word", 1)]) rfl sc__law_row.nd (blkOk_by (own := [("_law_word", 1)]) (N := N__law_row) (sc := defScope s__law_row) (by decide +kernel)) (id_seq (ed_var 0)) (fun _ _ _ _ _ => gc_name 1 sc__law_row.nd) (fun _ _ _ _ _ => tsd_nil) (fun _ _ _ _ _ => (ed_callTy call_strG rl_str T.b_str PyProof.Rows.boot_str (ad_cons (ed_var 1) ad_nil)))))))
abbrev s__law_sight_row : Stmt := (topS 45)
abbrev ps__law_sight_row : List Str := ["_law_sight"]
theorem sc__law_sight_row : FnScope N__law_sight_row ps__law_sight_row (defScope s__law_sight_row) := ⟨rfl, rfl, rfl, by decide +kernel, rfl, by decide +kernel, by decide +kernel⟩
theorem tm__law_sight_row (T : Tx K mg a_ROW_WORDS Draft) (h__law_row : DefAt P w K mg base "_law_row" 1 ps__law_row P__law_row) : ∀ (f : Addr) (cdv : Value) (A : Around) (outer : List Env) (s : Shared) (H : Hp) (E : XK), Room 1 (A.deeper (PyProof.Rows.envOfC "_law_sight_row" (defScope s__law_sight_row) s.heap.objs.size f cdv)) →
    PSSD (cxOf CX0 P w K mg base N__law_sight_row "_law_sight_row" (defScope s__law_sight_row) f cdv A outer s H E).nox (defBody s__law_sight_row) (td__law_sight_row ) :=
  fun f cdv A outer s H E hr => (ssd_one (sd_ret (ed_callD h__law_row (hr.mono (by decide)) (ad_cons (ed_add false (ed_add false (ed_tup (ad_cons ed_str ad_nil)) (ed_sl false (ed_var 0) od_none (od_some ed_int))) (ed_ix (ed_var 0) ed_int)) ad_nil))))
abbrev s__law_lines : Stmt := (topS 46)
abbrev ps__law_lines : List Str := ["_law_fleet_here", "_law_sights_here"]
theorem sc__law_lines : FnScope N__law_lines ps__law_lines (defScope s__law_lines) := ⟨rfl, rfl, rfl, by decide +kernel, rfl, by decide +kernel, by decide +kernel⟩
theorem tm__law_lines (T : Tx K mg a_ROW_WORDS Draft) (h__law_row : DefAt P w K mg base "_law_row" 1 ps__law_row P__law_row) (h__law_sight_row : DefAt P w K mg base "_law_sight_row" 2 ps__law_sight_row P__law_sight_row) : ∀ (f : Addr) (cdv : Value) (A : Around) (outer : List Env) (s : Shared) (H : Hp) (E : XK), Room 2 (A.deeper (PyProof.Rows.envOfC "_law_lines" (defScope s__law_lines) s.heap.objs.size f cdv)) →
    PSSD (cxOf CX0 P w K mg base N__law_lines "_law_lines" (defScope s__law_lines) f cdv A outer s H E).nox (defBody s__law_lines) (td__law_lines ) :=
  fun f cdv A outer s H E hr => (ssd_cons (sd_set 2 sc__law_lines.nd (ed_lst true (ad_cons (ed_callD h__law_row (hr.mono (by decide)) (ad_cons (ed_add false (ed_tup (ad_cons ed_str ad_nil)) (ed_ix (ed_var 0) ed_int)) ad_nil)) ad_nil)))
    (ssd_cons (sd_for PassesOwn.never rfl (id_seq (ed_ix (ed_var 0) ed_int)) (gd_tup rfl (gsd_cons (gd_name 3 sc__law_lines.nd) (gsd_cons (gd_name 4 sc__law_lines.nd) (gsd_cons (gd_name 5 sc__law_lines.nd) gsd_nil))) rfl) (ssd_cons (sd_expr (ed_append (ed_var 2) (ad_cons (ed_callD h__law_row (hr.mono (by decide)) (ad_cons (ed_lst false (ad_cons ed_str (ad_cons (ed_var 3) (ad_cons (ed_var 4) ad_nil)))) ad_nil)) ad_nil)))
    (ssd_one (sd_set 2 sc__law_lines.nd (ed_add true (ed_var 2) (ed_lc false (own := [("_law_lamp_here", 6)]) rfl sc__law_lines.nd (blkOk_by (own := [("_law_lamp_here", 6)]) (N := N__law_lines) (sc := defScope s__law_lines) (by decide +kernel)) (id_seq (ed_var 5)) (fun _ _ _ _ _ => gc_name 6 sc__law_lines.nd) (fun _ _ _ _ _ => tsd_nil) (fun _ _ _ _ _ => (ed_callD h__law_row (hr.mono (by decide)) (ad_cons (ed_add false (ed_tup (ad_cons ed_str ad_nil)) (ed_var 6)) ad_nil)))))))))
    (ssd_one (sd_ret (ed_add false (ed_var 2) (ed_lc false (own := [("_law_sight", 7)]) rfl sc__law_lines.nd (blkOk_by (own := [("_law_sight", 7)]) (N := N__law_lines) (sc := defScope s__law_lines) (by decide +kernel)) (id_seq (ed_var 1)) (fun _ _ _ _ _ => gc_name 7 sc__law_lines.nd) (fun _ _ _ _ _ => tsd_nil) (fun _ _ _ _ _ => (ed_callD h__law_sight_row (hr.mono (by decide)) (ad_cons (ed_var 7) ad_nil)))))))))
abbrev s__law_odd_first : Stmt := (topS 48)
abbrev ps__law_odd_first : List Str := ["_law_m"]
theorem sc__law_odd_first : FnScope N__law_odd_first ps__law_odd_first (defScope s__law_odd_first) := ⟨rfl, rfl, rfl, by decide +kernel, rfl, by decide +kernel, by decide +kernel⟩
theorem tm__law_odd_first (T : Tx K mg a_ROW_WORDS Draft) (h__law_draw : DefAt P w K mg base "_law_draw" 2 ps__law_draw P__law_draw) : ∀ (f : Addr) (cdv : Value) (A : Around) (outer : List Env) (s : Shared) (H : Hp) (E : XK), Room 2 (A.deeper (PyProof.Rows.envOfC "_law_odd_first" (defScope s__law_odd_first) s.heap.objs.size f cdv)) →
    PSSD (cxOf CX0 P w K mg base N__law_odd_first "_law_odd_first" (defScope s__law_odd_first) f cdv A outer s H E).nox (defBody s__law_odd_first) (td__law_odd_first ) :=
  fun f cdv A outer s H E hr => (ssd_cons (sd_set 1 sc__law_odd_first.nd (ed_lst false (ad_cons ed_str (ad_cons ed_str (ad_cons ed_str (ad_cons ed_str (ad_cons ed_str (ad_cons ed_str ad_nil))))))))
    (ssd_cons (sd_set 1 sc__law_odd_first.nd (ed_add false (ed_var 1) (ed_lst false (ad_cons ed_str (ad_cons ed_str (ad_cons ed_str (ad_cons ed_str (ad_cons ed_str (ad_cons ed_str (ad_cons ed_str ad_nil))))))))))
    (ssd_cons (sd_set 1 sc__law_odd_first.nd (ed_add false (ed_var 1) (ed_lst false (ad_cons ed_str (ad_cons ed_str (ad_cons ed_str (ad_cons ed_str (ad_cons ed_str (ad_cons ed_str ad_nil)))))))))
    (ssd_one (sd_ret (ed_ix (ed_var 1) (ed_callD h__law_draw (hr.mono (by decide)) (ad_cons (ed_var 0) (ad_cons ed_int ad_nil)))))))))
abbrev s__law_odd_kind : Stmt := (topS 49)
abbrev ps__law_odd_kind : List Str := ["_law_m", "_law_kind"]
theorem sc__law_odd_kind : FnScope N__law_odd_kind ps__law_odd_kind (defScope s__law_odd_kind) := ⟨rfl, rfl, rfl, by decide +kernel, rfl, by decide +kernel, by decide +kernel⟩
theorem tm__law_odd_kind (T : Tx K mg a_ROW_WORDS Draft) (h__law_draw : DefAt P w K mg base "_law_draw" 2 ps__law_draw P__law_draw) : ∀ (f : Addr) (cdv : Value) (A : Around) (outer : List Env) (s : Shared) (H : Hp) (E : XK), Room 2 (A.deeper (PyProof.Rows.envOfC "_law_odd_kind" (defScope s__law_odd_kind) s.heap.objs.size f cdv)) →
    PSSD (cxOf CX0 P w K mg base N__law_odd_kind "_law_odd_kind" (defScope s__law_odd_kind) f cdv A outer s H E).nox (defBody s__law_odd_kind) (td__law_odd_kind ) :=
  fun f cdv A outer s H E hr => (ssd_cons (sd_set 2 sc__law_odd_kind.nd (ed_lst false (ad_cons ed_str (ad_cons ed_str (ad_cons ed_str (ad_cons ed_str (ad_cons ed_str (ad_cons ed_str (ad_cons ed_str (ad_cons ed_str ad_nil))))))))))
    (ssd_cons (sd_set 2 sc__law_odd_kind.nd (ed_add false (ed_var 2) (ed_lst false (ad_cons ed_str (ad_cons ed_str (ad_cons ed_str (ad_cons (ed_add false (ed_add false ed_str (ed_var 1)) ed_str) (ad_cons ed_str (ad_cons ed_str ad_nil)))))))))
    (ssd_one (sd_ret (ed_ix (ed_add false (ed_var 2) (ed_lst false (ad_cons ed_str (ad_cons ed_str (ad_cons ed_str (ad_cons ed_str ad_nil)))))) (ed_callD h__law_draw (hr.mono (by decide)) (ad_cons (ed_var 0) (ad_cons ed_int ad_nil))))))))
abbrev s__law_odd_lamp : Stmt := (topS 50)
abbrev ps__law_odd_lamp : List Str := ["_law_m", "_law_colour"]
theorem sc__law_odd_lamp : FnScope N__law_odd_lamp ps__law_odd_lamp (defScope s__law_odd_lamp) := ⟨rfl, rfl, rfl, by decide +kernel, rfl, by decide +kernel, by decide +kernel⟩
theorem tm__law_odd_lamp (T : Tx K mg a_ROW_WORDS Draft) (h__law_draw : DefAt P w K mg base "_law_draw" 2 ps__law_draw P__law_draw) : ∀ (f : Addr) (cdv : Value) (A : Around) (outer : List Env) (s : Shared) (H : Hp) (E : XK), Room 2 (A.deeper (PyProof.Rows.envOfC "_law_odd_lamp" (defScope s__law_odd_lamp) s.heap.objs.size f cdv)) →
    PSSD (cxOf CX0 P w K mg base N__law_odd_lamp "_law_odd_lamp" (defScope s__law_odd_lamp) f cdv A outer s H E).nox (defBody s__law_odd_lamp) (td__law_odd_lamp ) :=
  fun f cdv A outer s H E hr => (ssd_cons (sd_set 2 sc__law_odd_lamp.nd (ed_lst false (ad_cons ed_str (ad_cons (ed_add false ed_str (ed_var 1)) (ad_cons (ed_add false (ed_add false ed_str (ed_var 1)) ed_str) (ad_cons (ed_add false (ed_add false ed_str (ed_var 1)) ed_str) (ad_cons (ed_add false (ed_add false ed_str (ed_var 1)) ed_str) ad_nil)))))))
    (ssd_cons (sd_set 2 sc__law_odd_lamp.nd (ed_add false (ed_var 2) (ed_lst false (ad_cons (ed_add false (ed_add false ed_str (ed_var 1)) ed_str) (ad_cons (ed_add false (ed_add false ed_str (ed_var 1)) ed_str) (ad_cons ed_str ad_nil))))))
    (ssd_cons (sd_set 2 sc__law_odd_lamp.nd (ed_add false (ed_var 2) (ed_lst false (ad_cons (ed_add false (ed_add false ed_str (ed_var 1)) ed_str) (ad_cons (ed_add false ed_str (ed_var 1)) (ad_cons ed_str (ad_cons (ed_add false (ed_add false ed_str (ed_var 1)) ed_str) ad_nil)))))))
    (ssd_cons (sd_set 2 sc__law_odd_lamp.nd (ed_add false (ed_var 2) (ed_lst false (ad_cons ed_str (ad_cons (ed_add false (ed_add false ed_str (ed_var 1)) ed_str) (ad_cons (ed_add false (ed_add false ed_str (ed_var 1)) ed_str) ad_nil))))))
    (ssd_cons (sd_set 2 sc__law_odd_lamp.nd (ed_add false (ed_var 2) (ed_lst false (ad_cons (ed_add false (ed_add false ed_str (ed_m0 PySem.F.slot_str_upper PySem.F.type_str_upper mt_upper rm_upper (ed_var 1))) ed_str) (ad_cons (ed_add false (ed_add false ed_str (ed_var 1)) ed_str) ad_nil)))))
    (ssd_one (sd_ret (ed_ix (ed_var 2) (ed_callD h__law_draw (hr.mono (by decide)) (ad_cons (ed_var 0) (ad_cons ed_int ad_nil)))))))))))
abbrev s__law_odd_sight : Stmt := (topS 51)
abbrev ps__law_odd_sight : List Str := ["_law_m", "_law_colour"]
theorem sc__law_odd_sight : FnScope N__law_odd_sight ps__law_odd_sight (defScope s__law_odd_sight) := ⟨rfl, rfl, rfl, by decide +kernel, rfl, by decide +kernel, by decide +kernel⟩
theorem tm__law_odd_sight (T : Tx K mg a_ROW_WORDS Draft) (h__law_draw : DefAt P w K mg base "_law_draw" 2 ps__law_draw P__law_draw) : ∀ (f : Addr) (cdv : Value) (A : Around) (outer : List Env) (s : Shared) (H : Hp) (E : XK), Room 2 (A.deeper (PyProof.Rows.envOfC "_law_odd_sight" (defScope s__law_odd_sight) s.heap.objs.size f cdv)) →
    PSSD (cxOf CX0 P w K mg base N__law_odd_sight "_law_odd_sight" (defScope s__law_odd_sight) f cdv A outer s H E).nox (defBody s__law_odd_sight) (td__law_odd_sight ) :=
  fun f cdv A outer s H E hr => (ssd_cons (sd_set 2 sc__law_odd_sight.nd (ed_lst false (ad_cons ed_str (ad_cons ed_str (ad_cons ed_str (ad_cons ed_str (ad_cons ed_str (ad_cons ed_str (ad_cons ed_str (ad_cons ed_str ad_nil))))))))))
    (ssd_cons (sd_set 2 sc__law_odd_sight.nd (ed_add false (ed_var 2) (ed_lst false (ad_cons ed_str (ad_cons (ed_add false (ed_add false ed_str (ed_var 1)) ed_str) (ad_cons (ed_add false ed_str (ed_mul false (ed_add false ed_str (ed_var 1)) ed_int)) (ad_cons ed_str ad_nil)))))))
    (ssd_cons (sd_set 2 sc__law_odd_sight.nd (ed_add false (ed_var 2) (ed_lst false (ad_cons (ed_add false (ed_add false ed_str (ed_var 1)) ed_str) (ad_cons ed_str (ad_cons (ed_add false ed_str (ed_var 1)) (ad_cons ed_str (ad_cons ed_str (ad_cons ed_str ad_nil)))))))))
    (ssd_cons (sd_set 2 sc__law_odd_sight.nd (ed_add false (ed_var 2) (ed_lst false (ad_cons ed_str (ad_cons (ed_add false (ed_add false ed_str (ed_var 1)) ed_str) (ad_cons (ed_add false (ed_add false ed_str (ed_var 1)) ed_str) (ad_cons ed_str (ad_cons ed_str ad_nil))))))))
    (ssd_one (sd_ret (ed_ix (ed_add false (ed_var 2) (ed_lst false (ad_cons ed_str (ad_cons ed_str (ad_cons ed_str ad_nil))))) (ed_callD h__law_draw (hr.mono (by decide)) (ad_cons (ed_var 0) (ad_cons ed_int ad_nil))))))))))
abbrev s__law_many : Stmt := (topS 52)
abbrev ps__law_many : List Str := ["_law_m", "_law_fleet_here", "_law_good", "_law_heads"]
theorem sc__law_many : FnScope N__law_many ps__law_many (defScope s__law_many) := ⟨rfl, rfl, rfl, by decide +kernel, rfl, by decide +kernel, by decide +kernel⟩
theorem tm__law_many (T : Tx K mg a_ROW_WORDS Draft) (h__law_draw : DefAt P w K mg base "_law_draw" 2 ps__law_draw P__law_draw) : ∀ (f : Addr) (cdv : Value) (A : Around) (outer : List Env) (s : Shared) (H : Hp) (E : XK), Room 2 (A.deeper (PyProof.Rows.envOfC "_law_many" (defScope s__law_many) s.heap.objs.size f cdv)) →
    PSSD (cxOf CX0 P w K mg base N__law_many "_law_many" (defScope s__law_many) f cdv A outer s H E).nox (defBody s__law_many) (td__law_many ) :=
  fun f cdv A outer s H E hr => (ssd_cons (sd_set 4 sc__law_many.nd (ed_ix (ed_ix (ed_var 1) ed_int) ed_int))
    (ssd_cons (sd_set 5 sc__law_many.nd (ed_lst false (ad_cons ed_str (ad_cons ed_str (ad_cons ed_str (ad_cons ed_str (ad_cons ed_str (ad_cons ed_str (ad_cons ed_str ad_nil)))))))))
    (ssd_cons (sd_set 6 sc__law_many.nd (ed_callD h__law_draw (hr.mono (by decide)) (ad_cons (ed_var 0) (ad_cons ed_int ad_nil))))
    (ssd_cons (sd_if (td_cmpR (op_eqG hr.units) rr_eq (ed_var 6) ed_int (nomark _)) (ssd_one (sd_ret (ed_tup (ad_cons (ed_add false (ed_lst false (ad_cons (ed_add false ed_str (ed_join ed_str (ed_var 5))) ad_nil)) (ed_sl false (ed_var 2) (od_some ed_int) od_none)) (ad_cons ed_int ad_nil))))) ssd_nil)
    (ssd_cons (sd_if (td_cmpR (op_eqG hr.units) rr_eq (ed_var 6) ed_int (nomark _)) (ssd_cons (sd_set 7 sc__law_many.nd (ed_sl false (ed_var 2) od_none (od_some ed_int)))
    (ssd_cons (sd_for PassesOwn.never rfl (id_seq (ed_var 5)) (gd_name 8 sc__law_many.nd) (ssd_one (sd_set 7 sc__law_many.nd (ed_add false (ed_var 7) (ed_lst false (ad_cons (ed_add false (ed_add false ed_str (ed_var 8)) ed_str) (ad_cons (ed_add false (ed_add false ed_str (ed_var 4)) ed_str) ad_nil)))))))
    (ssd_one (sd_ret (ed_tup (ad_cons (ed_var 7) (ad_cons ed_int ad_nil))))))) ssd_nil)
    (ssd_cons (sd_if (td_cmpR (op_eqG hr.units) rr_eq (ed_var 6) ed_int (nomark _)) (ssd_one (sd_ret (ed_tup (ad_cons (ed_add false (ed_sl false (ed_var 2) od_none (od_some ed_int)) (ed_mul false (ed_lst false (ad_cons (ed_add false (ed_add false ed_str (ed_var 4)) ed_str) ad_nil)) ed_int)) (ad_cons ed_int ad_nil))))) ssd_nil)
    (ssd_one (sd_ret (ed_tup (ad_cons (ed_add false (ed_sl false (ed_var 2) od_none (od_some (ed_var 3))) (ed_mul false (ed_lst false (ad_cons ed_str ad_nil)) ed_int)) (ad_cons (ed_add false (ed_var 3) ed_int) ad_nil)))))))))))
abbrev s__law_spoilt : Stmt := (topS 53)
abbrev ps__law_spoilt : List Str := ["_law_m", "_law_fleet_here", "_law_good"]
theorem sc__law_spoilt : FnScope N__law_spoilt ps__law_spoilt (defScope s__law_spoilt) := ⟨rfl, rfl, rfl, by decide +kernel, rfl, by decide +kernel, by decide +kernel⟩
theorem tm__law_spoilt (T : Tx K mg a_ROW_WORDS Draft) (h__law_draw : DefAt P w K mg base "_law_draw" 2 ps__law_draw P__law_draw) (h__law_odd_first : DefAt P w K mg base "_law_odd_first" 3 ps__law_odd_first P__law_odd_first) (h__law_odd_kind : DefAt P w K mg base "_law_odd_kind" 3 ps__law_odd_kind P__law_odd_kind) (h__law_odd_lamp : DefAt P w K mg base "_law_odd_lamp" 3 ps__law_odd_lamp P__law_odd_lamp) (h__law_odd_sight : DefAt P w K mg base "_law_odd_sight" 3 ps__law_odd_sight P__law_odd_sight) (h__law_many : DefAt P w K mg base "_law_many" 3 ps__law_many P__law_many) : ∀ (f : Addr) (cdv : Value) (A : Around) (outer : List Env) (s : Shared) (H : Hp) (E : XK), Room 3 (A.deeper (PyProof.Rows.envOfC "_law_spoilt" (defScope s__law_spoilt) s.heap.objs.size f cdv)) →
    PSSD (cxOf CX0 P w K mg base N__law_spoilt "_law_spoilt" (defScope s__law_spoilt) f cdv A outer s H E).nox (defBody s__law_spoilt) (td__law_spoilt ) :=
  fun f cdv A outer s H E hr => (ssd_cons (sd_set 3 sc__law_spoilt.nd (ed_callD h__law_draw (hr.mono (by decide)) (ad_cons (ed_var 0) (ad_cons ed_int ad_nil))))
    (ssd_cons (sd_set 4 sc__law_spoilt.nd (ed_ix (ed_ix (ed_var 1) ed_int) ed_int))
    (ssd_cons (sd_set 5 sc__law_spoilt.nd (ed_add false ed_int (ed_callB (cr_sum rfl) rl_sum T.b_sum PyProof.Rows.boot_sum (ad_cons (ed_lc false (own := [("_law_kind", 6), ("_law_turn", 7), ("_law_lamps_here", 8)]) rfl sc__law_spoilt.nd (blkOk_by (own := [("_law_kind", 6), ("_law_turn", 7), ("_law_lamps_here", 8)]) (N := N__law_spoilt) (sc := defScope s__law_spoilt) (by decide +kernel)) (id_seq (ed_ix (ed_var 1) ed_int)) (fun _ _ _ _ _ => gc_tup rfl (gsc_cons (gc_name 6 sc__law_spoilt.nd) (gsc_cons (gc_name 7 sc__law_spoilt.nd) (gsc_cons (gc_name 8 sc__law_spoilt.nd) gsc_nil))) rfl) (fun _ _ _ _ _ => tsd_nil) (fun _ _ _ _ _ => (ed_add false ed_int (ed_callB call_lenG rl_len T.b_len PySem.boot_len (ad_cons (ed_var 8) ad_nil))))) ad_nil))))
    (ssd_cons (sd_if (td_cmpR (op_eqG hr.units) rr_eq (ed_var 3) ed_int (nomark _)) (ssd_one (sd_ret (ed_tup (ad_cons (ed_add false (ed_lst false (ad_cons (ed_callD h__law_odd_first (hr.mono (by decide)) (ad_cons (ed_var 0) ad_nil)) ad_nil)) (ed_sl false (ed_var 2) (od_some ed_int) od_none)) (ad_cons ed_int ad_nil))))) ssd_nil)
    (ssd_cons (sd_if (td_cmpR (op_eqG hr.units) rr_eq (ed_var 3) ed_int (nomark _)) (ssd_cons (sd_set 9 sc__law_spoilt.nd (ed_ix (ed_lst false (ad_cons ed_int (ad_cons (ed_var 5) ad_nil))) (ed_callD h__law_draw (hr.mono (by decide)) (ad_cons (ed_var 0) (ad_cons ed_int ad_nil)))))
    (ssd_one (sd_ret (ed_tup (ad_cons (ed_add false (ed_add false (ed_sl false (ed_var 2) od_none (od_some (ed_var 9))) (ed_lst false (ad_cons (ed_callD h__law_odd_kind (hr.mono (by decide)) (ad_cons (ed_var 0) (ad_cons (ed_ix (ed_ix (ed_ix (ed_var 1) ed_int) ed_int) ed_int) ad_nil))) ad_nil))) (ed_sl false (ed_var 2) (od_some (ed_var 9)) od_none)) (ad_cons (ed_add false (ed_var 9) ed_int) ad_nil)))))) ssd_nil)
    (ssd_cons (sd_if (td_cmpR (op_eqG hr.units) rr_eq (ed_var 3) ed_int (nomark _)) (ssd_cons (sd_set 9 sc__law_spoilt.nd (ed_add false ed_int (ed_callD h__law_draw (hr.mono (by decide)) (ad_cons (ed_var 0) (ad_cons (ed_sub (ed_var 5) ed_int) ad_nil)))))
    (ssd_one (sd_ret (ed_tup (ad_cons (ed_add false (ed_add false (ed_sl false (ed_var 2) od_none (od_some (ed_var 9))) (ed_lst false (ad_cons (ed_callD h__law_odd_lamp (hr.mono (by decide)) (ad_cons (ed_var 0) (ad_cons (ed_var 4) ad_nil))) ad_nil))) (ed_sl false (ed_var 2) (od_some (ed_var 9)) od_none)) (ad_cons (ed_add false (ed_var 9) ed_int) ad_nil)))))) ssd_nil)
    (ssd_cons (sd_if (td_cmpR op_lt rr_cmp (ed_var 3) ed_int (nomark _)) (ssd_cons (sd_set 9 sc__law_spoilt.nd (ed_add false (ed_var 5) (ed_callD h__law_draw (hr.mono (by decide)) (ad_cons (ed_var 0) (ad_cons (ed_sub (ed_add false (ed_callB call_lenG rl_len T.b_len PySem.boot_len (ad_cons (ed_var 2) ad_nil)) ed_int) (ed_var 5)) ad_nil)))))
    (ssd_cons (sd_set 10 sc__law_spoilt.nd (ed_callD h__law_odd_sight (hr.mono (by decide)) (ad_cons (ed_var 0) (ad_cons (ed_var 4) ad_nil))))
    (ssd_one (sd_if (td_w (wd_or (td_cmpR op_notInG rr_in (ed_sl false (ed_var 10) od_none (od_some ed_int)) (ed_tup (ad_cons ed_str (ad_cons ed_str ad_nil))) (by rfl)) (wd_or1 (td_cmpR op_gt rr_cmp (ed_var 9) (ed_var 5) (nomark _))))) (ssd_one (sd_ret (ed_tup (ad_cons (ed_add false (ed_add false (ed_sl false (ed_var 2) od_none (od_some (ed_var 9))) (ed_lst false (ad_cons (ed_var 10) ad_nil))) (ed_sl false (ed_var 2) (od_some (ed_var 9)) od_none)) (ad_cons (ed_add false (ed_var 9) ed_int) ad_nil))))) ssd_nil)))) ssd_nil)
    (ssd_cons (sd_if (td_cmpR op_lt rr_cmp (ed_var 3) ed_int (nomark _)) (ssd_one (sd_ret (ed_callD h__law_many (hr.mono (by decide)) (ad_cons (ed_var 0) (ad_cons (ed_var 1) (ad_cons (ed_var 2) (ad_cons (ed_var 5) ad_nil))))))) ssd_nil)
    (ssd_cons (sd_if (td_cmpR (op_eqG hr.units) rr_eq (ed_var 3) ed_int (nomark _)) (ssd_cons (sd_set 11 sc__law_spoilt.nd (ed_lst false (ad_cons (ed_tup (ad_cons (ed_sl false (ed_var 2) (od_some ed_int) od_none) (ad_cons ed_int ad_nil))) (ad_cons (ed_tup (ad_cons (ed_add false (ed_sl false (ed_var 2) od_none (od_some ed_int)) (ed_sl false (ed_var 2) (od_some ed_int) od_none)) (ad_cons ed_int ad_nil))) (ad_cons (ed_tup (ad_cons (ed_add false (ed_sl false (ed_var 2) od_none (od_some ed_int)) (ed_lst false (ad_cons ed_str ad_nil))) (ad_cons ed_int ad_nil))) ad_nil)))))
    (ssd_cons (sd_set 11 sc__law_spoilt.nd (ed_add false (ed_var 11) (ed_lst false (ad_cons (ed_tup (ad_cons (ed_add false (ed_sl false (ed_var 2) od_none (od_some ed_int)) (ed_lst false (ad_cons ed_str ad_nil))) (ad_cons ed_int ad_nil))) (ad_cons (ed_tup (ad_cons (ed_add false (ed_sl false (ed_var 2) od_none (od_some ed_int)) (ed_lst false (ad_cons ed_str ad_nil))) (ad_cons ed_int ad_nil))) ad_nil)))))
    (ssd_one (sd_ret (ed_ix (ed_var 11) (ed_callD h__law_draw (hr.mono (by decide)) (ad_cons (ed_var 0) (ad_cons ed_int ad_nil)))))))) ssd_nil)
    (ssd_cons (sd_set 12 sc__law_spoilt.nd (ed_ix (ed_lst false (ad_cons (ed_sl false (ed_var 2) od_none (od_some ed_int)) (ad_cons (ed_sl false (ed_var 2) od_none (od_some ed_int)) (ad_cons (ed_lst false ad_nil) ad_nil)))) (ed_callD h__law_draw (hr.mono (by decide)) (ad_cons (ed_var 0) (ad_cons ed_int ad_nil)))))
    (ssd_one (sd_ret (ed_tup (ad_cons (ed_add false (ed_var 12) (ed_mul false (ed_lst false (ad_cons (ed_ix (ed_lst false (ad_cons ed_str (ad_cons ed_str (ad_cons ed_str ad_nil)))) (ed_callD h__law_draw (hr.mono (by decide)) (ad_cons (ed_var 0) (ad_cons ed_int ad_nil)))) ad_nil)) (ed_mul false (ed_callD h__law_draw (hr.mono (by decide)) (ad_cons (ed_var 0) (ad_cons ed_int ad_nil))) (ed_callTy call_int1 rl_int T.b_int PyProof.Rows.boot_int (ad_cons (ed_cmpR (op_neG hr.units) rr_ne (ed_var 12) (ed_lst false ad_nil) (nomark _)) ad_nil))))) (ad_cons ed_int ad_nil)))))))))))))))
abbrev s__law_spread : Stmt := (topS 54)
abbrev ps__law_spread : List Str := ["_law_m", "_law_lines_here", "_law_due"]
theorem sc__law_spread : FnScope N__law_spread ps__law_spread (defScope s__law_spread) := ⟨rfl, rfl, rfl, by decide +kernel, rfl, by decide +kernel, by decide +kernel⟩
theorem tm__law_spread (T : Tx K mg a_ROW_WORDS Draft) (h__law_draw : DefAt P w K mg base "_law_draw" 2 ps__law_draw P__law_draw) : ∀ (f : Addr) (cdv : Value) (A : Around) (outer : List Env) (s : Shared) (H : Hp) (E : XK), Room 2 (A.deeper (PyProof.Rows.envOfC "_law_spread" (defScope s__law_spread) s.heap.objs.size f cdv)) →
    PSSD (cxOf CX0 P w K mg base N__law_spread "_law_spread" (defScope s__law_spread) f cdv A outer s H E).nox (defBody s__law_spread) (td__law_spread ) :=
  fun f cdv A outer s H E hr => (ssd_cons (sd_if (td_cmpR (op_eqG hr.units) rr_eq (ed_var 2) ed_int (nomark _)) (ssd_one (sd_ret (ed_tup (ad_cons (ed_var 1) (ad_cons (ed_add false (ed_callB (call_max2 rfl) rl_max2 T.b_max PyProof.Rows.boot_max (ad_cons ed_int (ad_cons (ed_callB call_lenG rl_len T.b_len PySem.boot_len (ad_cons (ed_var 1) ad_nil)) ad_nil))) ed_int) ad_nil))))) ssd_nil)
    (ssd_cons (sd_set 3 sc__law_spread.nd (ed_callD h__law_draw (hr.mono (by decide)) (ad_cons (ed_var 0) (ad_cons ed_int ad_nil))))
    (ssd_cons (sd_set 4 sc__law_spread.nd (ed_lst true ad_nil))
    (ssd_cons (sd_set 5 sc__law_spread.nd ed_int)
    (ssd_cons (sd_for PassesOwn.never rfl (id_enum T.b_enumerate (ad_cons (ed_var 1) ad_nil)) (gd_tup rfl (gsd_cons (gd_name 6 sc__law_spread.nd) (gsd_cons (gd_name 7 sc__law_spread.nd) gsd_nil)) rfl) (ssd_cons (sd_if (td_w (wd_and (td_cmpR op_gt rr_cmp (ed_var 3) ed_int (nomark _)) (wd_and1 (td_cmpR (op_eqG hr.units) rr_eq (ed_callD h__law_draw (hr.mono (by decide)) (ad_cons (ed_var 0) (ad_cons ed_int ad_nil))) ed_int (nomark _))))) (ssd_one (sd_set 4 sc__law_spread.nd (ed_add true (ed_var 4) (ed_mul false (ed_lst false (ad_cons (ed_ix (ed_lst false (ad_cons ed_str (ad_cons ed_str (ad_cons ed_str (ad_cons ed_str ad_nil))))) (ed_callD h__law_draw (hr.mono (by decide)) (ad_cons (ed_var 0) (ad_cons ed_int ad_nil)))) ad_nil)) (ed_add false ed_int (ed_callD h__law_draw (hr.mono (by decide)) (ad_cons (ed_var 0) (ad_cons ed_int ad_nil)))))))) ssd_nil)
    (ssd_cons (sd_expr (ed_append (ed_var 4) (ad_cons (ed_var 7) ad_nil)))
    (ssd_one (sd_if (td_cmpR (op_eqG hr.units) rr_eq (ed_add false (ed_var 6) ed_int) (ed_var 2) (nomark _)) (ssd_one (sd_set 5 sc__law_spread.nd (ed_callB call_lenG rl_len T.b_len PySem.boot_len (ad_cons (ed_var 4) ad_nil)))) ssd_nil)))))
    (ssd_one (sd_ret (ed_tup (ad_cons (ed_var 4) (ad_cons (ed_var 5) ad_nil))))))))))
abbrev s_law : Stmt := (topS 55)
abbrev ps_law : List Str := ["_law_script"]
theorem sc_law : FnScope N_law ps_law (defScope s_law) := ⟨rfl, rfl, rfl, by decide +kernel, rfl, by decide +kernel, by decide +kernel⟩
theorem tm_law (T : Tx K mg a_ROW_WORDS Draft) (iok : IsaOk K isa) (h__law_begun : DefAt P w K mg base "_law_begun" 3 ps__law_begun P__law_begun) (h__law_fleet : DefAt P w K mg base "_law_fleet" 5 ps__law_fleet P__law_fleet) (h__law_sights : DefAt P w K mg base "_law_sights" 3 ps__law_sights P__law_sights) (h__law_lines : DefAt P w K mg base "_law_lines" 3 ps__law_lines P__law_lines) (h__law_draw : DefAt P w K mg base "_law_draw" 2 ps__law_draw P__law_draw) (h__law_spread : DefAt P w K mg base "_law_spread" 3 ps__law_spread P__law_spread) (h__law_refused : DefAt P w K mg base "_law_refused" 9 ps__law_refused P__law_refused) (h__law_spoilt : DefAt P w K mg base "_law_spoilt" 4 ps__law_spoilt P__law_spoilt) : ∀ (f : Addr) (cdv : Value) (A : Around) (outer : List Env) (s : Shared) (H : Hp) (E : XK), Room 9 (A.deeper (PyProof.Rows.envOfC "law" (defScope s_law) s.heap.objs.size f cdv)) →
    PSSD (cxOf CX0 P w K mg base N_law "law" (defScope s_law) f cdv A outer s H E).nox (defBody s_law) (td_law isa) :=
  fun f cdv A outer s H E hr => (ssd_cons (sd_set 1 sc_law.nd (ed_callD h__law_begun (hr.mono (by decide)) (ad_cons (ed_var 0) ad_nil)))
    (ssd_cons (sd_set 2 sc_law.nd (ed_callD h__law_fleet (hr.mono (by decide)) (ad_cons (ed_var 1) ad_nil)))
    (ssd_cons (sd_set 3 sc_law.nd (ed_callD h__law_lines (hr.mono (by decide)) (ad_cons (ed_var 2) (ad_cons (ed_callD h__law_sights (hr.mono (by decide)) (ad_cons (ed_var 1) (ad_cons (ed_var 2) (ad_cons ed_int ad_nil)))) ad_nil))))
    (ssd_cons (sd_if (td_cmpR (op_eqG hr.units) rr_eq (ed_callD h__law_draw (hr.mono (by decide)) (ad_cons (ed_var 1) (ad_cons ed_int ad_nil))) ed_int (nomark _)) (ssd_cons (sd_asg (ed_callD h__law_spread (hr.mono (by decide)) (ad_cons (ed_var 1) (ad_cons (ed_var 3) (ad_cons ed_int ad_nil)))) (gd_tup rfl (gsd_cons (gd_name 4 sc_law.nd) (gsd_cons (gd_name 5 sc_law.nd) gsd_nil)) rfl))
    (ssd_one (sd_ret (ed_and (ed_cmpR op_isN rr_isN (ed_callD h__law_refused (hr.mono (by decide)) (ad_cons (ed_join ed_str (ed_var 4)) ad_nil)) ed_non (nomark _)) (ed_one (ed_cmpR op_isN rr_isN (ed_callD h__law_refused (hr.mono (by decide)) (ad_cons (ed_add false (ed_join ed_str (ed_var 3)) ed_str) ad_nil)) ed_non (nomark _))))))) ssd_nil)
    (ssd_cons (sd_for PassesOwn.never rfl (id_rng1 T.b_range (ad_cons ed_int ad_nil)) (gd_name 6 sc_law.nd) (ssd_cons (sd_asg (ed_callD h__law_spoilt (hr.mono (by decide)) (ad_cons (ed_var 1) (ad_cons (ed_var 2) (ad_cons (ed_var 3) ad_nil)))) (gd_tup rfl (gsd_cons (gd_name 4 sc_law.nd) (gsd_cons (gd_name 5 sc_law.nd) gsd_nil)) rfl))
    (ssd_cons (sd_if (td_w (wd_and (td_cmpR op_gt rr_cmp (ed_var 5) ed_int (nomark _)) (wd_and1 (td_cmpR (op_eqG hr.units) rr_eq (ed_callD h__law_draw (hr.mono (by decide)) (ad_cons (ed_var 1) (ad_cons ed_int ad_nil))) ed_int (nomark _))))) (ssd_one (sd_set 4 sc_law.nd (ed_add false (ed_var 4) (ed_ix (ed_lst false (ad_cons (ed_lst false (ad_cons ed_str (ad_cons ed_str ad_nil))) (ad_cons (ed_lst false (ad_cons ed_str (ad_cons ed_str ad_nil))) ad_nil))) (ed_callD h__law_draw (hr.mono (by decide)) (ad_cons (ed_var 1) (ad_cons ed_int ad_nil))))))) ssd_nil)
    (ssd_cons (sd_asg (ed_callD h__law_spread (hr.mono (by decide)) (ad_cons (ed_var 1) (ad_cons (ed_var 4) (ad_cons (ed_var 5) ad_nil)))) (gd_tup rfl (gsd_cons (gd_name 4 sc_law.nd) (gsd_cons (gd_name 5 sc_law.nd) gsd_nil)) rfl))
    (ssd_one (sd_for PassesOwn.never rfl (id_rng1 T.b_range (ad_cons ed_int ad_nil)) (gd_name 7 sc_law.nd) (ssd_cons (sd_set 8 sc_law.nd (ed_callD h__law_refused (hr.mono (by decide)) (ad_cons (ed_join ed_str (ed_var 4)) ad_nil)))
    (ssd_one (sd_if (td_w (wd_or (td_cmpR (op_neG hr.units) rr_ne (ed_var 8) (ed_lst false (ad_cons (ed_var 5) ad_nil)) (nomark _)) (wd_or1 (td_tru (ed_callB call_isD (rl_isi iok) T.b_isinstance PyProof.Rows.boot_isinstance (ad_cons (ed_ix (ed_var 8) ed_int) (ad_cons (ed_blt T.b_bool PyProof.Rows.boot_bool) ad_nil))))))) (ssd_one (sd_ret ed_bl)) ssd_nil)))))))))
    (ssd_one (sd_ret (ed_cmpR (op_eqG hr.units) rr_eq (ed_callD h__law_refused (hr.mono (by decide)) (ad_cons (ed_ix (ed_lst false (ad_cons ed_non (ad_cons ed_int (ad_cons (ed_lst false (ad_cons ed_str ad_nil)) (ad_cons ed_bl (ad_cons (ed_tup (ad_cons ed_str ad_nil)) (ad_cons ed_dnew ad_nil))))))) (ed_callD h__law_draw (hr.mono (by decide)) (ad_cons (ed_var 1) (ad_cons ed_int ad_nil)))) ad_nil)) (ed_lst false (ad_cons ed_int ad_nil)) (nomark _)))))))))
end

end DL
set_option Elab.async false
set_option linter.all false
set_option maxRecDepth 100000
set_option maxHeartbeats 4000001
namespace DL
open PySem L2
local macro_rules | `(tactic| walk_at "dd") => `(tactic| simp only [dSeq, dAsg, dgName, dgTup, dgSub, dOp, dVar, dC, dAdd, dSub, dMul, dMod, dFDiv, dPow, dCmp, dNeg, dEqn, dIsN, dIx, dTup, dLst, dConsA, dNilA, dCB, dCall, dRet, dRetN, dDrop, dIfS, dNext, dBreak, dCont, dTest, dTru, dAndT, dOrT, dNotT, dAndV, dOrV, dNotV, dIf, dChain, dDGet, dDPut, dM1, dM0, dJoin, dSplit, dUpper, dBML, dAppend, dInsert, dPopAt, dLen, dInt, dStr, dTupOf, dListOf, dMax2, dSum, dAll, dSl, dPart, dNoPart, newLst, keyD,
  startD, setAll, wipeD, List.map_cons, List.map_nil, List.length_cons, List.length_nil, List.replicate, List.cons_append, List.nil_append, List.getElem?_cons_zero, List.getElem?_cons_succ, List.set_cons_zero, List.set_cons_succ, Nat.reduceAdd, Nat.reduceSub, Bool.false_eq_true, if_true, if_false, ite_true, ite_false, reduceIte])
local macro_rules | `(tactic| walk_at "cm") => `(tactic| first | exact .inl ⟨by omega, by omega⟩ | exact .inr ⟨by omega, by omega⟩ | exact ⟨by omega, by omega⟩ | omega | decide)
theorem rd__law_mixed : ∀ ds μ Q, P__law_mixed ds μ Q → td__law_mixed { nx := fun _ μ' => GhQ Q .non μ', rt := GhQ Q } (startD N__law_mixed ds) μ := by
  rintro ds μ Q ⟨c, k, rfl, h1, h2, h3, h4, h⟩
  unfold td__law_mixed N__law_mixed
  walk_at "dd"
  refine ⟨by walk_at "cm", by walk_at "cm", by walk_at "cm", by walk_at "cm", by walk_at "cm", by walk_at "cm", by walk_at "cm", by walk_at "cm", by walk_at "cm", by walk_at "cm", GhQ.self (h _ ?_ ?_)⟩
  · generalize (c * (1 + 2 * k) * 48271 % 2147483647 + 7919 * k * k + 104729 * k) * 69621 = z
    omega
  · generalize (c * (1 + 2 * k) * 48271 % 2147483647 + 7919 * k * k + 104729 * k) * 69621 = z
    omega
/-! lists of numbers are data -/
theorem pdL_ints : ∀ ns : List Int, pdL (ns.map D.int) = some (ns.map PyData.int)
  | [] => by simp [pdL]
  | n :: ns => by rw [List.map_cons, pdL, pdL_ints ns, pd] <;> rfl
theorem lay_ints : ∀ ns : List Int, PyData.canLayAll0 (ns.map PyData.int) = true
  | [] => by simp [PyData.canLayAll0]
  | n :: ns => by rw [List.map_cons, PyData.canLayAll0, lay_ints ns, PyData.canLay0] <;> rfl
theorem dep_ints : ∀ ns : List Int, PyData.depthAll (ns.map PyData.int) = 0
  | [] => by simp [PyData.depthAll]
  | n :: ns => by rw [List.map_cons, PyData.depthAll, dep_ints ns, PyData.depth] <;> rfl
theorem shaped_ints (ns : List Int) : SeqAt.shaped (.list (ns.map PyData.int)) = true := by
  unfold SeqAt.shaped
  rw [PyData.canLay0, lay_ints, PyData.depth, dep_ints] <;> rfl
theorem shaped_nil : SeqAt.shaped (.list []) = true := shaped_ints []
theorem eqv_nil : ∀ xs : List PyData, PyData.eqv (.list xs) (.list []) = xs.isEmpty
  | [] => by simp [PyData.eqv, PyData.eqvAll]
  | x :: xs => by simp [PyData.eqv, PyData.eqvAll]
theorem atI_some {α : Type} {xs : List α} {i : Int} {x : α} (h0 : 0 ≤ i) (h : xs[i.toNat]? = some x) : atI xs i = some x := by
  have hl : i.toNat < xs.length := (List.getElem?_eq_some_iff.mp h).1
  unfold atI ixN
  rw [if_pos h0, if_pos (by omega)]
  exact h
theorem atI_ex {α : Type} {xs : List α} {i : Int} (h0 : 0 ≤ i) (h : i < xs.length) : ∃ x, atI xs i = some x ∧ x ∈ xs ∧ xs[i.toNat]? = some x := by
  have hl : i.toNat < xs.length := by omega
  exact ⟨xs[i.toNat], atI_some h0 (by simp [hl]), List.getElem_mem _, by simp [hl]⟩
theorem ixN_some {n : Nat} {i : Int} (h0 : 0 ≤ i) (h : i < n) : ixN n i = some i.toNat := by
  unfold ixN
  rw [if_pos h0, if_pos h]
theorem kc1 : decide ((Sum.inr ("cells" : Str) : Key) = (Sum.inr ("cells" : Str) : Key)) = true := by decide +kernel
theorem kc2 : decide ((Sum.inr ("cells" : Str) : Key) = (Sum.inr ("digits" : Str) : Key)) = false := by decide +kernel
theorem kc3 : decide ((Sum.inr ("digits" : Str) : Key) = (Sum.inr ("digits" : Str) : Key)) = true := by decide +kernel
theorem kc4 : decide ((Sum.inr ("cells" : Str) : Key) = (Sum.inr ("at" : Str) : Key)) = false := by decide +kernel
theorem kc5 : decide ((Sum.inr ("digits" : Str) : Key) = (Sum.inr ("at" : Str) : Key)) = false := by decide +kernel
theorem kc6 : decide ((Sum.inr ("at" : Str) : Key) = (Sum.inr ("at" : Str) : Key)) = true := by decide +kernel
theorem getK_cells {c : List Int} {dg : Addr} {t : Int} {r : List (Key × D)} : getK (tabD c dg t r) (.inr "cells") = some (.lst (c.map .int)) := by
  unfold getK tabD; simp only [List.find?_cons, decide_true, Option.map_some]
theorem getK_digits {c : List Int} {dg : Addr} {t : Int} {r : List (Key × D)} : getK (tabD c dg t r) (.inr "digits") = some (.obj dg) := by
  unfold getK tabD; simp only [List.find?_cons, kc2, decide_true, Option.map_some]
theorem getK_at {c : List Int} {dg : Addr} {t : Int} {r : List (Key × D)} : getK (tabD c dg t r) (.inr "at") = some (.int t) := by
  unfold getK tabD; simp only [List.find?_cons, kc4, kc5, decide_true, Option.map_some]
theorem putKD_at {c : List Int} {dg : Addr} {t u : Int} {r : List (Key × D)} (h : ∀ kv ∈ r, kv.1 ≠ (Sum.inr ("at" : Str) : Key)) : putKD (tabD c dg t r) (.inr "at") (.int u) = tabD c dg u r := by
  have n1 : ¬ (Sum.inr ("cells" : Str) : Key) = (Sum.inr ("at" : Str) : Key) := of_decide_eq_false kc4
  have n2 : ¬ (Sum.inr ("digits" : Str) : Key) = (Sum.inr ("at" : Str) : Key) := of_decide_eq_false kc5
  have e : r.map (fun kv => if kv.1 = (Sum.inr ("at" : Str) : Key) then (kv.1, D.int u) else kv) = r := by
    have : ∀ kv ∈ r, (fun kv : Key × D => if kv.1 = (Sum.inr ("at" : Str) : Key) then (kv.1, D.int u) else kv) kv = kv := fun kv hk => if_neg (h kv hk)
    rw [List.map_congr_left this, List.map_id']
  have a : ((tabD c dg t r).any fun kv => decide (kv.1 = (Sum.inr ("at" : Str) : Key))) = true := by
    unfold tabD; simp only [List.any_cons, kc4, kc5, decide_true, Bool.false_or, Bool.true_or]
  unfold putKD
  rw [if_pos a]
  unfold tabD
  rw [List.map_cons, List.map_cons, List.map_cons, e, if_neg n1, if_neg n2, if_pos rfl]
theorem tab_len {c : List Int} {dg : Addr} {t : Int} {r : List (Key × D)} (h : r.length ≤ 100) : (tabD c dg t r).length < sizeLine := by
  have : sizeLine = 16777216 := rfl
  unfold tabD; simp only [List.length_cons]; omega
theorem rd__law_draw : ∀ ds μ Q, P__law_draw ds μ Q → td__law_draw { nx := fun _ μ' => GhQ Q .non μ', rt := GhQ Q } (startD N__law_draw ds) μ := by
  rintro ds μ Q ⟨m, dg, rest, n, j, rfl, M, hn, hj0, hj, h⟩
  obtain ⟨hne, ⟨hf, hno⟩, cells, digits, at_, h1, h2, h3, h4, h5, h6, h7⟩ := id M
  unfold td__law_draw N__law_draw
  walk_at "dd"
  refine ⟨_, _, _, h1, rfl, getK_at, ?_⟩
  refine ⟨_, _, h1, rfl, tab_len hf, ?_⟩
  rw [putKD_at hno]
  generalize hμ : put μ m (.dK (tabD cells dg (at_ + 1) rest)) = ν
  have e1 : ν m = some (.dK (tabD cells dg (at_ + 1) rest)) := by rw [← hμ]; exact put_same
  have e2 : ν dg = some (.lst (digits.map .int)) := by rw [← hμ, put_ne (Ne.symm hne)]; exact h2
  have M' : MOk m dg rest (n + 1) ν := ⟨hne, ⟨hf, hno⟩, cells, digits, at_ + 1, e1, e2, h3, h4, by omega, by omega, h7⟩
  have F' : Fr m dg μ ν := fun a x1 x2 => by rw [← hμ, put_ne x1]
  refine ⟨_, _, _, e1, rfl, getK_digits, by show 0 ≤ sizeLine; exact Nat.zero_le _, ?_⟩
  refine ⟨.list (digits.map .int), .list [], ?_, ?_, shaped_ints _, shaped_nil, ?_⟩
  · show pdM ν (.obj dg) = _
    unfold pdM; simp only [e2, pdL_ints, Option.map_some]
  · simp [pdM, pd, pdL]
  rw [eqv_nil]
  cases hd : digits with
  | nil =>
    have hb : (digits.map PyData.int).isEmpty = true := by rw [hd]; rfl
    simp only [hb, Bool.not_true, Bool.false_eq_true, if_false]
    refine ⟨_, _, _, e1, rfl, getK_cells, by decide, ?_⟩
    obtain ⟨x, hx, hx2⟩ : ∃ x, cells[(at_ % 64).toNat]? = some x ∧ x ∈ cells := by
      have : (at_ % 64).toNat < cells.length := by omega
      exact ⟨cells[(at_ % 64).toNat], by simp [this], List.getElem_mem _⟩
    obtain ⟨x0, x1⟩ := h4 x hx2
    refine ⟨_, .int x, rfl, atI_some (by omega) (by rw [List.getElem?_map, hx]; rfl), by walk_at "cm", by walk_at "cm", ?_⟩
    refine ⟨_, _, rfl, by omega, by omega, by omega, by omega, fun r r0 r1 => ?_⟩
    refine ⟨_, _, rfl, by omega, by omega, by omega, by omega, fun r' r0' r1' => ⟨hj0, ?_⟩⟩
    exact GhQ.self (h _ _ (Int.emod_nonneg _ (by omega)) (Int.emod_lt_of_pos _ hj0) M' F')
  | cons d0 dr =>
    have hlen : 0 < digits.length := by rw [hd]; simp
    have hb : (digits.map PyData.int).isEmpty = false := by rw [hd]; rfl
    simp only [hb, Bool.not_false, if_true]
    refine ⟨_, _, _, e1, rfl, getK_digits, ⟨digits.map .int, e2, ?_⟩⟩
    rw [List.length_map]
    have hl0 : (0 : Int) < digits.length := by omega
    refine ⟨hl0, ?_⟩
    have b0 := Int.emod_nonneg at_ (show (digits.length : Int) ≠ 0 by omega)
    have b1 := Int.emod_lt_of_pos at_ hl0
    generalize hk : at_ % (digits.length : Int) = k at b0 b1 ⊢
    obtain ⟨x, hx⟩ : ∃ x, digits[k.toNat]? = some x := by
      have : k.toNat < digits.length := by omega
      exact ⟨digits[k.toNat], by simp [this]⟩
    refine ⟨_, _, _, e1, rfl, getK_digits, ⟨digits.map .int, .int x, e2, atI_some b0 (by rw [List.getElem?_map, hx]; rfl), ?_⟩⟩
    refine ⟨⟨hj0, by omega⟩, _, _, _, e1, rfl, getK_digits, ⟨_, _, e2, ixN_some b0 (by rw [List.length_map]; exact b1), ?_⟩⟩
    refine ⟨hj0, GhQ.self (h _ _ (Int.emod_nonneg _ (by omega)) (Int.emod_lt_of_pos _ hj0) ?_ ?_)⟩
    · have : (digits.map D.int).set k.toNat (.int (x / j)) = (digits.set k.toNat (x / j)).map .int := by rw [List.map_set]
      rw [this]
      exact ⟨hne, ⟨hf, hno⟩, cells, digits.set k.toNat (x / j), at_ + 1, by rw [put_ne hne]; exact e1, put_same, h3, h4, by omega, by omega, by rw [List.length_set]; exact h7⟩
    · intro a x1 x2
      rw [put_ne x2]; exact F' a x1 x2
end DL
set_option Elab.async false
set_option linter.all false
set_option maxRecDepth 100000
set_option maxHeartbeats 4000001
namespace DL
open PySem L2
local macro_rules | `(tactic| walk_at "dd") => `(tactic| try simp only [dSeq, dAsg, dgName, dgTup, dgSub, dOp, dVar, dC, dAdd, dSub, dMul, dMod, dFDiv, dPow, dCmp, dNeg, dEqn, dIsN, dIx, dTup, dLst, dConsA, dNilA, dCB, dCall, dRet, dRetN, dDrop, dIfS, dNext, dBreak, dCont, dTest, dTru, dAndT, dOrT, dNotT, dAndV, dOrV, dNotV, dIf, dChain, dDGet, dDPut, dM1, dM0, dJoin, dSplit, dUpper, dBML, dAppend, dInsert, dPopAt, dLen, dInt, dStr, dTupOf, dListOf, dMax2, dSum, dAll, dSl, dPart, dNoPart, newLst, keyD, dFor, dLc, diSeq, diRng1, diRng2, diEnum, diEnumS, diStr,
  startD, setAll, wipeD, List.map_cons, List.map_nil, List.length_cons, List.length_nil, List.replicate, List.cons_append, List.nil_append, List.getElem?_cons_zero, List.getElem?_cons_succ, List.set_cons_zero, List.set_cons_succ, Nat.reduceAdd, Nat.reduceSub, Bool.false_eq_true, if_true, if_false, ite_true, ite_false, reduceIte])
local macro_rules | `(tactic| walk_at "cm") => `(tactic| first | exact .inl ⟨by omega, by omega⟩ | exact .inr ⟨by omega, by omega⟩ | exact ⟨by omega, by omega⟩ | omega | decide)
/-- a list of numbers of this length, each below 2 ^ 31 *)
-/
def Cells (c : List Int) : Prop := c.length = 64 ∧ ∀ x ∈ c, 0 ≤ x ∧ x < 2147483647
theorem Cells.set {c : List Int} (h : Cells c) (i : Nat) {x : Int} (h0 : 0 ≤ x) (h1 : x < 2147483647) : Cells (c.set i x) := by
  refine ⟨by rw [List.length_set]; exact h.1, fun y hy => ?_⟩
  rcases List.mem_or_eq_of_mem_set hy with hy | rfl
  · exact h.2 y hy
  · exact ⟨h0, h1⟩
theorem Cells.at {c : List Int} (h : Cells c) {i : Int} (h0 : 0 ≤ i) (h1 : i < 64) : ∃ x, atI (c.map D.int) i = some (.int x) ∧ 0 ≤ x ∧ x < 2147483647 := by
  have hl : i.toNat < c.length := by rw [h.1]; omega
  obtain ⟨a, b⟩ := h.2 c[i.toNat] (List.getElem_mem _)
  exact ⟨c[i.toNat], atI_some h0 (by simp [hl]), a, b⟩
theorem rd__law_folded : ∀ ds μ Q, P__law_folded ds μ Q → td__law_folded { nx := fun _ μ' => GhQ Q .non μ', rt := GhQ Q } (startD N__law_folded ds) μ := by
  rintro ds μ Q ⟨ns, rfl, hl, h⟩
  unfold td__law_folded N__law_folded
  walk_at "dd"
  refine ⟨by decide, LcB.pure (fun d => match d with | .int i => .int (17 + i) | d => d) trivial (by rw [rngD_len]; decide) (fun j d Qd hd q => ?_) ?_⟩
  · obtain ⟨hj, rfl⟩ := rngD_get hd
    walk_at "dd"
    exact q
  intro p hp
  have e0 : (rngD 0 (64 : Int).toNat).map (fun d => match d with | .int i => D.int (17 + i) | d => d) = ((List.range 64).map fun i => (17 + (0 + (i : Nat)) : Int)).map D.int := by
    unfold rngD; rw [List.map_map, List.map_map]; rfl
  rw [e0]
  have c0 : Cells ((List.range 64).map fun i => (17 + (0 + (i : Nat)) : Int)) := by
    refine ⟨by simp, fun x hx => ?_⟩
    obtain ⟨i, hi, rfl⟩ := List.mem_map.mp hx
    rw [List.mem_range] at hi
    omega
  walk_at "dd"
  -- the script's cells go in
  let I : DSl → Mu → Prop := fun ds ν => ∃ (c : List Int) (x3 x2 : Option D), Cells c ∧ ds = [some (.scr (ns.map .int)), some (.obj p), x2, x3] ∧ ν = put μ p (.lst (c.map .int))
  refine ⟨fun _ => I, ⟨_, _, _, c0, rfl, rfl⟩, fun _ _ _ _ _ => trivial, fun j d ds ν hd hI => ?_, fun ds ν hI => ?_⟩
  · obtain ⟨c, x3, x2, hc, rfl, rfl⟩ := hI
    obtain ⟨y, hy, rfl⟩ := enumD_get hd
    obtain ⟨z, hz, rfl⟩ := map_get hy
    walk_at "dd"
    refine ⟨trivial, by decide, ?_⟩
    obtain ⟨x, hx, x0, x1⟩ := hc.at (i := (0 + (j : Int)) % 64) (by omega) (by omega)
    refine ⟨_, _, put_same, hx, by walk_at "cm", by decide, by decide, ?_⟩
    refine ⟨_, _, put_same, ixN_some (by omega) (by rw [List.length_map, hc.1]; omega), ?_⟩
    refine ⟨c.set ((0 + (j : Int)) % 64).toNat ((x * 48271 + z) % 2147483647), _, _, hc.set _ (by omega) (by omega), rfl, ?_⟩
    rw [put_put, ← List.map_set]
  · obtain ⟨c, x3, x2, hc, rfl, rfl⟩ := hI
    walk_at "dd"
    refine ⟨by decide, fun _ => I, ⟨c, _, _, hc, rfl, rfl⟩, fun _ _ _ _ _ => trivial, fun j d ds ν hd hI => ?_, fun ds ν hI => ?_⟩
    · obtain ⟨c, x3, x2, hc, rfl, rfl⟩ := hI
      obtain ⟨hj, rfl⟩ := rngD_get hd
      walk_at "dd"
      have hj' : (1 : Int) + j < 64 := by omega
      obtain ⟨x, hx, x0, x1⟩ := hc.at (i := 1 + (j : Int)) (by omega) hj'
      obtain ⟨y, hy, y0, y1⟩ := hc.at (i := 1 + (j : Int) - 1) (by omega) (by omega)
      refine ⟨_, _, put_same, hx, _, _, put_same, hy, by walk_at "cm", by decide, ?_⟩
      refine ⟨_, _, put_same, ixN_some (by omega) (by rw [List.length_map, hc.1]; omega), ?_⟩
      refine ⟨c.set (1 + (j : Int)).toNat ((x + y * 16807) % 2147483647), _, _, hc.set _ (by omega) (by omega), rfl, ?_⟩
      rw [put_put, ← List.map_set]
    · obtain ⟨c, x3, x2, hc, rfl, rfl⟩ := hI
      walk_at "dd"
      exact GhQ.fix (SubM.new hp) put_same hp (h c hc.1 hc.2)
end DL
set_option Elab.async false
set_option linter.all false
set_option maxRecDepth 100000
set_option maxHeartbeats 4000001
namespace DL
open PySem L2 TL
local macro_rules | `(tactic| walk_at "dd") => `(tactic| try simp only [dSeq, dAsg, dgName, dgTup, dgSub, dOp, dVar, dC, dAdd, dSub, dMul, dMod, dFDiv, dPow, dCmp, dNeg, dEqn, dIsN, dIx, dTup, dLst, dConsA, dNilA, dCB, dCall, dRet, dRetN, dDrop, dIfS, dNext, dBreak, dCont, dTest, dTru, dAndT, dOrT, dNotT, dAndV, dOrV, dNotV, dIf, dChain, dDGet, dDPut, dM1, dM0, dJoin, dSplit, dUpper, dBML, dAppend, dInsert, dPopAt, dLen, dInt, dStr, dTupOf, dListOf, dMax2, dSum, dAll, dSl, dPart, dNoPart, newLst, keyD, dFor, dLc, diSeq, diRng1, diRng2, diEnum, diEnumS, diStr,
  startD, setAll, wipeD, List.map_cons, List.map_nil, List.length_cons, List.length_nil, List.replicate, List.cons_append, List.nil_append, List.getElem?_cons_zero, List.getElem?_cons_succ, List.set_cons_zero, List.set_cons_succ, Nat.reduceAdd, Nat.reduceSub, Bool.false_eq_true, if_true, if_false, ite_true, ite_false, reduceIte])
local macro_rules | `(tactic| walk_at "cm") => `(tactic| first | exact .inl ⟨by omega, by omega⟩ | exact .inr ⟨by omega, by omega⟩ | exact ⟨by omega, by omega⟩ | omega | decide)
/-! ### letters -/
def abc : Str := "abcdefghijklmnopqrstuvwxyz"
theorem abc_list : abc.cps.toList = (List.range 26).map (97 + ·) := by decide +kernel
theorem abc_len : abc.length = 26 := by decide +kernel
theorem abc_at {i : Int} (h0 : 0 ≤ i) (h1 : i < 26) : atI abc.cps.toList i = some (97 + i.toNat) := by
  refine atI_some h0 ?_
  rw [abc_list, List.getElem?_map, List.getElem?_range (by omega)]
  rfl
def sg (c : Nat) : Str := ⟨#[c]⟩
theorem tl_repS (x : Str) (n : Int) : tl (repS x n) = (List.replicate n.toNat (tl x)).flatten := rfl
theorem rep_one (c : Nat) : ∀ n : Nat, (List.replicate n [c]).flatten = List.replicate n c
  | 0 => rfl
  | n + 1 => by rw [List.replicate_succ, List.flatten_cons, rep_one c n, List.replicate_succ]; rfl
theorem rep_not_bar {s : Str} {n c : Nat} (h : tl s = List.replicate n c) : s ∉ bars := by
  intro hb
  have aux : ∀ (a b : Nat) (r : List Nat), tl s = a :: b :: r → a ≠ b → False := fun a b r e hne => by
    rw [h] at e
    cases n with
    | zero => cases e
    | succ n =>
      cases n with
      | zero => cases e
      | succ n =>
        rw [List.replicate_succ, List.replicate_succ] at e
        injection e with e1 e2
        injection e2 with e3 e4
        exact hne (e1.symm.trans e3)
  unfold bars at hb
  rcases List.mem_cons.mp hb with rfl | hb
  · exact aux 99 111 _ (show tl (Str.ofString "colours") = 99 :: 111 :: [108, 111, 117, 114, 115] by decide +kernel) (by decide)
  rcases List.mem_cons.mp hb with rfl | hb
  · exact aux 107 105 _ (show tl (Str.ofString "kind") = 107 :: 105 :: [110, 100] by decide +kernel) (by decide)
  rcases List.mem_cons.mp hb with rfl | hb
  · exact aux 108 97 _ (show tl (Str.ofString "lamp") = 108 :: 97 :: [109, 112] by decide +kernel) (by decide)
  rcases List.mem_cons.mp hb with rfl | hb
  · exact aux 115 105 _ (show tl (Str.ofString "sight") = 115 :: 105 :: [103, 104, 116] by decide +kernel) (by decide)
  · cases hb
theorem nodup_len {ns : List Str} (h : (ns.map fun s => s.length).Nodup) : ns.Nodup := List.Pairwise.of_map (fun s : Str => s.length) (fun a b hne e => hne (by rw [e])) h
def nm1 (c : Int) (k : Nat) : Str := repS (sg (97 + ((c / 4 - (k : Int)) % 26).toNat)) (1 + (k : Int))
theorem tl_nm1 (c : Int) (k : Nat) : tl (nm1 c k) = List.replicate (k + 1) (97 + ((c / 4 - (k : Int)) % 26).toNat) := by
  unfold nm1
  rw [tl_repS]
  have e : (1 + (k : Int)).toNat = k + 1 := by omega
  rw [e]
  exact rep_one _ _
theorem zzq_tl : tl (Str.ofString "zzq") = [122, 122, 113] := by decide +kernel
theorem good1 (c : Int) : GoodNames ((List.range 6).map (nm1 c)) := by
  refine ⟨by simp, nodup_len ?_, fun s hs => ?_, fun hz => ?_⟩
  · have e : ((List.range 6).map (nm1 c)).map (fun s : Str => s.length) = (List.range 6).map (· + 1) := by
      rw [List.map_map]
      refine List.map_congr_left fun k _ => ?_
      show (nm1 c k).length = k + 1
      rw [len_tl, tl_nm1, List.length_replicate]
    rw [e]
    decide
  · obtain ⟨k, hk, rfl⟩ := List.mem_map.mp hs
    rw [List.mem_range] at hk
    refine ⟨by rw [len_tl, tl_nm1, List.length_replicate]; omega, by rw [len_tl, tl_nm1, List.length_replicate]; omega, fun x hx => ?_, rep_not_bar (tl_nm1 c k)⟩
    have hx' : x ∈ tl (nm1 c k) := hx
    rw [tl_nm1] at hx'
    have := List.eq_of_mem_replicate hx'
    omega
  · obtain ⟨k, _, e⟩ := List.mem_map.mp hz
    have e' := congrArg tl e
    rw [tl_nm1, zzq_tl] at e'
    have a1 := List.eq_of_mem_replicate (show 122 ∈ List.replicate (k + 1) (97 + ((c / 4 - (k : Int)) % 26).toNat) by rw [e']; simp)
    have a2 := List.eq_of_mem_replicate (show 113 ∈ List.replicate (k + 1) (97 + ((c / 4 - (k : Int)) % 26).toNat) by rw [e']; simp)
    omega
/-! a row of letters, one of them another one -/
def rowc (c : Int) : List Nat := (List.range 6).map fun (j : Nat) => 97 + ((c / 7 + 5 * ((j : Nat) : Int)) % 26).toNat
def nm2 (c : Int) (at_ size k : Nat) : Str := ⟨((rowc c).take at_ ++ [97 + ((c / 11 + (k : Int)) % 26).toNat] ++ ((rowc c).drop (at_ + 1)).take (size - (at_ + 1))).toArray⟩
theorem rowc_len (c : Int) : (rowc c).length = 6 := by unfold rowc; simp
theorem rowc_mem {c : Int} {x : Nat} (h : x ∈ rowc c) : 97 ≤ x ∧ x ≤ 122 := by
  unfold rowc at h
  obtain ⟨j, _, rfl⟩ := List.mem_map.mp h
  omega
theorem tl_nm2 (c : Int) (at_ size k : Nat) : tl (nm2 c at_ size k) = (rowc c).take at_ ++ [97 + ((c / 11 + (k : Int)) % 26).toNat] ++ ((rowc c).drop (at_ + 1)).take (size - (at_ + 1)) := rfl
theorem nm2_len {c : Int} {at_ size k : Nat} (h1 : at_ < size) (h2 : size ≤ 6) : (nm2 c at_ size k).length = size := by
  rw [len_tl, tl_nm2]
  simp only [List.length_append, List.length_take, List.length_drop, rowc_len, List.length_cons, List.length_nil]
  omega
theorem nm2_inj {c : Int} {at_ size j k : Nat} (h1 : at_ < size) (h2 : size ≤ 6) (hj : j < 6) (hk : k < 6) (e : nm2 c at_ size j = nm2 c at_ size k) : j = k := by
  have e' := congrArg tl e
  rw [tl_nm2, tl_nm2, List.append_assoc, List.append_assoc] at e'
  have e2 := List.append_cancel_left e'
  rw [List.cons_append, List.cons_append] at e2
  injection e2 with e3 _
  omega
theorem nm2_zzq {c : Int} {at_ size : Nat} (h1 : at_ < size) (h2 : size ≤ 6) (hz : Str.ofString "zzq" ∈ (List.range 6).map (nm2 c at_ size)) : False := by
  obtain ⟨k, _, e⟩ := List.mem_map.mp hz
  have l3 : size = 3 := by
    have := congrArg (fun s : Str => s.length) e
    replace this : (nm2 c at_ size k).length = (Str.ofString "zzq").length := this
    rw [nm2_len h1 h2] at this
    have z : (Str.ofString "zzq").length = 3 := by decide +kernel
    exact this.trans z
  subst l3
  have e' := congrArg tl e
  rw [tl_nm2, zzq_tl] at e'
  have er : rowc c = [97 + ((c / 7 + 5 * ((0 : Nat) : Int)) % 26).toNat, 97 + ((c / 7 + 5 * ((1 : Nat) : Int)) % 26).toNat, 97 + ((c / 7 + 5 * ((2 : Nat) : Int)) % 26).toNat, 97 + ((c / 7 + 5 * ((3 : Nat) : Int)) % 26).toNat, 97 + ((c / 7 + 5 * ((4 : Nat) : Int)) % 26).toNat, 97 + ((c / 7 + 5 * ((5 : Nat) : Int)) % 26).toNat] := rfl
  rw [er] at e'
  have : at_ = 0 ∨ at_ = 1 ∨ at_ = 2 := by omega
  rcases this with rfl | rfl | rfl
  · simp only [List.take, List.drop, List.nil_append, List.cons_append, Nat.reduceAdd, Nat.reduceSub, List.cons.injEq, and_true] at e'
    omega
  · simp only [List.take, List.drop, List.nil_append, List.cons_append, Nat.reduceAdd, Nat.reduceSub, List.cons.injEq, and_true] at e'
    omega
  · simp only [List.take, List.drop, List.nil_append, List.cons_append, Nat.reduceAdd, Nat.reduceSub, List.cons.injEq, and_true] at e'
    omega
theorem good2 {c : Int} {at_ size : Nat} (h1 : at_ < size) (h2 : size ≤ 6) (hb : ∀ k, k < 6 → nm2 c at_ size k ∉ bars) : GoodNames ((List.range 6).map (nm2 c at_ size)) := by
  refine ⟨by simp, ?_, fun s hs => ?_, fun hz => nm2_zzq h1 h2 hz⟩
  · refine List.Pairwise.map _ (R := fun a b => a ≠ b ∧ a < 6 ∧ b < 6) (fun a b hab e => hab.1 (nm2_inj h1 h2 hab.2.1 hab.2.2 e)) ?_
    decide
  · obtain ⟨k, hk, rfl⟩ := List.mem_map.mp hs
    rw [List.mem_range] at hk
    refine ⟨by rw [nm2_len h1 h2]; omega, by rw [nm2_len h1 h2]; exact h2, fun x hx => ?_, hb k hk⟩
    have hx' : x ∈ tl (nm2 c at_ size k) := hx
    rw [tl_nm2] at hx'
    rcases List.mem_append.mp hx' with hx' | hx'
    · rcases List.mem_append.mp hx' with hx' | hx'
      · exact rowc_mem (List.mem_of_mem_take hx')
      · rw [List.mem_singleton] at hx'
        omega
    · exact rowc_mem (List.mem_of_mem_drop (List.mem_of_mem_take hx'))
def nm3 (k : Nat) : Str := ("f" : Str) ++ sg (97 + k)
theorem tl_nm3 (k : Nat) : tl (nm3 k) = [102, 97 + k] := by
  unfold nm3
  rw [tl_append]
  have : tl ("f" : Str) = [102] := by decide +kernel
  rw [this]
  rfl
theorem good3 : GoodNames ((List.range 6).map nm3) := by
  refine ⟨by simp, ?_, fun s hs => ?_, fun hz => by
    obtain ⟨k, _, e⟩ := List.mem_map.mp hz
    have e' := congrArg tl e
    rw [tl_nm3, zzq_tl] at e'
    simp at e'⟩
  · refine List.Pairwise.map _ (R := fun a b => a ≠ b ∧ a < 6 ∧ b < 6) (fun a b hab e => hab.1 ?_) (by decide)
    have e' := congrArg tl e
    rw [tl_nm3, tl_nm3] at e'
    injection e' with _ e2
    injection e2 with e3 _
    omega
  · obtain ⟨k, hk, rfl⟩ := List.mem_map.mp hs
    rw [List.mem_range] at hk
    refine ⟨by rw [len_tl, tl_nm3]; exact Nat.le_add_left 1 1, by rw [len_tl, tl_nm3]; exact Nat.le_add_left 2 4, fun x hx => ?_, fun hb => ?_⟩
    · have hx' : x ∈ tl (nm3 k) := hx
      rw [tl_nm3] at hx'
      rcases List.mem_cons.mp hx' with rfl | hx'
      · omega
      · rw [List.mem_singleton] at hx'; omega
    · have : (nm3 k).length = 2 := by rw [len_tl, tl_nm3]; rfl
      unfold bars at hb
      rcases List.mem_cons.mp hb with e | hb
      · rw [e] at this; exact absurd this (by decide +kernel)
      rcases List.mem_cons.mp hb with e | hb
      · rw [e] at this; exact absurd this (by decide +kernel)
      rcases List.mem_cons.mp hb with e | hb
      · rw [e] at this; exact absurd this (by decide +kernel)
      rcases List.mem_cons.mp hb with e | hb
      · rw [e] at this; exact absurd this (by decide +kernel)
      · cases hb
/-! joining signs -/
theorem joinL_nil : ∀ ps : List (List Nat), joinL [] ps = ps.flatten
  | [] => rfl
  | [p] => by simp [joinL]
  | p :: q :: r => by show p ++ ([] ++ joinL [] (q :: r)) = _; rw [joinL_nil (q :: r)]; simp
theorem sg_flat : ∀ xs : List Nat, ((xs.map sg).map tl).flatten = xs
  | [] => rfl
  | x :: xs => by rw [List.map_cons, List.map_cons, List.flatten_cons, sg_flat xs]; rfl
theorem join_sg (xs : List Nat) : Txt.join "" (xs.map sg) = ⟨xs.toArray⟩ := by
  refine ext_tl ?_
  rw [join_eq, tl_join]
  have : tl ("" : Str) = [] := by decide +kernel
  rw [this, joinL_nil, sg_flat]
theorem sIx_of {n d : Nat} {i : Int} (h0 : 0 ≤ i) (h1 : i ≤ n) : HT.sIx n d (some i) = i.toNat := by
  obtain ⟨k, rfl⟩ := Int.eq_ofNat_of_zero_le h0
  show HT.sIx n d (some (k : Int)) = _
  rw [HT.sIx_nat]; omega
/-! texts as plain data -/
theorem strOk_of {s : Str} (h : Asc s) : PyData.strOk s = true := by
  unfold PyData.strOk
  rw [← Array.all_toList, List.all_eq_true]
  intro c hc
  exact decide_eq_true (h c hc)
theorem pdL_strs : ∀ ns : List Str, pdL (ns.map D.str) = some (ns.map PyData.str)
  | [] => by simp [pdL]
  | n :: ns => by rw [List.map_cons, pdL, pdL_strs ns, pd] <;> rfl
theorem lay_strs : ∀ ns : List Str, (∀ s ∈ ns, Asc s) → PyData.canLayAll0 (ns.map PyData.str) = true
  | [], _ => by simp [PyData.canLayAll0]
  | n :: ns, h => by
    rw [List.map_cons, PyData.canLayAll0, lay_strs ns fun s hs => h s (List.mem_cons_of_mem _ hs), PyData.canLay0, strOk_of (h n List.mem_cons_self)] <;> rfl
theorem dep_strs : ∀ ns : List Str, PyData.depthAll (ns.map PyData.str) = 0
  | [] => by simp [PyData.depthAll]
  | n :: ns => by rw [List.map_cons, PyData.depthAll, dep_strs ns, PyData.depth] <;> rfl
theorem shaped_strs {ns : List Str} (h : ∀ s ∈ ns, Asc s) : SeqAt.shaped (.list (ns.map PyData.str)) = true := by
  unfold SeqAt.shaped
  rw [PyData.canLay0, lay_strs ns h, PyData.depth, dep_strs] <;> rfl
theorem inV_strs (s : Str) : ∀ ns : List Str, inV (.str s) (ns.map V.str) = decide (s ∈ ns)
  | [] => by simp [inV]
  | n :: ns => by
    have h := inV_strs s ns
    unfold inV at h ⊢
    rw [List.map_cons, List.any_cons, h]
    show ((n == s) || decide (s ∈ ns)) = decide (s ∈ n :: ns)
    by_cases e : n = s
    · subst e; simp
    · have e2 : ¬ s = n := fun z => e z.symm
      simp [e, e2]
theorem inD_strs (s : Str) (ns : List Str) : inD (.str s) (ns.map D.str) = decide (s ∈ ns) := by
  unfold inD
  have : (ns.map D.str).map vOf = ns.map V.str := by rw [List.map_map]; rfl
  rw [this]
  exact inV_strs s ns
theorem flat_strs (ns : List Str) : (ns.map D.str).all flatD = true := by
  rw [List.all_eq_true]
  intro x hx
  obtain ⟨s, _, rfl⟩ := List.mem_map.mp hx
  rfl
end DL
set_option Elab.async false
set_option linter.all false
set_option maxRecDepth 100000
set_option maxHeartbeats 4000001
namespace DL
open PySem L2 TL
local macro_rules | `(tactic| walk_at "dd") => `(tactic| try simp only [dSeq, dAsg, dgName, dgTup, dgSub, dOp, dVar, dC, dAdd, dSub, dMul, dMod, dFDiv, dPow, dCmp, dNeg, dEqn, dIsN, dIx, dTup, dLst, dConsA, dNilA, dCB, dCall, dRet, dRetN, dDrop, dIfS, dNext, dBreak, dCont, dTest, dTru, dAndT, dOrT, dNotT, dAndV, dOrV, dNotV, dIf, dChain, dDGet, dDPut, dM1, dM0, dJoin, dSplit, dUpper, dBML, dAppend, dInsert, dPopAt, dLen, dInt, dStr, dTupOf, dListOf, dMax2, dSum, dAll, dSl, dPart, dNoPart, newLst, keyD, dFor, dLc, diSeq, diRng1, diRng2, diEnum, diEnumS, diStr,
  startD, setAll, wipeD, List.map_cons, List.map_nil, List.length_cons, List.length_nil, List.replicate, List.cons_append, List.nil_append, List.getElem?_cons_zero, List.getElem?_cons_succ, List.set_cons_zero, List.set_cons_succ, Nat.reduceAdd, Nat.reduceSub, Bool.false_eq_true, if_true, if_false, ite_true, ite_false, reduceIte])
local macro_rules | `(tactic| walk_at "cm") => `(tactic| first | exact .inl ⟨by omega, by omega⟩ | exact .inr ⟨by omega, by omega⟩ | exact ⟨by omega, by omega⟩ | omega | decide)
theorem pdM_strs {μ : Mu} (ns : List Str) : pdM μ (.lst (ns.map .str)) = some (.list (ns.map .str)) := by
  show pd (.lst (ns.map .str)) = _
  rw [pd, pdL_strs] <;> rfl
theorem pdM_nil {μ : Mu} : pdM μ (.lst []) = some (.list []) := by simp [pdM, pd, pdL]
theorem f_len : (Str.ofString "f").length = 1 := by decide +kernel
theorem emp_strs (ns : List Str) : (ns.map PyData.str).isEmpty = ns.isEmpty := by cases ns <;> rfl
theorem IsName.asc {s : Str} (h : IsName s) : Asc s := fun c hc => by have := h.2.2.1 c hc; omega
theorem row_app {c : Int} {at_ size : Nat} (h : size ≤ 6) (h1 : at_ < size) : cutD ((rowc c).map fun x => D.str (sg x)) none (some (at_ : Int)) ++ [D.str (sg x)] ++ cutD ((rowc c).map fun x => D.str (sg x)) (some ((at_ : Int) + 1)) (some (size : Int)) =
    (((rowc c).take at_ ++ [x] ++ ((rowc c).drop (at_ + 1)).take (size - (at_ + 1))).map sg).map D.str := by
  have hl : ((rowc c).map fun x => D.str (sg x)).length = 6 := by rw [List.length_map, rowc_len]
  have e1 : cutD ((rowc c).map fun x => D.str (sg x)) none (some (at_ : Int)) = (((rowc c).take at_).map sg).map D.str := by
    unfold cutD
    rw [hl, HT.sIx_nat, HT.sIx_none, List.drop_zero, Nat.sub_zero, Nat.min_eq_left (by omega), List.map_map, ← List.map_take]
    rfl
  have e2 : cutD ((rowc c).map fun x => D.str (sg x)) (some ((at_ : Int) + 1)) (some (size : Int)) = ((((rowc c).drop (at_ + 1)).take (size - (at_ + 1))).map sg).map D.str := by
    unfold cutD
    have : ((at_ : Int) + 1) = ((at_ + 1 : Nat) : Int) := by omega
    rw [hl, this, HT.sIx_nat, HT.sIx_nat, Nat.min_eq_left (by omega), Nat.min_eq_left (by omega), List.map_map, ← List.map_drop, ← List.map_take]
    rfl
  rw [e1, e2]
  simp
theorem rd__law_names : ∀ ds μ Q, P__law_names ds μ Q → td__law_names { nx := fun _ μ' => GhQ Q .non μ', rt := GhQ Q } (startD N__law_names ds) μ := by
  rintro ds μ Q ⟨c, rfl, hc, h⟩
  unfold td__law_names N__law_names
  walk_at "dd"
  rw [show (Str.ofString "abcdefghijklmnopqrstuvwxyz") = abc from rfl]
  refine ⟨by decide, ?_⟩
  by_cases h3 : c % 4 = 3
  · rw [if_pos (decide_eq_true h3)]
    refine ⟨by decide, LcB.pure (fun d => match d with | .int i => .str (nm1 c i.toNat) | d => d) trivial (by rw [rngD_len]; decide) (fun j d Qd hd q => ?_) ?_⟩
    · obtain ⟨hj, rfl⟩ := rngD_get hd
      walk_at "dd"
      refine ⟨by walk_at "cm", by decide, by rw [abc_len]; decide, _, abc_at (by omega) (by omega), by omega, by omega, Nat.lt_of_lt_of_le Nat.one_lt_two (by decide), ?_⟩
      have e : (0 + (j : Int)).toNat = j := by omega
      simp only [e] at q
      have e2 : (0 + (j : Int)) = (j : Int) := by omega
      rw [e2]
      exact q
    · have e : (rngD 0 (6 : Int).toNat).map (fun d => match d with | .int i => D.str (nm1 c i.toNat) | d => d) = ((List.range 6).map (nm1 c)).map .str := by
        unfold rngD; rw [List.map_map, List.map_map]
        refine List.map_congr_left fun j _ => ?_
        show D.str (nm1 c (0 + (j : Int)).toNat) = D.str (nm1 c j)
        have e : (0 + (j : Int)).toNat = j := by omega
        rw [e]
      rw [e]
      exact GhQ.self (h _ (good1 c))
  rw [if_neg (by rw [decide_eq_false h3]; exact Bool.false_ne_true)]
  walk_at "dd"
  obtain ⟨size, hs, hs1, hs2⟩ : ∃ size : Nat, 1 + c / 3 % 6 = (size : Int) ∧ 1 ≤ size ∧ size ≤ 6 := ⟨(1 + c / 3 % 6).toNat, by omega, by omega, by omega⟩
  refine ⟨by walk_at "cm", by decide, ?_⟩
  rw [hs]
  refine ⟨by walk_at "cm", by omega, by decide, by decide, ?_⟩
  have b0 := Int.emod_nonneg (c / 18) (show (size : Int) ≠ 0 by omega)
  have b1 := Int.emod_lt_of_pos (c / 18) (show (0 : Int) < size by omega)
  obtain ⟨at_, hat, hlt⟩ : ∃ at_ : Nat, atI [D.int (c / 18 % size), D.int 0, D.int (size - 1)] (c % 3) = some (.int (at_ : Int)) ∧ at_ < size := by
    have : c % 3 = 0 ∨ c % 3 = 1 ∨ c % 3 = 2 := by omega
    rcases this with e | e | e
    · exact ⟨(c / 18 % size).toNat, by rw [e]; exact atI_some (by decide) (by rw [Int.toNat_of_nonneg b0] <;> rfl), by omega⟩
    · exact ⟨0, by rw [e]; exact atI_some (by decide) rfl, by omega⟩
    · exact ⟨size - 1, by rw [e]; exact atI_some (by decide) (by show some (D.int ((size : Int) - 1)) = _; rw [Int.ofNat_sub hs1] <;> rfl), by omega⟩
  refine ⟨_, _, rfl, hat, by decide, LcB.pure (fun d => match d with | .int i => .str (sg (97 + ((c / 7 + 5 * i) % 26).toNat)) | d => d) trivial (by rw [rngD_len]; decide) (fun j d Qd hd q => ?_) ?_⟩
  · obtain ⟨hj, rfl⟩ := rngD_get hd
    walk_at "dd"
    exact ⟨by walk_at "cm", by walk_at "cm", by decide, by rw [abc_len]; decide, _, abc_at (by omega) (by omega), q⟩
  have er : (rngD 0 (6 : Int).toNat).map (fun d => match d with | .int i => D.str (sg (97 + ((c / 7 + 5 * i) % 26).toNat)) | d => d) = (rowc c).map fun x => D.str (sg x) := by
    unfold rngD rowc; rw [List.map_map, List.map_map]
    refine List.map_congr_left fun j _ => ?_
    show D.str (sg (97 + ((c / 7 + 5 * (0 + (j : Int))) % 26).toNat)) = D.str (sg (97 + ((c / 7 + 5 * (j : Int)) % 26).toNat))
    rw [Int.zero_add]
  rw [er]
  walk_at "dd"
  refine ⟨Nat.zero_le _, fun p hp => ⟨by decide, ?_⟩⟩
  let I : Nat → DSl → Mu → Prop := fun k ds ν => ∃ (x3 x9 x10 x11 : Option D), ds = [some (.int c), some (.int 6), some (.str abc), x3, some (.int size), some (.int at_), some (.lst ((rowc c).map fun x => D.str (sg x))), none, some (.obj p), x9, none, none] ∧ ν = put μ p (.lst (((List.range k).map (nm2 c at_ size)).map .str))
  refine ⟨I, ⟨_, _, none, none, rfl, rfl⟩, fun _ _ _ _ _ => trivial, fun j d ds ν hd hI => ?_, fun ds ν hI => ?_⟩
  · obtain ⟨x3, x9, x10, x11, rfl, rfl⟩ := hI
    obtain ⟨hj, rfl⟩ := rngD_get hd
    walk_at "dd"
    refine ⟨by walk_at "cm", by decide, by rw [abc_len]; decide, _, abc_at (by omega) (by omega), ?_⟩
    walk_at "dd"
    refine ⟨⟨_, put_same⟩, ⟨_, rfl⟩, _, rfl, Nat.le_add_left 1 16777215, _, _, rfl, rfl, ?_, _, rfl, _, _, rfl, rfl, ?_, ?_⟩
    · refine smallE ?_
      unfold cutD; simp only [List.length_take, List.length_drop, List.length_map, rowc_len, List.length_cons, List.length_nil]; omega
    · refine smallE ?_
      unfold cutD; simp only [List.length_append, List.length_take, List.length_drop, List.length_map, rowc_len, List.length_cons, List.length_nil]; omega
    rw [show (⟨#[97 + ((c / 11 + (0 + (j : Int))) % 26).toNat]⟩ : Str) = sg (97 + ((c / 11 + (j : Int)) % 26).toNat) by rw [Int.zero_add]; rfl, row_app hs2 hlt]
    refine ⟨_, rfl, ?_, ?_⟩
    · have : ∀ l : List Nat, ((l.map sg).map (·.length)).sum = l.length := by
        intro l
        induction l with
        | nil => rfl
        | cons a l ih => rw [List.map_cons, List.map_cons, List.sum_cons, ih, List.length_cons]; show 1 + _ = _; omega
      rw [this]
      have e0 : (Str.ofString "").length = 0 := by decide +kernel
      rw [e0]
      simp only [List.length_append, List.length_take, List.length_drop, rowc_len, List.length_cons, List.length_nil]
      omega
    · rw [join_sg]
      refine ⟨_, put_same, small (by rw [List.length_map, List.length_map, List.length_range]; omega), _, _, none, none, rfl, ?_⟩
      rw [put_put, List.range_succ, List.map_append, List.map_append]
      rfl
  · obtain ⟨x3, x9, x10, x11, rfl, rfl⟩ := hI
    rw [rngD_len]
    walk_at "dd"
    have hn : (6 : Int).toNat = 6 := rfl
    rw [hn]
    generalize hfound : (List.range 6).map (nm2 c at_ size) = found
    refine ⟨Nat.le_add_left 4 16777212, _, put_same, ?_⟩
    refine LcB.filt (fun d => inD d (bars.map .str)) id put_same (by rw [List.length_map, ← hfound, List.length_map, List.length_range]; decide) (fun j d Qd hd q => ?_) (fun j d Qd hd hp q => ?_) ?_
    · obtain ⟨s, hs, rfl⟩ := map_get hd
      walk_at "dd"
      exact ⟨_, rfl, rfl, flat_strs bars, q⟩
    · obtain ⟨s, hs, rfl⟩ := map_get hd
      walk_at "dd"
      exact q
    have ef : ((found.map D.str).filter fun d => inD d (bars.map .str)).map id = (found.filter fun s => decide (s ∈ bars)).map D.str := by
      rw [List.map_id, List.filter_map]
      congr 1
      refine List.filter_congr fun s _ => ?_
      exact inD_strs s bars
    rw [ef]
    have hasc : ∀ s ∈ found, Asc s := by
      intro s hs x hx
      rw [← hfound] at hs
      obtain ⟨k, hk, rfl⟩ := List.mem_map.mp hs
      have hx' : x ∈ tl (nm2 c at_ size k) := hx
      rw [tl_nm2] at hx'
      rcases List.mem_append.mp hx' with hx' | hx'
      · rcases List.mem_append.mp hx' with hx' | hx'
        · have := rowc_mem (List.mem_of_mem_take hx'); omega
        · rw [List.mem_singleton] at hx'; omega
      · have := rowc_mem (List.mem_of_mem_drop (List.mem_of_mem_take hx')); omega
    refine ⟨Nat.zero_le _, _, _, pdM_strs _, pdM_nil, shaped_strs (fun s hs => hasc s (List.mem_filter.mp hs).1), shaped_nil, ?_⟩
    rw [eqv_nil, emp_strs]
    cases hempty : (found.filter fun s => decide (s ∈ bars)).isEmpty with
    | false =>
      simp only [Bool.not_false, if_true]
      refine ⟨by decide, LcB.pure (fun d => match d with | .int i => .str (nm3 i.toNat) | d => d) trivial (by rw [rngD_len]; decide) (fun j d Qd hd q => ?_) ?_⟩
      · obtain ⟨hj, rfl⟩ := rngD_get hd
        walk_at "dd"
        refine ⟨by rw [abc_len]; decide, _, abc_at (by omega) (by omega), by rw [f_len]; exact smallE (show 1 + 1 ≤ 1000000 by decide), ?_⟩
        exact q
      · have e : (rngD 0 6).map (fun d => match d with | .int i => D.str (nm3 i.toNat) | d => d) = ((List.range 6).map nm3).map .str := by
          unfold rngD; rw [List.map_map, List.map_map]
          refine List.map_congr_left fun j _ => ?_
          show D.str (nm3 (0 + (j : Int)).toNat) = D.str (nm3 j)
          have e : (0 + (j : Int)).toNat = j := by omega
          rw [e]
        rw [e]
        exact GhQ.sub (SubM.new hp) (h _ good3)
    | true =>
      simp only [Bool.not_true, Bool.false_eq_true, if_false]
      refine GhQ.fix (SubM.new hp) put_same hp (h found ?_)
      rw [← hfound]
      refine good2 hlt hs2 fun k hk hb => ?_
      have hm : nm2 c at_ size k ∈ found.filter fun s => decide (s ∈ bars) := List.mem_filter.mpr ⟨by rw [← hfound]; exact List.mem_map.mpr ⟨k, List.mem_range.mpr hk, rfl⟩, decide_eq_true hb⟩
      rw [List.isEmpty_iff.mp hempty] at hm
      cases hm
end DL
set_option Elab.async false
set_option linter.all false
set_option maxRecDepth 100000
set_option maxHeartbeats 4000001
namespace DL
open PySem L2 TL
local macro_rules | `(tactic| walk_at "dd") => `(tactic| try simp only [dSeq, dAsg, dgName, dgTup, dgSub, dOp, dVar, dC, dAdd, dSub, dMul, dMod, dFDiv, dPow, dCmp, dNeg, dEqn, dIsN, dIx, dTup, dLst, dConsA, dNilA, dCB, dCall, dRet, dRetN, dDrop, dIfS, dNext, dBreak, dCont, dTest, dTru, dAndT, dOrT, dNotT, dAndV, dOrV, dNotV, dIf, dChain, dDGet, dDPut, dM1, dM0, dJoin, dSplit, dUpper, dBML, dAppend, dInsert, dPopAt, dLen, dInt, dStr, dTupOf, dListOf, dMax2, dSum, dAll, dSl, dPart, dNoPart, newLst, keyD, dFor, dLc, diSeq, diRng1, diRng2, diEnum, diEnumS, diStr,
  startD, setAll, wipeD, List.map_cons, List.map_nil, List.length_cons, List.length_nil, List.replicate, List.cons_append, List.nil_append, List.getElem?_cons_zero, List.getElem?_cons_succ, List.set_cons_zero, List.set_cons_succ, Nat.reduceAdd, Nat.reduceSub, Bool.false_eq_true, if_true, if_false, ite_true, ite_false, reduceIte])
local macro_rules | `(tactic| walk_at "cm") => `(tactic| first | exact .inl ⟨by omega, by omega⟩ | exact .inr ⟨by omega, by omega⟩ | exact ⟨by omega, by omega⟩ | omega | decide)
theorem at7 {a b c d e f g : Int} {i : Int} (h0 : 0 ≤ i) (h1 : i < 7) : ∃ w, atI [D.int a, D.int b, D.int c, D.int d, D.int e, D.int f, D.int g] i = some (.int w) := by
  have : i = 0 ∨ i = 1 ∨ i = 2 ∨ i = 3 ∨ i = 4 ∨ i = 5 ∨ i = 6 := by omega
  rcases this with rfl | rfl | rfl | rfl | rfl | rfl | rfl <;> exact ⟨_, rfl⟩
theorem rd__law_lamp : ∀ ds μ Q, P__law_lamp ds μ Q → td__law_lamp { nx := fun _ μ' => GhQ Q .non μ', rt := GhQ Q } (startD N__law_lamp ds) μ := by
  rintro ds μ Q ⟨m, dg, rest, n, cs, rfl, M, hn, h1, h6, h⟩
  unfold td__law_lamp N__law_lamp
  walk_at "dd"
  refine ⟨m, dg, rest, n, 32, rfl, M, by omega, by decide, by decide, fun r1 μ1 a1 b1 M1 F1 => ?_⟩
  walk_at "dd"
  refine ⟨m, dg, rest, n + 1, 32, rfl, M1, by omega, by decide, by decide, fun r2 μ2 a2 b2 M2 F2 => ⟨by decide, ?_⟩⟩
  walk_at "dd"
  refine ⟨m, dg, rest, n + 2, 7, rfl, M2, by omega, by decide, by decide, fun r3 μ3 a3 b3 M3 F3 => ?_⟩
  obtain ⟨w, hw⟩ := at7 (a := 0) (b := 3) (c := 9) (d := 11) (e := 19) (f := 31) (g := r2) a3 b3
  refine ⟨_, _, rfl, hw, cs.map .str, rfl, ?_⟩
  rw [List.length_map]
  refine ⟨m, dg, rest, n + 3, _, rfl, M3, by omega, by omega, by omega, fun r4 μ4 a4 b4 M4 F4 => ?_⟩
  obtain ⟨x, hx, hx2, hx3⟩ := atI_ex (xs := cs) a4 b4
  refine ⟨_, .str x, rfl, atI_some a4 (by rw [List.getElem?_map, hx3]; rfl), by decide, by show 3 ≤ sizeLine; decide, ?_⟩
  exact GhQ.self (h (x, r1, (r1 + w) % 32) μ4 ⟨hx2, a1, b1, Int.emod_nonneg _ (by decide), Int.emod_lt_of_pos _ (by decide)⟩ M4 (F1.trans (F2.trans (F3.trans F4))))
/-! fleets as plain data -/
def lampP (l : Lamp) : PyData := .tuple [.str l.1, .int l.2.1, .int l.2.2]
def kindP (k : Kind) : PyData := .tuple [.str k.1, .int k.2.1, .tuple (k.2.2.map lampP)]
theorem pd_lamp (l : Lamp) : pd (lampD l) = some (lampP l) := by simp [lampD, lampP, pd, pdL]
theorem pdL_lamps : ∀ ls : List Lamp, pdL (ls.map lampD) = some (ls.map lampP)
  | [] => by simp [pdL]
  | l :: ls => by rw [List.map_cons, pdL, pdL_lamps ls, pd_lamp] <;> rfl
theorem pd_kind (k : Kind) : pd (kindD k) = some (kindP k) := by
  unfold kindD kindP
  simp only [pd, pdL, pdL_lamps, Option.map_some]
theorem pdL_kinds : ∀ ls : List Kind, pdL (ls.map kindD) = some (ls.map kindP)
  | [] => by simp [pdL]
  | l :: ls => by rw [List.map_cons, pdL, pdL_kinds ls, pd_kind] <;> rfl
theorem dep_lamps : ∀ ls : List Lamp, PyData.depthAll (ls.map lampP) ≤ 1
  | [] => by simp [PyData.depthAll]
  | l :: ls => by
    have := dep_lamps ls
    rw [List.map_cons, PyData.depthAll]
    have e : PyData.depth (lampP l) = 1 := by simp [lampP, PyData.depth, PyData.depthAll]
    omega
theorem dep_kinds : ∀ ls : List Kind, PyData.depthAll (ls.map kindP) ≤ 3
  | [] => by simp [PyData.depthAll]
  | l :: ls => by
    have := dep_kinds ls
    have h2 := dep_lamps l.2.2
    rw [List.map_cons, PyData.depthAll]
    have e : PyData.depth (kindP l) = max 0 (max 0 (max (PyData.depthAll (l.2.2.map lampP) + 1) 0)) + 1 := by simp [kindP, PyData.depth, PyData.depthAll]
    omega
theorem lay_lamps : ∀ ls : List Lamp, (∀ l ∈ ls, Asc l.1) → PyData.canLayAll0 (ls.map lampP) = true
  | [], _ => by simp [PyData.canLayAll0]
  | l :: ls, h => by
    rw [List.map_cons, PyData.canLayAll0, lay_lamps ls fun s hs => h s (List.mem_cons_of_mem _ hs)]
    simp [lampP, PyData.canLay0, PyData.canLayAll0, strOk_of (h l List.mem_cons_self)]
theorem lay_kinds : ∀ ls : List Kind, (∀ k ∈ ls, AscKind k) → PyData.canLayAll0 (ls.map kindP) = true
  | [], _ => by simp [PyData.canLayAll0]
  | l :: ls, h => by
    obtain ⟨h1, h2⟩ := h l List.mem_cons_self
    rw [List.map_cons, PyData.canLayAll0, lay_kinds ls fun s hs => h s (List.mem_cons_of_mem _ hs)]
    simp [kindP, PyData.canLay0, PyData.canLayAll0, strOk_of h1, lay_lamps _ h2]
theorem shaped_kinds {ls : List Kind} (h : ∀ k ∈ ls, AscKind k) : SeqAt.shaped (.list (ls.map kindP)) = true := by
  unfold SeqAt.shaped
  rw [PyData.canLay0, lay_kinds ls h, PyData.depth]
  have := dep_kinds ls
  simp only [Bool.true_and, decide_eq_true_eq]
  omega
end DL
set_option Elab.async false
set_option linter.all false
set_option maxRecDepth 100000
set_option maxHeartbeats 4000001
namespace DL
open PySem L2 TL
local macro_rules | `(tactic| walk_at "dd") => `(tactic| try simp only [dSeq, dAsg, dgName, dgTup, dgSub, dOp, dVar, dC, dAdd, dSub, dMul, dMod, dFDiv, dPow, dCmp, dNeg, dEqn, dIsN, dIx, dTup, dLst, dConsA, dNilA, dCB, dCall, dRet, dRetN, dDrop, dIfS, dNext, dBreak, dCont, dTest, dTru, dAndT, dOrT, dNotT, dAndV, dOrV, dNotV, dIf, dChain, dDGet, dDPut, dM1, dM0, dJoin, dSplit, dUpper, dBML, dAppend, dInsert, dPopAt, dLen, dInt, dStr, dTupOf, dListOf, dMax2, dSum, dAll, dSl, dPart, dNoPart, newLst, keyD, dFor, dLc, diSeq, diRng1, diRng2, diEnum, diEnumS, diStr,
  startD, setAll, wipeD, List.map_cons, List.map_nil, List.length_cons, List.length_nil, List.replicate, List.cons_append, List.nil_append, List.getElem?_cons_zero, List.getElem?_cons_succ, List.set_cons_zero, List.set_cons_succ, Nat.reduceAdd, Nat.reduceSub, Bool.false_eq_true, if_true, if_false, ite_true, ite_false, reduceIte])
local macro_rules | `(tactic| walk_at "cm") => `(tactic| first | exact .inl ⟨by omega, by omega⟩ | exact .inr ⟨by omega, by omega⟩ | exact ⟨by omega, by omega⟩ | omega | decide)
theorem map_erase {α β : Type} (f : α → β) : ∀ (xs : List α) (i : Nat), (xs.map f).eraseIdx i = (xs.eraseIdx i).map f
  | [], _ => by simp [List.eraseIdx]
  | x :: xs, 0 => rfl
  | x :: xs, i + 1 => by
    show f x :: (xs.map f).eraseIdx i = f x :: (xs.eraseIdx i).map f
    rw [map_erase f xs i]
theorem lamps_new {m dg : Addr} {rest : List (Key × D)} {n : Nat} {μ : Mu} {cs : List Str} {ds : DSl} {E : DEnds} (e0 : ds[0]? = some (some (.obj m))) (e1 : ds[1]? = some (some (.tup (cs.map .str)))) (e3 : wipeD ds [3] = ds) (l3 : 3 < ds.length)
    (M : MOk m dg rest n μ) (hn : n < 2^28 + 5) (c1 : 1 ≤ cs.length) (c6 : cs.length ≤ 6) (h : ∀ ls μ', GoodLamps cs ls → MOk m dg rest (n + 20) μ' → Fr m dg μ μ' → E.rt (.tup (ls.map lampD)) μ') :
    (dRet (dCB dTupOf (dConsA (dLc false (diRng1 (dConsA (dOp (dAdd false) (dC (.int 1)) (dCall P__law_draw (dConsA (dVar 0) (dConsA (dC (.int 4)) dNilA)))) dNilA)) (dgName 3) dYes (dCall P__law_lamp (dConsA (dVar 0) (dConsA (dVar 1) dNilA))) [3]) dNilA))) E ds μ := by
  simp only [dRet, dCB, dConsA, dLc, diRng1, dOp, dC, dCall, dVar, dNilA, e0]
  refine ⟨m, dg, rest, n, 4, rfl, M, by omega, by decide, by decide, fun r μ1 a1 b1 M1 F1 => ?_⟩
  show (_ ∧ _) ∧ _
  refine ⟨⟨by omega, by omega⟩, LcB.inv (fun j acc ν => ∃ ls : List Lamp, acc = ls.map lampD ∧ ls.length = j ∧ (∀ l ∈ ls, GoodLamp cs l) ∧ MOk m dg rest (n + 1 + 4 * j) ν ∧ Fr m dg μ ν) ⟨[], rfl, rfl, (fun _ h => nomatch h), M1, F1⟩ (fun _ _ _ _ _ => trivial) (by rw [rngD_len]; omega) (fun j acc ν ⟨ls, e, l, _⟩ => by rw [e, List.length_map, l]; exact Nat.le_refl _) (fun j d acc ν hd hI => ?_) (fun acc ν hI => ?_)⟩
  · obtain ⟨ls, rfl, hl, hg, M2, F2⟩ := hI
    obtain ⟨hj, rfl⟩ := rngD_get hd
    rw [e3]
    have g0 : (ds.set 3 (some (D.int (0 + (j : Int)))))[0]? = some (some (.obj m)) := by rw [List.getElem?_set_ne (by decide)]; exact e0
    have g1 : (ds.set 3 (some (D.int (0 + (j : Int)))))[1]? = some (some (.tup (cs.map .str))) := by rw [List.getElem?_set_ne (by decide)]; exact e1
    simp only [dCall, dConsA, dVar, dNilA, g0, g1]
    refine ⟨m, dg, rest, n + 1 + 4 * j, cs, rfl, M2, by omega, c1, c6, fun l ν' gl M3 F3 => ⟨ls ++ [l], by rw [List.map_append]; rfl, by rw [List.length_append, hl]; rfl, fun x hx => ?_, M3.mono (by omega), F2.trans F3⟩⟩
    rcases List.mem_append.mp hx with hx | hx
    · exact hg x hx
    · rw [List.mem_singleton] at hx; rw [hx]; exact gl
  · obtain ⟨ls, rfl, hl, hg, M2, F2⟩ := hI
    rw [rngD_len] at hl M2
    show ∃ xs, _ ∧ _
    exact ⟨_, rfl, h ls ν ⟨by omega, by omega, hg⟩ (M2.mono (by omega)) F2⟩
theorem rd__law_lamps : ∀ ds μ Q, P__law_lamps ds μ Q → td__law_lamps { nx := fun _ μ' => GhQ Q .non μ', rt := GhQ Q } (startD N__law_lamps ds) μ := by
  rintro ds μ Q ⟨m, dg, p, rest, n, cs, rows, rfl, M, hn, c1, c6, hp, pm, pd', hr6, hg, hasc, h⟩
  have fin : ∀ ls μ', GoodLamps cs ls → MOk m dg rest (n + 30) μ' → Fr m dg μ μ' → GhQ Q (.tup (ls.map lampD)) μ' := fun ls μ' a b c => GhQ.self (h ls μ' a b c)
  unfold td__law_lamps N__law_lamps
  walk_at "dd"
  have e1 : pdM μ (.obj p) = some (.list (rows.map kindP)) := by unfold pdM; simp only [hp, pdL_kinds, Option.map_some]
  refine ⟨Nat.zero_le _, _, _, e1, pdM_nil, shaped_kinds hasc, shaped_nil, ?_⟩
  rw [eqv_nil]
  cases hrows : rows with
  | nil =>
    exact lamps_new (ds := [some (.obj m), some (.tup (cs.map .str)), some (.obj p), none, none, none, none, none, none, none]) (E := { nx := fun _ μ' => GhQ Q .non μ', rt := GhQ Q }) rfl rfl rfl (show 3 < 10 by decide) M (by omega) c1 c6 fun ls μ' a b c => fin ls μ' a (b.mono (by omega)) c
  | cons k0 kr =>
    have hb : (rows.map kindP).isEmpty = false := by rw [hrows]; rfl
    rw [← hrows]
    simp only [hb, Bool.false_eq_true, if_false]
    refine ⟨m, dg, rest, n, 5, rfl, M, by omega, by decide, by decide, fun r μ1 a1 b1 M1 F1 => ?_⟩
    by_cases h2 : r < 2
    · simp only [decide_eq_true h2]
      exact lamps_new (ds := [some (.obj m), some (.tup (cs.map .str)), some (.obj p), none, none, none, none, none, none, none]) (E := { nx := fun _ μ' => GhQ Q .non μ', rt := GhQ Q }) rfl rfl rfl (show 3 < 10 by decide) M1 (by omega) c1 c6 fun ls μ' a b c => fin ls μ' a (b.mono (by omega)) (F1.trans c)
    · simp only [decide_eq_false h2, Bool.false_eq_true, if_false]
      have hp1 : μ1 p = some (.lst (rows.map kindD)) := (F1 p pm pd').trans hp
      refine ⟨_, hp1, ?_⟩
      rw [List.length_map]
      have hrl : 0 < rows.length := by rw [hrows]; simp
      refine ⟨m, dg, rest, n + 1, _, rfl, M1, by omega, by omega, by omega, fun r2 μ2 a2 b2 M2 F2 => ?_⟩
      have hp2 : μ2 p = some (.lst (rows.map kindD)) := (F2 p pm pd').trans hp1
      obtain ⟨k, hk, hk2, hk3⟩ := atI_ex (xs := rows) a2 b2
      refine ⟨_, kindD k, hp2, atI_some a2 (by rw [List.getElem?_map, hk3]; rfl), _, _, rfl, rfl, _, rfl, fun q hq => ?_⟩
      have ⟨gk0, gk1, gl1, gl6, gl⟩ := hg k hk2
      have qm := M2.neM hq
      have qd := M2.neD hq
      walk_at "dd"
      have M2' := M2.putO (o := .lst (k.2.2.map lampD)) qm qd
      refine ⟨_, put_same, ?_⟩
      rw [List.length_map]
      refine ⟨m, dg, rest, n + 2, _, rfl, M2', by omega, by omega, by omega, fun at_ μ3 a3 b3 M3 F3 => ?_⟩
      walk_at "dd"
      refine ⟨m, dg, rest, n + 3, 4, rfl, M3, by omega, by decide, by decide, fun way μ4 a4 b4 M4 F4 => ?_⟩
      walk_at "dd"
      have hq4 : μ4 q = some (.lst (k.2.2.map lampD)) := (F4 q qm qd).trans ((F3 q qm qd).trans put_same)
      have F04 : ∀ a, a ≠ m → a ≠ dg → a ≠ q → μ4 a = μ a := fun a x1 x2 x3 => (F4 a x1 x2).trans ((F3 a x1 x2).trans ((put_ne x3).trans ((F2 a x1 x2).trans (F1 a x1 x2))))
      have hμq : μ q = none := by rw [← F1 q qm qd, ← F2 q qm qd]; exact hq
      -- the end: the list at q as it is then
      have done : ∀ (ls : List Lamp) (ν : Mu) (k' : Nat), GoodLamps cs ls → MOk m dg rest k' ν → k' ≤ n + 30 → ν q = some (.lst (ls.map lampD)) → (∀ a, a ≠ m → a ≠ dg → a ≠ q → ν a = μ a) →
          ∃ xs, SeqD ν (.obj q) xs ∧ GhQ Q (.tup xs) ν := fun ls ν k' g Mν hk' e f => by
        refine ⟨_, e, ?_⟩
        refine GhQ.sub (μ' := del ν q) (fun a o z => ?_) (h ls _ g ?_ ?_)
        · unfold del at z
          by_cases y : a = q
          · rw [if_pos y] at z; cases z
          · rw [if_neg y] at z; exact z
        · obtain ⟨x1, x2, x3, x4, x5, x6, x7, x8⟩ := Mν.mono hk'
          exact ⟨x1, x2, x3, x4, x5, by unfold del; rw [if_neg (Ne.symm qm)]; exact x6, by unfold del; rw [if_neg (Ne.symm qd)]; exact x7, x8⟩
        · intro a y1 y2
          unfold del
          by_cases y : a = q
          · rw [if_pos y, y, hμq]
          · rw [if_neg y]; exact f a y1 y2 y
      have hz : (k.2.2.map lampD).length < sizeLine := small (by rw [List.length_map]; omega)
      have rep : P__law_lamp [.obj m, .tup (cs.map .str)] μ4 (fun x μ1 => ∃ xs j, μ1 q = some (.lst xs) ∧ ixN xs.length at_ = some j ∧ ∃ ys, SeqD (put μ1 q (.lst (xs.set j x))) (.obj q) ys ∧ GhQ Q (.tup ys) (put μ1 q (.lst (xs.set j x)))) := by
        refine ⟨m, dg, rest, n + 4, cs, rfl, M4, by omega, c1, c6, fun l ν gll Mν Fν => ?_⟩
        have e : ν q = some (.lst (k.2.2.map lampD)) := (Fν q qm qd).trans hq4
        refine ⟨_, _, e, ixN_some a3 (by rw [List.length_map]; exact b3), ?_⟩
        rw [← List.map_set]
        refine done _ _ (n + 8) ⟨by rw [List.length_set]; exact gl1, by rw [List.length_set]; exact gl6, fun x hx => ?_⟩ (Mν.putO qm qd) (by omega) put_same fun a y1 y2 y3 => (put_ne y3).trans ((Fν a y1 y2).trans (F04 a y1 y2 y3))
        rcases List.mem_or_eq_of_mem_set hx with hx | rfl
        · exact gl x hx
        · exact gll
      obtain rfl | rfl | rfl | rfl : way = 0 ∨ way = 1 ∨ way = 2 ∨ way = 3 := by omega
      · refine iteT ⟨_, hq4, ?_⟩
        by_cases hL : (((k.2.2.map lampD).length : Nat) : Int) < 6
        · rw [if_pos (decide_eq_true hL)]
          refine ⟨⟨_, hq4⟩, m, dg, rest, n + 4, cs, rfl, M4, by omega, c1, c6, fun l ν gll Mν Fν => ?_⟩
          have e : ν q = some (.lst (k.2.2.map lampD)) := (Fν q qm qd).trans hq4
          refine ⟨_, e, hz, a3, by omega, ?_⟩
          have e2 : (k.2.2.map lampD).take at_.toNat ++ [lampD l] ++ (k.2.2.map lampD).drop at_.toNat = (k.2.2.take at_.toNat ++ [l] ++ k.2.2.drop at_.toNat).map lampD := by simp
          rw [e2]
          rw [List.length_map] at hL
          refine done _ _ (n + 8) ⟨?_, ?_, fun x hx => ?_⟩ (Mν.putO qm qd) (by omega) put_same fun a y1 y2 y3 => (put_ne y3).trans ((Fν a y1 y2).trans (F04 a y1 y2 y3))
          · simp only [List.length_append, List.length_take, List.length_drop, List.length_cons, List.length_nil]; omega
          · simp only [List.length_append, List.length_take, List.length_drop, List.length_cons, List.length_nil]; omega
          · rcases List.mem_append.mp hx with hx | hx
            · rcases List.mem_append.mp hx with hx | hx
              · exact gl x (List.mem_of_mem_take hx)
              · rw [List.mem_singleton] at hx; rw [hx]; exact gll
            · exact gl x (List.mem_of_mem_drop hx)
        · rw [if_neg (by rw [decide_eq_false hL]; exact Bool.false_ne_true)]
          exact iteF (iteF rep)
      · refine iteF (iteT ⟨_, hq4, ?_⟩)
        by_cases hL : (1 : Int) < (((k.2.2.map lampD).length : Nat) : Int)
        · rw [if_pos (decide_eq_true hL)]
          have hlt : at_.toNat < k.2.2.length := by omega
          refine ⟨⟨_, hq4⟩, _, lampD k.2.2[at_.toNat], hq4, a3, by omega, by simp [hlt], ?_⟩
          have e2 : (k.2.2.map lampD).eraseIdx at_.toNat = (k.2.2.eraseIdx at_.toNat).map lampD := map_erase _ _ _
          rw [e2]
          rw [List.length_map] at hL
          have el : (k.2.2.eraseIdx at_.toNat).length = k.2.2.length - 1 := by rw [List.length_eraseIdx, if_pos hlt]
          exact done _ _ (n + 4) ⟨by rw [el]; omega, by rw [el]; omega, fun x hx => gl x (List.mem_of_mem_eraseIdx hx)⟩ (M4.putO qm qd) (by omega) put_same fun a y1 y2 y3 => (put_ne y3).trans (F04 a y1 y2 y3)
        · rw [if_neg (by rw [decide_eq_false hL]; exact Bool.false_ne_true)]
          exact iteF rep
      · refine iteF (iteF (iteT ?_))
        obtain ⟨l, hl, hl2, hl3⟩ := atI_ex (xs := k.2.2) a3 b3
        refine ⟨_, lampD l, hq4, atI_some a3 (by rw [List.getElem?_map, hl3]; rfl), rfl, ?_⟩
        refine ⟨m, dg, rest, n + 4, 3, rfl, M4, by omega, by decide, by decide, fun r5 ν a5 b5 Mν Fν => ?_⟩
        have e : ν q = some (.lst (k.2.2.map lampD)) := (Fν q qm qd).trans hq4
        refine ⟨by decide, by show 3 ≤ sizeLine; decide, _, _, e, ixN_some a3 (by rw [List.length_map]; exact b3), ?_⟩
        have e3 : (k.2.2.map lampD).set at_.toNat (.tup [.str l.1, .int l.2.1, .int ((l.2.2 + 1 + r5) % 32)]) = (k.2.2.set at_.toNat (l.1, l.2.1, (l.2.2 + 1 + r5) % 32)).map lampD := by rw [List.map_set]; rfl
        rw [e3]
        refine done _ _ (n + 8) ⟨by rw [List.length_set]; exact gl1, by rw [List.length_set]; exact gl6, fun x hx => ?_⟩ ((Mν.mono (by omega)).putO qm qd) (by omega) put_same fun a y1 y2 y3 => (put_ne y3).trans ((Fν a y1 y2).trans (F04 a y1 y2 y3))
        have gl0 := gl l hl2
        rcases List.mem_or_eq_of_mem_set hx with hx | rfl
        · exact gl x hx
        · exact ⟨gl0.1, gl0.2.1, gl0.2.2.1, Int.emod_nonneg _ (by decide), Int.emod_lt_of_pos _ (by decide)⟩
      · exact iteF (iteF (iteF rep))
end DL
set_option Elab.async false
set_option linter.all false
set_option maxRecDepth 100000
set_option maxHeartbeats 4000001
namespace DL
open PySem L2 TL
local macro_rules | `(tactic| walk_at "dd") => `(tactic| try simp only [dSeq, dAsg, dgName, dgTup, dgSub, dOp, dVar, dC, dAdd, dSub, dMul, dMod, dFDiv, dPow, dCmp, dNeg, dEqn, dIsN, dIx, dTup, dLst, dConsA, dNilA, dCB, dCall, dRet, dRetN, dDrop, dIfS, dNext, dBreak, dCont, dTest, dTru, dAndT, dOrT, dNotT, dAndV, dOrV, dNotV, dIf, dChain, dDGet, dDPut, dM1, dM0, dJoin, dSplit, dUpper, dBML, dAppend, dInsert, dPopAt, dLen, dInt, dStr, dTupOf, dListOf, dMax2, dSum, dAll, dSl, dPart, dNoPart, newLst, keyD, dFor, dLc, diSeq, diRng1, diRng2, diEnum, diEnumS, diStr,
  startD, setAll, wipeD, List.map_cons, List.map_nil, List.length_cons, List.length_nil, List.replicate, List.cons_append, List.nil_append, List.getElem?_cons_zero, List.getElem?_cons_succ, List.set_cons_zero, List.set_cons_succ, Nat.reduceAdd, Nat.reduceSub, Bool.false_eq_true, if_true, if_false, ite_true, ite_false, reduceIte])
local macro_rules | `(tactic| walk_at "cm") => `(tactic| first | exact .inl ⟨by omega, by omega⟩ | exact .inr ⟨by omega, by omega⟩ | exact ⟨by omega, by omega⟩ | omega | decide)
theorem kd1 : decide ((Sum.inr ("cells" : Str) : Key) = (Sum.inr ("colours" : Str) : Key)) = false := by decide +kernel
theorem kd2 : decide ((Sum.inr ("digits" : Str) : Key) = (Sum.inr ("colours" : Str) : Key)) = false := by decide +kernel
theorem kd3 : decide ((Sum.inr ("at" : Str) : Key) = (Sum.inr ("colours" : Str) : Key)) = false := by decide +kernel
theorem kd4 : decide ((Sum.inr ("cells" : Str) : Key) = (Sum.inr ("kinds" : Str) : Key)) = false := by decide +kernel
theorem kd5 : decide ((Sum.inr ("digits" : Str) : Key) = (Sum.inr ("kinds" : Str) : Key)) = false := by decide +kernel
theorem kd6 : decide ((Sum.inr ("at" : Str) : Key) = (Sum.inr ("kinds" : Str) : Key)) = false := by decide +kernel
theorem kd7 : decide ((Sum.inr ("colours" : Str) : Key) = (Sum.inr ("kinds" : Str) : Key)) = false := by decide +kernel
theorem getK_colours {c : List Int} {dg : Addr} {t : Int} {cs ks : List Str} : getK (tabD c dg t (restD cs ks)) (.inr "colours") = some (.lst (cs.map .str)) := by
  unfold getK tabD restD; simp only [List.find?_cons, kd1, kd2, kd3, decide_true, Option.map_some]
theorem getK_kinds {c : List Int} {dg : Addr} {t : Int} {cs ks : List Str} : getK (tabD c dg t (restD cs ks)) (.inr "kinds") = some (.lst (ks.map .str)) := by
  unfold getK tabD restD; simp only [List.find?_cons, kd4, kd5, kd6, kd7, decide_true, Option.map_some]
theorem MOk.colours {m dg : Addr} {cs ks : List Str} {n : Nat} {μ : Mu} (M : MOk m dg (restD cs ks) n μ) : ∃ kvs, μ m = some (.dK kvs) ∧ getK kvs (.inr "colours") = some (.lst (cs.map .str)) := by
  obtain ⟨_, _, c, d, t, h1, _⟩ := M
  exact ⟨_, h1, getK_colours⟩
theorem MOk.kinds {m dg : Addr} {cs ks : List Str} {n : Nat} {μ : Mu} (M : MOk m dg (restD cs ks) n μ) : ∃ kvs, μ m = some (.dK kvs) ∧ getK kvs (.inr "kinds") = some (.lst (ks.map .str)) := by
  obtain ⟨_, _, c, d, t, h1, _⟩ := M
  exact ⟨_, h1, getK_kinds⟩
theorem cut_take (xs : List Str) {i : Int} (h0 : 0 ≤ i) (h1 : i ≤ xs.length) : cutD (xs.map .str) none (some i) = (xs.take i.toNat).map .str := by
  unfold cutD
  have h2 : i ≤ ((xs.map D.str).length : Nat) := by rw [List.length_map]; exact h1
  rw [sIx_of h0 h2, HT.sIx_none, List.drop_zero, Nat.sub_zero, List.map_take]
theorem at6 {f : Int} (hf0 : 0 ≤ f) (hf : f < 17) {i : Int} (h0 : 0 ≤ i) (h1 : i < 6) : ∃ w, atI [D.int 0, D.int 1, D.int 2, D.int 4, D.int 16, D.int f] i = some (.int w) ∧ 0 ≤ w ∧ w ≤ 16 := by
  have : i = 0 ∨ i = 1 ∨ i = 2 ∨ i = 3 ∨ i = 4 ∨ i = 5 := by omega
  rcases this with rfl | rfl | rfl | rfl | rfl | rfl
  · exact ⟨0, rfl, by decide, by decide⟩
  · exact ⟨1, rfl, by decide, by decide⟩
  · exact ⟨2, rfl, by decide, by decide⟩
  · exact ⟨4, rfl, by decide, by decide⟩
  · exact ⟨16, rfl, by decide, by decide⟩
  · exact ⟨f, rfl, hf0, by omega⟩
theorem at2 {g : Int} (h : g = 0 ∨ g = 1) : ∃ w, atI [D.int 4, D.int 6] g = some (.int w) ∧ 0 < w ∧ w ≤ 6 := by
  rcases h with rfl | rfl
  · exact ⟨4, rfl, by decide, by decide⟩
  · exact ⟨6, rfl, by decide, by decide⟩
theorem rd__law_fleet : ∀ ds μ Q, P__law_fleet ds μ Q → td__law_fleet { nx := fun _ μ' => GhQ Q .non μ', rt := GhQ Q } (startD N__law_fleet ds) μ := by
  rintro ds μ Q ⟨m, dg, cs, ks, n, rfl, M, hn, hc6, hk6, ac, ak, h⟩
  unfold td__law_fleet N__law_fleet
  walk_at "dd"
  refine ⟨m, dg, _, n, 8, rfl, M, by omega, by decide, by decide, fun r1 μ1 a1 b1 M1 F1 => ?_⟩
  obtain ⟨g, hg, hg2⟩ : ∃ g : Int, (if decide (r1 = 0) = true then (1 : Int) else 0) = g ∧ (g = 0 ∨ g = 1) := ⟨_, rfl, by by_cases e : r1 = 0 <;> simp [e]⟩
  walk_at "dd"
  rw [hg]
  obtain ⟨kv1, e1, e2⟩ := M1.colours
  refine ⟨kv1, _, _, e1, rfl, e2, by decide, ?_⟩
  obtain ⟨w, hw, w0, w6⟩ := at2 hg2
  refine ⟨_, _, rfl, hw, m, dg, _, n + 1, w, rfl, M1, by omega, w0, by omega, fun r2 μ2 a2 b2 M2 F2 => ⟨_, rfl, ?_⟩⟩
  rw [cut_take cs (by omega) (by omega)]
  refine ⟨_, rfl, Nat.zero_le _, fun p hp => ?_⟩
  have pm := M2.neM hp
  have pd' := M2.neD hp
  have M2' := M2.putO (o := .lst []) pm pd'
  generalize hcs' : cs.take (1 + r2).toNat = cs'
  have lc : cs'.length = (1 + r2).toNat := by rw [← hcs', List.length_take]; omega
  have cc : cs' = cs.take cs'.length := by rw [lc]; exact hcs'.symm
  have ac' : ∀ s ∈ cs', Asc s := fun s hs => ac s (List.mem_of_mem_take (by rw [cc] at hs; exact hs))
  walk_at "dd"
  obtain ⟨kv2, e3, e4⟩ := M2'.kinds
  refine ⟨kv2, _, _, e3, rfl, e4, by decide, _, _, rfl, hw, m, dg, _, n + 2, w, rfl, M2', by omega, w0, by omega, fun r3 μ3 a3 b3 M3 F3 => ⟨_, rfl, ?_⟩⟩
  rw [cut_take ks (by omega) (by omega)]
  refine ⟨_, rfl, ?_⟩
  generalize hks' : ks.take (1 + r3).toNat = ks'
  have lk : ks'.length = (1 + r3).toNat := by rw [← hks', List.length_take]; omega
  have ck : ks' = ks.take ks'.length := by rw [lk]; exact hks'.symm
  have hμp : μ p = none := by rw [← F1 p pm pd', ← F2 p pm pd']; exact hp
  have F03 : ∀ a, a ≠ m → a ≠ dg → a ≠ p → μ3 a = μ a := fun a x1 x2 x3 => (F3 a x1 x2).trans ((put_ne x3).trans ((F2 a x1 x2).trans (F1 a x1 x2)))
  let I : Nat → DSl → Mu → Prop := fun j ds ν => ∃ (rows : List Kind) (x4 x5 : Option D), ds = [some (.obj m), some (.int g), some (.tup (cs'.map .str)), some (.obj p), x4, x5] ∧ rows.length = j ∧ rows.map (·.1) = ks'.take j ∧ (∀ k ∈ rows, GoodKind cs' k) ∧ (∀ k ∈ rows, AscKind k) ∧
    MOk m dg (restD cs ks) (n + 4 + 40 * j) ν ∧ ν p = some (.lst (rows.map kindD)) ∧ ∀ a, a ≠ m → a ≠ dg → a ≠ p → ν a = μ a
  refine ⟨I, ⟨[], _, _, rfl, rfl, rfl, (fun _ h => nomatch h), (fun _ h => nomatch h), M3.mono (by omega), (F3 p pm pd').trans put_same, F03⟩, fun _ _ _ _ _ => trivial, fun j d ds ν hd hI => ?_, fun ds ν hI => ?_⟩
  · obtain ⟨rows, x4, x5, rfl, hl, hn', hgood, hasc, Mν, eν, Fν⟩ := hI
    obtain ⟨name, hname, rfl⟩ := map_get hd
    have hj : j < ks'.length := (List.getElem?_eq_some_iff.mp hname).1
    walk_at "dd"
    refine ⟨m, dg, _, _, 17, rfl, Mν, by omega, by decide, by decide, fun r4 μ4 a4 b4 M4 F4 => ⟨by decide, ?_⟩⟩
    walk_at "dd"
    refine ⟨m, dg, _, _, 6, rfl, M4, by omega, by decide, by decide, fun r5 μ5 a5 b5 M5 F5 => ?_⟩
    obtain ⟨t, ht, t0, t16⟩ := at6 a4 b4 a5 b5
    refine ⟨_, _, rfl, ht, ?_⟩
    walk_at "dd"
    have e5 : μ5 p = some (.lst (rows.map kindD)) := (F5 p pm pd').trans ((F4 p pm pd').trans eν)
    refine ⟨⟨_, e5⟩, m, dg, p, _, _, cs', rows, rfl, M5, by omega, by omega, by omega, e5, pm, pd', by omega, hgood, hasc, fun ls μ6 gls M6 F6 => ⟨by show 3 ≤ sizeLine; decide, ?_⟩⟩
    refine ⟨_, (F6 p pm pd').trans e5, small (by rw [List.length_map]; omega), rows ++ [(name, t, ls)], _, _, rfl, by rw [List.length_append, hl]; rfl, ?_, fun k hk => ?_, fun k hk => ?_, (M6.putO pm pd').mono (by omega), ?_, fun a x1 x2 x3 => ?_⟩
    · rw [List.map_append, hn', List.take_add_one, hname]; rfl
    · rcases List.mem_append.mp hk with hk | hk
      · exact hgood k hk
      · rw [List.mem_singleton] at hk; rw [hk]; exact ⟨t0, t16, gls⟩
    · rcases List.mem_append.mp hk with hk | hk
      · exact hasc k hk
      · rw [List.mem_singleton] at hk; rw [hk]
        exact ⟨ak name (List.mem_of_mem_take (by rw [← ck]; exact List.mem_of_getElem? hname)), fun l hl => ac' l.1 (gls.2.2 l hl).1⟩
    · rw [put_same, List.map_append]; rfl
    · rw [put_ne x3]; exact (F6 a x1 x2).trans ((F5 a x1 x2).trans ((F4 a x1 x2).trans (Fν a x1 x2 x3)))
  · obtain ⟨rows, x4, x5, rfl, hl, hn', hgood, hasc, Mν, eν, Fν⟩ := hI
    rw [List.length_map] at hl hn' Mν
    walk_at "dd"
    refine ⟨_, eν, by show 2 ≤ sizeLine; decide, ?_⟩
    refine GhQ.sub (μ' := del ν p) (fun a o z => ?_) (h (cs', rows) _ ⟨by show 1 ≤ cs'.length; omega, by show cs'.length ≤ 6; omega, cc, by show 1 ≤ rows.length; omega, by show rows.length ≤ 6; omega, ?_, hgood⟩ ?_ fun a y1 y2 => ?_)
    · unfold del at z
      by_cases y : a = p
      · rw [if_pos y] at z; cases z
      · rw [if_neg y] at z; exact z
    · show rows.map (·.1) = ks.take rows.length
      rw [hn', hl, List.take_length, ← ck]
    · obtain ⟨x1, x2, x3, x4, x5, x6, x7, x8⟩ := Mν.mono (show n + 4 + 40 * ks'.length ≤ n + 300 by omega)
      exact ⟨x1, x2, x3, x4, x5, by unfold del; rw [if_neg (Ne.symm pm)]; exact x6, by unfold del; rw [if_neg (Ne.symm pd')]; exact x7, x8⟩
    · unfold del
      by_cases y : a = p
      · rw [if_pos y, y, hμp]
      · rw [if_neg y]; exact Fν a y1 y2 y
end DL
set_option Elab.async false
set_option linter.all false
set_option maxRecDepth 100000
set_option maxHeartbeats 4000001
namespace DL
open PySem L2 TL
local macro_rules | `(tactic| walk_at "dd") => `(tactic| try simp only [dSeq, dAsg, dgName, dgTup, dgSub, dOp, dVar, dC, dAdd, dSub, dMul, dMod, dFDiv, dPow, dCmp, dNeg, dEqn, dIsN, dIx, dTup, dLst, dConsA, dNilA, dCB, dCall, dRet, dRetN, dDrop, dIfS, dNext, dBreak, dCont, dTest, dTru, dAndT, dOrT, dNotT, dAndV, dOrV, dNotV, dIf, dChain, dDGet, dDPut, dM1, dM0, dJoin, dSplit, dUpper, dBML, dAppend, dInsert, dPopAt, dLen, dInt, dStr, dTupOf, dListOf, dMax2, dSum, dAll, dSl, dPart, dNoPart, newLst, keyD, dFor, dLc, diSeq, diRng1, diRng2, diEnum, diEnumS, diStr,
  startD, setAll, wipeD, List.map_cons, List.map_nil, List.length_cons, List.length_nil, List.replicate, List.cons_append, List.nil_append, List.getElem?_cons_zero, List.getElem?_cons_succ, List.set_cons_zero, List.set_cons_succ, Nat.reduceAdd, Nat.reduceSub, Bool.false_eq_true, if_true, if_false, ite_true, ite_false, reduceIte])
local macro_rules | `(tactic| walk_at "cm") => `(tactic| first | exact .inl ⟨by omega, by omega⟩ | exact .inr ⟨by omega, by omega⟩ | exact ⟨by omega, by omega⟩ | omega | decide)
theorem sub_del {ν : Mu} {p : Addr} : SubM (del ν p) ν := fun a o z => by
  unfold del at z
  by_cases y : a = p
  · rw [if_pos y] at z; cases z
  · rw [if_neg y] at z; exact z
theorem del_self {ν : Mu} {p : Addr} : del ν p p = none := by unfold del; rw [if_pos rfl]
theorem del_ne {ν : Mu} {p a : Addr} (h : a ≠ p) : del ν p a = ν a := by unfold del; rw [if_neg h]
theorem MOk.delO {m dg p : Addr} {rest : List (Key × D)} {n : Nat} {μ : Mu} (h : MOk m dg rest n μ) (e1 : p ≠ m) (e2 : p ≠ dg) : MOk m dg rest n (del μ p) := by
  obtain ⟨a, f, c, d, t, h1, h2, h3⟩ := h
  exact ⟨a, f, c, d, t, by rw [del_ne (Ne.symm e1)]; exact h1, by rw [del_ne (Ne.symm e2)]; exact h2, h3⟩
theorem del_fr {m dg p : Addr} {μ ν : Mu} (h0 : μ p = none) (h : ∀ a, a ≠ m → a ≠ dg → a ≠ p → ν a = μ a) : Fr m dg μ (del ν p) := fun a y1 y2 => by
  by_cases y : a = p
  · rw [y, del_self, h0]
  · rw [del_ne y]; exact h a y1 y2 y
theorem seq_fleet (f : Flt) {μ : Mu} : SeqD μ (fleetD f) [.tup (f.1.map .str), .tup (f.2.map kindD)] := rfl
/-! one boat's column -/
theorem colOf_snoc (ls : List Lamp) (l : Lamp) (b : Int) : colOf (ls ++ [l]) b = colOf ls b ++ (if shows b l = true then [l.1] else []) := by
  unfold colOf
  rw [List.filter_append, List.map_append]
  congr 1
  by_cases h : shows b l = true
  · rw [if_pos h, List.filter_cons_of_pos h]; rfl
  · rw [if_neg h, List.filter_cons_of_neg h]; rfl
theorem colOf_len (ls : List Lamp) (b : Int) : (colOf ls b).length ≤ ls.length := by
  unfold colOf; rw [List.length_map]; exact List.length_filter_le _ _
def colUpTo (rows : List Kind) (k : Str) (b : Int) : List Str := (rows.map fun x => if x.1 = k then colOf x.2.2 b else []).flatten
theorem colUpTo_snoc (rows : List Kind) (x : Kind) (k : Str) (b : Int) : colUpTo (rows ++ [x]) k b = colUpTo rows k b ++ (if x.1 = k then colOf x.2.2 b else []) := by
  unfold colUpTo; rw [List.map_append, List.flatten_append]; simp
theorem colUpTo_len {rows : List Kind} {k : Str} {b : Int} (h : ∀ x ∈ rows, x.2.2.length ≤ 6) : (colUpTo rows k b).length ≤ 6 * rows.length := by
  unfold colUpTo
  induction rows with
  | nil => simp
  | cons x rows ih =>
    have h1 := ih fun y hy => h y (List.mem_cons_of_mem _ hy)
    have h2 := h x List.mem_cons_self
    rw [List.map_cons, List.flatten_cons, List.length_append, List.length_cons]
    have h3 : (if x.1 = k then colOf x.2.2 b else []).length ≤ 6 := by
      by_cases e : x.1 = k
      · rw [if_pos e]; exact Nat.le_trans (colOf_len _ _) h2
      · rw [if_neg e]; exact Nat.zero_le _
    omega
theorem take_snoc {α : Type} {xs : List α} {j : Nat} {x : α} (h : xs[j]? = some x) : xs.take (j + 1) = xs.take j ++ [x] := by
  rw [List.take_add_one, h]; rfl
theorem rd__law_column : ∀ ds μ Q, P__law_column ds μ Q → td__law_column { nx := fun _ μ' => GhQ Q .non μ', rt := GhQ Q } (startD N__law_column ds) μ := by
  rintro ds μ Q ⟨f, k, c, s, rfl, hl6, hk6, h⟩
  unfold td__law_column N__law_column
  walk_at "dd"
  refine ⟨_, _, rfl, rfl, by decide, Nat.zero_le _, fun p hp => ⟨_, _, rfl, rfl, _, rfl, ?_⟩⟩
  let I : Nat → DSl → Mu → Prop := fun j ds ν => ∃ (x5 x6 x7 x8 x9 x10 : Option D), ds = [some (fleetD f), some (.tup [.str k, .int c]), some (.int s), some (.int ((s - c) % 32)), some (.obj p), x5, x6, x7, x8, x9, x10] ∧ ν = put μ p (.lst ((colUpTo (f.2.take j) k ((s - c) % 32)).map .str))
  refine ⟨I, ⟨_, _, _, _, _, _, rfl, rfl⟩, fun _ _ _ _ _ => trivial, fun j d ds ν hd hI => ?_, fun ds ν hI => ?_⟩
  · obtain ⟨x5, x6, x7, x8, x9, x10, rfl, rfl⟩ := hI
    obtain ⟨x, hx, rfl⟩ := map_get hd
    have hxm : x ∈ f.2 := List.mem_of_getElem? hx
    have hjl : j < f.2.length := (List.getElem?_eq_some_iff.mp hx).1
    have hpre : (colUpTo (f.2.take j) k ((s - c) % 32)).length ≤ 36 := by
      have := colUpTo_len (rows := f.2.take j) (k := k) (b := (s - c) % 32) fun y hy => hl6 y (List.mem_of_mem_take hy)
      rw [List.length_take] at this
      omega
    unfold kindD
    walk_at "dd"
    refine ⟨trivial, _, rfl, ?_⟩
    let J : Nat → DSl → Mu → Prop := fun i ds ν => ∃ (x8 x9 x10 : Option D), ds = [some (fleetD f), some (.tup [.str k, .int c]), some (.int s), some (.int ((s - c) % 32)), some (.obj p), some (.str x.1), some (.int x.2.1), some (.tup (x.2.2.map lampD)), x8, x9, x10] ∧
      ν = put μ p (.lst ((colUpTo (f.2.take j) k ((s - c) % 32) ++ (if x.1 = k then colOf (x.2.2.take i) ((s - c) % 32) else [])).map .str))
    refine ⟨J, ⟨_, _, _, rfl, ?_⟩, fun _ _ _ _ _ => trivial, fun i d ds ν hd hJ => ?_, fun ds ν hJ => ?_⟩
    · have : (if x.1 = k then colOf (x.2.2.take 0) ((s - c) % 32) else []) = [] := by split <;> rfl
      rw [this, List.append_nil]
    · obtain ⟨x8, x9, x10, rfl, rfl⟩ := hJ
      obtain ⟨l, hl, rfl⟩ := map_get hd
      unfold lampD
      walk_at "dd"
      refine ⟨trivial, _, _, rfl, rfl, ?_⟩
      have fits : ((colUpTo (f.2.take j) k ((s - c) % 32) ++ (if x.1 = k then colOf (x.2.2.take i) ((s - c) % 32) else [])).map D.str).length < sizeLine := by
        refine small ?_
        rw [List.length_map, List.length_append]
        have : (if x.1 = k then colOf (x.2.2.take i) ((s - c) % 32) else []).length ≤ 6 := by
          split
          · exact Nat.le_trans (colOf_len _ _) (Nat.le_trans (List.length_take_le' _ _) (hl6 x hxm))
          · exact Nat.zero_le _
        omega
      by_cases e : x.1 = k
      · show if decide (x.1 = k) = true then _ else _
        rw [if_pos (decide_eq_true e)]
        refine ⟨by decide, by decide, ?_⟩
        by_cases hs : ((s - c) % 32 - l.2.1) % 32 ≤ (l.2.2 - l.2.1) % 32
        · rw [if_pos (decide_eq_true hs)]
          refine ⟨⟨_, put_same⟩, _, put_same, fits, _, _, _, rfl, ?_⟩
          rw [put_put, if_pos e, if_pos e, take_snoc hl, colOf_snoc, if_pos (show shows ((s - c) % 32) l = true from decide_eq_true hs)]
          simp
        · rw [if_neg (by rw [decide_eq_false hs]; exact Bool.false_ne_true)]
          refine ⟨_, _, _, rfl, ?_⟩
          rw [if_pos e, if_pos e, take_snoc hl, colOf_snoc, if_neg (show ¬ shows ((s - c) % 32) l = true from by unfold shows; rw [decide_eq_false hs]; exact Bool.false_ne_true), List.append_nil]
      · show if decide (x.1 = k) = true then _ else _
        rw [if_neg (by rw [decide_eq_false e]; exact Bool.false_ne_true)]
        refine ⟨_, _, _, rfl, ?_⟩
        rw [if_neg e, if_neg e]
    · obtain ⟨x8, x9, x10, rfl, rfl⟩ := hJ
      refine ⟨_, _, _, _, _, _, rfl, ?_⟩
      rw [List.length_map, List.take_length, take_snoc hx, colUpTo_snoc]
  · obtain ⟨x5, x6, x7, x8, x9, x10, rfl, rfl⟩ := hI
    walk_at "dd"
    refine ⟨_, put_same, ?_⟩
    rw [List.length_map, List.take_length]
    exact GhQ.sub (SubM.new hp) h
end DL
set_option Elab.async false
set_option linter.all false
set_option maxRecDepth 100000
set_option maxHeartbeats 4000001
namespace DL
open PySem L2 TL
local macro_rules | `(tactic| walk_at "dd") => `(tactic| try simp only [dSeq, dAsg, dgName, dgTup, dgSub, dOp, dVar, dC, dAdd, dSub, dMul, dMod, dFDiv, dPow, dCmp, dNeg, dEqn, dIsN, dIx, dTup, dLst, dConsA, dNilA, dCB, dCall, dRet, dRetN, dDrop, dIfS, dNext, dBreak, dCont, dTest, dTru, dAndT, dOrT, dNotT, dAndV, dOrV, dNotV, dIf, dChain, dDGet, dDPut, dM1, dM0, dJoin, dSplit, dUpper, dBML, dAppend, dInsert, dPopAt, dLen, dInt, dStr, dTupOf, dListOf, dMax2, dSum, dAll, dSl, dPart, dNoPart, newLst, keyD, dFor, dLc, diSeq, diRng1, diRng2, diEnum, diEnumS, diStr,
  startD, setAll, wipeD, List.map_cons, List.map_nil, List.length_cons, List.length_nil, List.replicate, List.cons_append, List.nil_append, List.getElem?_cons_zero, List.getElem?_cons_succ, List.set_cons_zero, List.set_cons_succ, Nat.reduceAdd, Nat.reduceSub, Bool.false_eq_true, if_true, if_false, ite_true, ite_false, reduceIte])
local macro_rules | `(tactic| walk_at "cm") => `(tactic| first | exact .inl ⟨by omega, by omega⟩ | exact .inr ⟨by omega, by omega⟩ | exact ⟨by omega, by omega⟩ | omega | decide)
/-! ### sights -/
theorem shaped_tstrs {ns : List Str} (h : ∀ s ∈ ns, Asc s) : SeqAt.shaped (.tuple (ns.map PyData.str)) = true := by
  unfold SeqAt.shaped
  rw [PyData.canLay0, lay_strs ns h, PyData.depth, dep_strs] <;> rfl
theorem shaped_tnil : SeqAt.shaped (.tuple []) = true := shaped_tstrs (ns := []) (fun _ h => nomatch h)
theorem eqv_tnil : ∀ xs : List PyData, PyData.eqv (.tuple xs) (.tuple []) = xs.isEmpty
  | [] => by simp [PyData.eqv, PyData.eqvAll]
  | x :: xs => by simp [PyData.eqv, PyData.eqvAll]
theorem pdM_tstrs {μ : Mu} (ns : List Str) : pdM μ (.tup (ns.map .str)) = some (.tuple (ns.map .str)) := by
  show pd (.tup (ns.map .str)) = _
  rw [pd, pdL_strs] <;> rfl
theorem pdM_tnil {μ : Mu} : pdM μ (.tup []) = some (.tuple []) := by simp [pdM, pd, pdL]
theorem at60 {i : Int} (h0 : 0 ≤ i) (h1 : i < 6) : ∃ w, atI [D.int 0, D.int 0, D.int 1, D.int 1, D.int 2, D.int 5] i = some (.int w) ∧ 0 ≤ w ∧ w ≤ 5 := by
  have : i = 0 ∨ i = 1 ∨ i = 2 ∨ i = 3 ∨ i = 4 ∨ i = 5 := by omega
  rcases this with rfl | rfl | rfl | rfl | rfl | rfl
  · exact ⟨0, rfl, by decide, by decide⟩
  · exact ⟨0, rfl, by decide, by decide⟩
  · exact ⟨1, rfl, by decide, by decide⟩
  · exact ⟨1, rfl, by decide, by decide⟩
  · exact ⟨2, rfl, by decide, by decide⟩
  · exact ⟨5, rfl, by decide, by decide⟩
/-- of unlike kinds one alone shows its lamps -/
theorem colUpTo_one {cs : List Str} {k : Str} {b : Int} : ∀ {rows : List Kind}, (rows.map (·.1)).Nodup → (∀ x ∈ rows, GoodKind cs x) → (colUpTo rows k b).length ≤ 6 ∧ (∀ c ∈ colUpTo rows k b, c ∈ cs) ∧ (k ∉ rows.map (·.1) → colUpTo rows k b = [])
  | [], _, _ => ⟨Nat.zero_le _, (fun _ h => nomatch h), fun _ => rfl⟩
  | x :: rows, hn, hg => by
    rw [List.map_cons, List.nodup_cons] at hn
    obtain ⟨h1, h2, h3⟩ := colUpTo_one (k := k) (b := b) hn.2 fun y hy => hg y (List.mem_cons_of_mem _ hy)
    have hx := hg x List.mem_cons_self
    have e : colUpTo (x :: rows) k b = (if x.1 = k then colOf x.2.2 b else []) ++ colUpTo rows k b := rfl
    by_cases hk : x.1 = k
    · have hno : colUpTo rows k b = [] := h3 (hk ▸ hn.1)
      rw [e, if_pos hk, hno, List.append_nil]
      refine ⟨Nat.le_trans (colOf_len _ _) hx.2.2.2.1, fun c hc => ?_, fun z => absurd (by rw [List.map_cons, hk]; exact List.mem_cons_self) z⟩
      unfold colOf at hc
      obtain ⟨l, hl, rfl⟩ := List.mem_map.mp hc
      exact (hx.2.2.2.2 l (List.mem_filter.mp hl).1).1
    · rw [e, if_neg hk, List.nil_append]
      exact ⟨h1, h2, fun z => h3 fun y => z (by rw [List.map_cons]; exact List.mem_cons_of_mem _ y)⟩
theorem GoodFleet.col {cs ks : List Str} {f : Flt} (g : GoodFleet cs ks f) (hk : ks.Nodup) (k : Str) (c s : Int) : (columnOf f k c s).length ≤ 6 ∧ ∀ x ∈ columnOf f k c s, x ∈ f.1 := by
  have hn : (f.2.map (·.1)).Nodup := by rw [g.kp]; exact List.Sublist.nodup (List.take_sublist _ _) hk
  obtain ⟨a, b, _⟩ := colUpTo_one (k := k) (b := (s - c) % 32) hn g.kg
  exact ⟨a, b⟩
abbrev sgSl (m p : Addr) (f : Flt) (j turn course moment side : Int) (kn : Str) (ls : List Lamp) (col : List Str) (x9 x10 x13 x14 : Option D) : DSl :=
  [some (.obj m), some (fleetD f), some (.int j), some (.str kn), some (.int turn), some (.tup (ls.map lampD)), some (.int course), some (.int moment), some (.obj p), x9, x10, some (.int side), some (.tup (col.map .str)), x13, x14, none]
section
variable {m dg p : Addr} {rest : List (Key × D)} {f : Flt} {j turn course moment side : Int} {kn : Str} {ls : List Lamp} {col : List Str} {x9 x10 x13 x14 : Option D} {n : Nat} {ν : Mu} {ss : List Sight} {E : DEnds}
theorem sights_1 (M : MOk m dg rest n ν) (hn : n < 2^28) (pm : p ≠ m) (pd' : p ≠ dg) (hp : ν p = some (.lst (ss.map sightD))) (hl : ss.length ≤ 60) (hg : ∀ s ∈ ss, GoodSight f.1 s) (gs : GoodSight f.1 (moment, side, col))
    (hnx : ∀ (ss' : List Sight) (ν' : Mu), ss'.length = ss.length + 1 → (∀ s ∈ ss', GoodSight f.1 s) → MOk m dg rest (n + 1) ν' → ν' p = some (.lst (ss'.map sightD)) → (∀ a, a ≠ m → a ≠ dg → a ≠ p → ν' a = ν a) → E.nx (sgSl m p f j turn course moment side kn ls col x9 x10 x13 x14) ν') :
    td__law_sights_1 E (sgSl m p f j turn course moment side kn ls col x9 x10 x13 x14) ν := by
  unfold td__law_sights_1
  walk_at "dd"
  refine ⟨⟨_, hp⟩, _, hp, ?_⟩
  rw [List.length_map]
  refine ⟨m, dg, rest, n, _, rfl, M, by omega, by omega, by omega, fun r ν' a b M' F' => ⟨by show 3 ≤ sizeLine; decide, ?_⟩⟩
  have e : ν' p = some (.lst (ss.map sightD)) := (F' p pm pd').trans hp
  refine ⟨_, e, small (by rw [List.length_map]; omega), a, by omega, ?_⟩
  have e2 : (ss.map sightD).take r.toNat ++ [.tup [.int moment, .int side, .tup (col.map .str)]] ++ (ss.map sightD).drop r.toNat = (ss.take r.toNat ++ [(moment, side, col)] ++ ss.drop r.toNat).map sightD := by
    rw [List.map_append, List.map_append, List.map_take, List.map_drop]; rfl
  rw [e2]
  refine hnx _ _ ?_ (fun s hs => ?_) (M'.putO pm pd') put_same fun a y1 y2 y3 => (put_ne y3).trans (F' a y1 y2)
  · simp only [List.length_append, List.length_take, List.length_drop, List.length_cons, List.length_nil]; omega
  · rcases List.mem_append.mp hs with hs | hs
    · rcases List.mem_append.mp hs with hs | hs
      · exact hg s (List.mem_of_mem_take hs)
      · rw [List.mem_singleton] at hs; rw [hs]; exact gs
    · exact hg s (List.mem_of_mem_drop hs)
theorem sights_2 (M : MOk m dg rest n ν) (hn : n < 2^27) (pm : p ≠ m) (pd' : p ≠ dg) (hp : ν p = some (.lst (ss.map sightD))) (hl : ss.length ≤ 60) (hg : ∀ s ∈ ss, GoodSight f.1 s) (gs : GoodSight f.1 (moment, side, col)) (c0 : 1 ≤ f.1.length) (c6 : f.1.length ≤ 6)
    (hnx : ∀ (col' : List Str) (y14 : Option D) (ss' : List Sight) (ν' : Mu), ss'.length = ss.length + 1 → (∀ s ∈ ss', GoodSight f.1 s) → MOk m dg rest (n + 10) ν' → ν' p = some (.lst (ss'.map sightD)) → (∀ a, a ≠ m → a ≠ dg → a ≠ p → ν' a = ν a) → E.nx (sgSl m p f j turn course moment side kn ls col' x9 x10 x13 y14) ν') :
    td__law_sights_2 E (sgSl m p f j turn course moment side kn ls col x9 x10 x13 x14) ν := by
  unfold td__law_sights_2
  walk_at "dd"
  refine ⟨m, dg, rest, n, _, rfl, M, by omega, by decide, by decide, fun r ν1 a1 b1 M1 F1 => ?_⟩
  have hp1 : ν1 p = some (.lst (ss.map sightD)) := (F1 p pm pd').trans hp
  by_cases h0 : r = 0
  · show if decide (r = 0) = true then _ else _
    rw [if_pos (decide_eq_true h0)]
    refine ⟨m, dg, rest, n + 1, _, rfl, M1, by omega, by decide, by decide, fun r2 ν2 a2 b2 M2 F2 => ?_⟩
    walk_at "dd"
    have F02 : Fr m dg ν ν2 := F1.trans F2
    refine ⟨⟨by omega, by omega⟩, LcB.inv (fun i acc ν' => ∃ cl : List Str, acc = cl.map .str ∧ cl.length = i ∧ (∀ c ∈ cl, c ∈ f.1) ∧ MOk m dg rest (n + 2 + i) ν' ∧ Fr m dg ν ν') ⟨[], rfl, rfl, (fun _ h => nomatch h), M2, F02⟩ (fun _ _ _ _ _ => trivial) (by rw [rngD_len]; omega) (fun j acc ν ⟨ls, e, l, _⟩ => by rw [e, List.length_map, l]; exact Nat.le_refl _) (fun i d acc ν' hd hI => ?_) (fun acc ν' hI => ?_)⟩
    · obtain ⟨cl, rfl, hcl, hc, M3, F3⟩ := hI
      obtain ⟨hi, rfl⟩ := rngD_get hd
      walk_at "dd"
      refine ⟨_, _, rfl, rfl, _, _, rfl, rfl, _, rfl, ?_⟩
      rw [List.length_map]
      refine ⟨m, dg, rest, _, _, rfl, M3, by omega, by omega, by omega, fun r3 ν3 a3 b3 M4 F4 => ?_⟩
      obtain ⟨x, hx, hx2, hx3⟩ := atI_ex (xs := f.1) a3 b3
      refine ⟨_, .str x, rfl, atI_some a3 (by rw [List.getElem?_map, hx3]; rfl), cl ++ [x], by rw [List.map_append]; rfl, by rw [List.length_append, hcl]; rfl, fun c hc' => ?_, M4, F3.trans F4⟩
      rcases List.mem_append.mp hc' with hc' | hc'
      · exact hc c hc'
      · rw [List.mem_singleton] at hc'; rw [hc']; exact hx2
    · obtain ⟨cl, rfl, hcl, hc, M3, F3⟩ := hI
      rw [rngD_len] at hcl M3
      show ∃ xs, _ ∧ _
      refine ⟨_, rfl, ?_⟩
      refine sights_1 (col := cl) (M3.mono (show n + 2 + r2.toNat ≤ n + 9 by omega)) (by omega) pm pd' ((F3 p pm pd').trans hp) hl hg ⟨gs.1, gs.2.1, gs.2.2.1, gs.2.2.2.1, by show cl.length ≤ 6; omega, hc⟩ fun ss' ν4 x1 x2 x3 x4 x5 => hnx cl _ ss' ν4 x1 x2 x3 x4 fun a y1 y2 y3 => (x5 a y1 y2 y3).trans (F3 a y1 y2)
  · show if decide (r = 0) = true then _ else _
    rw [if_neg (by rw [decide_eq_false h0]; exact Bool.false_ne_true)]
    exact sights_1 M1 (by omega) pm pd' hp1 hl hg gs fun ss' ν4 x1 x2 x3 x4 x5 => hnx col _ ss' ν4 x1 x2 (x3.mono (by omega)) x4 fun a y1 y2 y3 => (x5 a y1 y2 y3).trans (F1 a y1 y2)
end
theorem rd__law_sights : ∀ ds μ Q, P__law_sights ds μ Q → td__law_sights { nx := fun _ μ' => GhQ Q .non μ', rt := GhQ Q } (startD N__law_sights ds) μ := by
  rintro ds μ Q ⟨m, dg, cs, ks, rest, n, f, j, rfl, M, hn, g, hnd, ac, j0, j60, h⟩
  unfold td__law_sights N__law_sights
  walk_at "dd"
  refine ⟨_, _, rfl, rfl, _, _, rfl, rfl, _, rfl, ?_⟩
  rw [List.length_map]
  have k0 := g.k0
  have k6 := g.k6
  refine ⟨m, dg, rest, n, _, rfl, M, by omega, by omega, by omega, fun r1 μ1 a1 b1 M1 F1 => ?_⟩
  obtain ⟨kd, hk, hk2, hk3⟩ := atI_ex (xs := f.2) a1 b1
  refine ⟨_, kindD kd, rfl, atI_some a1 (by rw [List.getElem?_map, hk3]; rfl), rfl, ?_⟩
  obtain ⟨t0, t16, gl⟩ := g.kg kd hk2
  walk_at "dd"
  refine ⟨m, dg, rest, n + 1, _, rfl, M1, by omega, by decide, by decide, fun c μ2 a2 b2 M2 F2 => ?_⟩
  walk_at "dd"
  refine ⟨Nat.zero_le _, fun p hp => ?_⟩
  have pm := M2.neM hp
  have pd' := M2.neD hp
  have hμp : μ p = none := by rw [← F1 p pm pd', ← F2 p pm pd']; exact hp
  have M2' := M2.putO (o := .lst []) pm pd'
  refine ⟨m, dg, rest, n + 2, _, rfl, M2', by omega, by omega, by omega, fun r3 μ3 a3 b3 M3 F3 => ?_⟩
  walk_at "dd"
  refine ⟨⟨by omega, by omega⟩, ?_⟩
  have F03 : ∀ a, a ≠ m → a ≠ dg → a ≠ p → μ3 a = μ a := fun a x1 x2 x3 => (F3 a x1 x2).trans ((put_ne x3).trans ((F2 a x1 x2).trans (F1 a x1 x2)))
  let I : Nat → DSl → Mu → Prop := fun i ds ν => ∃ (ss : List Sight) (course moment : Int) (x9 x10 x11 x12 x13 x14 : Option D), ds = [some (.obj m), some (fleetD f), some (.int j), some (.str kd.1), some (.int kd.2.1), some (.tup (kd.2.2.map lampD)), some (.int course), some (.int moment), some (.obj p), x9, x10, x11, x12, x13, x14, none] ∧
    0 ≤ moment ∧ moment ≤ 99 ∧ ss.length = i ∧ (∀ s ∈ ss, GoodSight f.1 s) ∧ MOk m dg rest (n + 3 + 30 * i) ν ∧ ν p = some (.lst (ss.map sightD)) ∧ ∀ a, a ≠ m → a ≠ dg → a ≠ p → ν a = μ a
  refine ⟨I, ⟨[], c, 0, _, _, _, _, _, _, rfl, by decide, by decide, rfl, (fun _ h => nomatch h), M3, (F3 p pm pd').trans put_same, F03⟩, fun _ _ _ _ _ => trivial, fun i d ds ν hd hI => ?_, fun ds ν hI => ?_⟩
  · obtain ⟨ss, course, moment, x9, x10, x11, x12, x13, x14, rfl, m0, m99, hl, hg, Mν, eν, Fν⟩ := hI
    obtain ⟨hi, rfl⟩ := rngD_get hd
    walk_at "dd"
    refine ⟨by decide, m, dg, rest, _, _, rfl, Mν, by omega, by decide, by decide, fun r4 μ4 a4 b4 M4 F4 => ?_⟩
    obtain ⟨w, hw, w0, w5⟩ := at60 a4 b4
    refine ⟨_, _, rfl, hw, ⟨by omega, by omega⟩, ?_⟩
    let J : Nat → DSl → Mu → Prop := fun q ds ν' => ∃ (course moment : Int) (x10 : Option D), ds = [some (.obj m), some (fleetD f), some (.int j), some (.str kd.1), some (.int kd.2.1), some (.tup (kd.2.2.map lampD)), some (.int course), some (.int moment), some (.obj p), some (.int (0 + (i : Int))), x10, x11, x12, x13, x14, none] ∧
      0 ≤ moment ∧ moment ≤ 99 ∧ MOk m dg rest (n + 3 + 30 * i + 1 + q) ν' ∧ ν' p = some (.lst (ss.map sightD)) ∧ ∀ a, a ≠ m → a ≠ dg → a ≠ p → ν' a = μ a
    refine ⟨J, ⟨course, moment, _, rfl, m0, m99, M4, (F4 p pm pd').trans eν, fun a y1 y2 y3 => (F4 a y1 y2).trans (Fν a y1 y2 y3)⟩, fun _ _ _ _ _ => trivial, fun q d ds ν' hd hJ => ?_, fun ds ν' hJ => ?_⟩
    · obtain ⟨course, moment, x10, rfl, m0, m99, Mq, eq, Fq⟩ := hJ
      obtain ⟨hq, rfl⟩ := rngD_get hd
      walk_at "dd"
      by_cases hm : moment < 99
      · rw [if_pos (decide_eq_true hm)]
        refine ⟨by walk_at "cm", m, dg, rest, _, _, rfl, Mq, by omega, by omega, by omega, fun r5 μ5 a5 b5 M5 F5 => ⟨by decide, (course + r5 - kd.2.1) % 32, moment + 1, _, rfl, by omega, by omega, M5.mono (by omega), (F5 p pm pd').trans eq, fun a y1 y2 y3 => (F5 a y1 y2).trans (Fq a y1 y2 y3)⟩⟩
      · rw [if_neg (by rw [decide_eq_false hm]; exact Bool.false_ne_true)]
        exact ⟨course, moment, _, rfl, m0, m99, Mq.mono (by omega), eq, Fq⟩
    · obtain ⟨course, moment, x10, rfl, m0, m99, Mq, eq, Fq⟩ := hJ
      rw [rngD_len] at Mq
      walk_at "dd"
      refine ⟨m, dg, rest, _, _, rfl, Mq, by omega, by decide, by decide, fun side μ6 a6 b6 M6 F6 => ?_⟩
      walk_at "dd"
      have e6 : μ6 p = some (.lst (ss.map sightD)) := (F6 p pm pd').trans eq
      refine ⟨by show 2 ≤ sizeLine; decide, f, kd.1, course, side, rfl, fun x hx => (g.kg x hx).2.2.2.1, k6, ?_⟩
      obtain ⟨q1, q2⟩ := g.col hnd kd.1 course side
      generalize columnOf f kd.1 course side = col at q1 q2
      have F06 : ∀ a, a ≠ m → a ≠ dg → a ≠ p → μ6 a = μ a := fun a y1 y2 y3 => (F6 a y1 y2).trans (Fq a y1 y2 y3)
      have fin : ∀ (col' : List Str) (x13 : Option D) (ν2 : Mu), col'.length ≤ 6 → (∀ x ∈ col', x ∈ f.1) → MOk m dg rest (n + 3 + 30 * i + 10) ν2 → Fr m dg μ6 ν2 → ∀ E : DEnds, E.nx = I (i + 1) → td__law_sights_2 E (sgSl m p f j kd.2.1 course moment side kd.1 kd.2.2 col' (some (.int (0 + (i : Int)))) x10 x13 x14) ν2 := fun col' x13 ν2 z1 z2 M7 F7 E hE => by
        refine sights_2 M7 (by omega) pm pd' ((F7 p pm pd').trans e6) (by omega) hg ⟨m0, m99, a6, b6, z1, z2⟩ g.c0 g.c6 fun col2 y14 ss' ν' y1 y2 y3 y4 y5 => ?_
        rw [hE]
        exact ⟨ss', course, moment, _, _, _, _, _, _, rfl, m0, m99, by omega, y2, y3.mono (by omega), y4, fun a v1 v2 v3 => (y5 a v1 v2 v3).trans ((F7 a v1 v2).trans (F06 a v1 v2 v3))⟩
      have hcol : ∀ s ∈ col, Asc s := fun s hs => ac s (q2 s hs)
      walk_at "dd"
      refine ⟨Nat.zero_le _, _, _, pdM_tstrs _, pdM_tnil, shaped_tstrs hcol, shaped_tnil, ?_⟩
      rw [eqv_tnil, emp_strs]
      cases hce : col.isEmpty with
      | true =>
        simp only [Bool.not_true, Bool.false_eq_true, if_false]
        exact fin col _ μ6 q1 q2 (M6.mono (by omega)) (Fr.refl _) _ rfl
      | false =>
        simp only [Bool.not_false, if_true]
        have hcl : 0 < col.length := by cases col with
          | nil => cases hce
          | cons _ _ => simp
        refine ⟨m, dg, rest, _, _, rfl, M6, by omega, by decide, by decide, fun r7 μ7 a7 b7 M7 F7 => ?_⟩
        by_cases h7 : r7 = 0
        · show if decide (r7 = 0) = true then _ else _
          rw [if_pos (decide_eq_true h7)]
          refine ⟨_, rfl, ?_⟩
          rw [List.length_map]
          refine ⟨m, dg, rest, _, _, rfl, M7, by omega, by omega, by omega, fun r8 μ8 a8 b8 M8 F8 => ?_⟩
          walk_at "dd"
          have hr8 : ((r8.toNat : Nat) : Int) = r8 := by omega
          have hr9 : (((r8.toNat + 1 : Nat)) : Int) = r8 + 1 := by omega
          have ecut : cutD (col.map D.str) none (some r8) ++ cutD (col.map D.str) (some (r8 + 1)) none = (col.take r8.toNat ++ col.drop (r8.toNat + 1)).map .str := by
            unfold cutD
            rw [List.length_map, ← hr9, ← hr8, HT.sIx_nat, HT.sIx_none, HT.sIx_nat, HT.sIx_none, List.drop_zero, Nat.sub_zero, Nat.min_eq_left (by omega), Nat.min_eq_left (by omega), ← List.map_take, ← List.map_drop, ← List.map_take, ← List.map_append]
            congr 2
            rw [List.take_of_length_le (by rw [List.length_drop]; omega)]
          refine ⟨?_, ?_⟩
          · refine smallE ?_
            rw [← List.length_append, ecut, List.length_map]
            simp only [List.length_append, List.length_take, List.length_drop]; omega
          · rw [ecut]
            refine fin _ _ μ8 ?_ (fun x hx => ?_) (M8.mono (by omega)) (F7.trans F8) _ rfl
            · simp only [List.length_append, List.length_take, List.length_drop]; omega
            · rcases List.mem_append.mp hx with hx | hx
              · exact q2 x (List.mem_of_mem_take hx)
              · exact q2 x (List.mem_of_mem_drop hx)
        · show if decide (r7 = 0) = true then _ else _
          rw [if_neg (by rw [decide_eq_false h7]; exact Bool.false_ne_true)]
          exact fin col _ μ7 q1 q2 (M7.mono (by omega)) F7 _ rfl
  · obtain ⟨ss, course, moment, x9, x10, x11, x12, x13, x14, rfl, m0, m99, hl, hg, Mν, eν, Fν⟩ := hI
    rw [rngD_len] at hl Mν
    walk_at "dd"
    exact GhQ.fix (μ' := del ν p) sub_del eν del_self (h ss _ (by omega) hg ((Mν.delO pm pd').mono (by omega)) (del_fr hμp Fν))
end DL
set_option Elab.async false
set_option linter.all false
set_option maxRecDepth 100000
set_option maxHeartbeats 4000001
namespace DL
open PySem L2 TL
local macro_rules | `(tactic| walk_at "dd") => `(tactic| try simp only [dSeq, dAsg, dgName, dgTup, dgSub, dOp, dVar, dC, dAdd, dSub, dMul, dMod, dFDiv, dPow, dCmp, dNeg, dEqn, dIsN, dIx, dTup, dLst, dConsA, dNilA, dCB, dCall, dRet, dRetN, dDrop, dIfS, dNext, dBreak, dCont, dTest, dTru, dAndT, dOrT, dNotT, dAndV, dOrV, dNotV, dIf, dChain, dDGet, dDPut, dM1, dM0, dJoin, dSplit, dUpper, dBML, dAppend, dInsert, dPopAt, dLen, dInt, dStr, dTupOf, dListOf, dMax2, dSum, dAll, dSl, dPart, dNoPart, newLst, keyD, dFor, dLc, diSeq, diRng1, diRng2, diEnum, diEnumS, diStr,
  startD, setAll, wipeD, List.map_cons, List.map_nil, List.length_cons, List.length_nil, List.replicate, List.cons_append, List.nil_append, List.getElem?_cons_zero, List.getElem?_cons_succ, List.set_cons_zero, List.set_cons_succ, Nat.reduceAdd, Nat.reduceSub, Bool.false_eq_true, if_true, if_false, ite_true, ite_false, reduceIte])
local macro_rules | `(tactic| walk_at "cm") => `(tactic| first | exact .inl ⟨by omega, by omega⟩ | exact .inr ⟨by omega, by omega⟩ | exact ⟨by omega, by omega⟩ | omega | decide)
/-! ### the beginning -/
theorem ke1 : decide ((Sum.inr ("cells" : Str) : Key) = (Sum.inr ("digits" : Str) : Key)) = false := by decide +kernel
theorem ke2 : decide ((Sum.inr ("digits" : Str) : Key) = (Sum.inr ("digits" : Str) : Key)) = true := by decide +kernel
theorem ke3 : decide ((Sum.inr ("at" : Str) : Key) = (Sum.inr ("digits" : Str) : Key)) = false := by decide +kernel
theorem ke4 : decide ((Sum.inr ("colours" : Str) : Key) = (Sum.inr ("at" : Str) : Key)) = false := by decide +kernel
theorem ke5 : decide ((Sum.inr ("kinds" : Str) : Key) = (Sum.inr ("at" : Str) : Key)) = false := by decide +kernel
theorem putKD_new {kvs : List (Key × D)} {k : Key} {d : D} (h : ∀ kv ∈ kvs, kv.1 ≠ k) : putKD kvs k d = kvs ++ [(k, d)] := by
  unfold putKD
  rw [if_neg]
  intro e
  obtain ⟨kv, h1, h2⟩ := List.any_eq_true.mp e
  exact h kv h1 (of_decide_eq_true h2)
theorem tab_made (c : List Int) (dg : Addr) : mergeKD [] [(.inr "cells", .lst (c.map .int)), (.inr "digits", .obj dg), (.inr "at", .int 0)] = tabD c dg 0 [] := by
  unfold mergeKD
  rw [List.foldl_cons, List.foldl_cons, List.foldl_cons, List.foldl_nil, putKD_new (kvs := []) (fun _ h => nomatch h)]
  rw [putKD_new (k := .inr "digits"), putKD_new (k := .inr "at")]
  · rfl
  · intro kv h
    rcases List.mem_append.mp h with h | h
    · rcases List.mem_append.mp h with h | h
      · cases h
      · rw [List.mem_singleton] at h; rw [h]; exact of_decide_eq_false kc4
    · rw [List.mem_singleton] at h; rw [h]; exact of_decide_eq_false kc5
  · intro kv h
    rcases List.mem_append.mp h with h | h
    · cases h
    · rw [List.mem_singleton] at h; rw [h]; exact of_decide_eq_false ke1
theorem putKD_digits {c : List Int} {dg d2 : Addr} {t : Int} : putKD (tabD c dg t []) (.inr "digits") (.obj d2) = tabD c d2 t [] := by
  have n1 : ¬ (Sum.inr ("cells" : Str) : Key) = (Sum.inr ("digits" : Str) : Key) := of_decide_eq_false ke1
  have n3 : ¬ (Sum.inr ("at" : Str) : Key) = (Sum.inr ("digits" : Str) : Key) := of_decide_eq_false ke3
  have a : ((tabD c dg t []).any fun kv => decide (kv.1 = (Sum.inr ("digits" : Str) : Key))) = true := by
    unfold tabD; simp only [List.any_cons, ke1, decide_true, Bool.false_or, Bool.true_or]
  unfold putKD
  rw [if_pos a]
  unfold tabD
  rw [List.map_cons, List.map_cons, List.map_cons, List.map_nil, if_neg n1, if_neg n3, if_pos rfl]
theorem putKD_colours {c : List Int} {dg : Addr} {t : Int} {d : D} : putKD (tabD c dg t []) (.inr "colours") d = tabD c dg t [(.inr "colours", d)] := by
  rw [putKD_new]
  · rfl
  · intro kv h
    unfold tabD at h
    rcases List.mem_cons.mp h with rfl | h
    · exact of_decide_eq_false kd1
    rcases List.mem_cons.mp h with rfl | h
    · exact of_decide_eq_false kd2
    rcases List.mem_cons.mp h with rfl | h
    · exact of_decide_eq_false kd3
    · cases h
theorem putKD_kinds {c : List Int} {dg : Addr} {t : Int} {d e : D} : putKD (tabD c dg t [(.inr "colours", d)]) (.inr "kinds") e = tabD c dg t [(.inr "colours", d), (.inr "kinds", e)] := by
  rw [putKD_new]
  · rfl
  · intro kv h
    unfold tabD at h
    rcases List.mem_cons.mp h with rfl | h
    · exact of_decide_eq_false kd4
    rcases List.mem_cons.mp h with rfl | h
    · exact of_decide_eq_false kd5
    rcases List.mem_cons.mp h with rfl | h
    · exact of_decide_eq_false kd6
    rcases List.mem_cons.mp h with rfl | h
    · exact of_decide_eq_false kd7
    · cases h
theorem SubM.fr {m dg : Addr} {μ ν ν' : Mu} (s : SubM μ ν) (h1 : μ m = none) (h2 : μ dg = none) (f : Fr m dg ν ν') : SubM μ ν' := fun a o e => by
  rw [f a (fun z => by rw [z, h1] at e; cases e) (fun z => by rw [z, h2] at e; cases e)]
  exact s a o e
section
variable {m dg : Addr} {n : Nat} {μ ν : Mu} {Q : DK} {x0 x3 : Option D}
theorem begun_1 {a b : Int} (a0 : 0 ≤ a) (b0 : 0 ≤ b) (M : MOk m dg [] n ν) (hn : n ≤ 9) (s : SubM μ ν) (hm : μ m = none) (hd : μ dg = none)
    (h : ∀ m dg cs ks μ', μ m = none → μ dg = none → GoodNames cs → GoodNames ks → MOk m dg (restD cs ks) 10 μ' → Fr m dg μ μ' → Q (.obj m) μ') :
    td__law_begun_1 { nx := fun _ μ' => GhQ Q .non μ', rt := GhQ Q } [x0, some (.obj m), some (.lst [.int a, .int b]), x3] ν := by
  unfold td__law_begun_1
  obtain ⟨hne, hf, cells, digits, at_, h1, h2, h3⟩ := M
  walk_at "dd"
  refine ⟨_, .int a, rfl, rfl, a, rfl, a0, fun cs gcs => ?_⟩
  refine ⟨_, _, h1, rfl, tab_len (by decide), ?_⟩
  rw [putKD_colours]
  refine ⟨_, .int b, rfl, rfl, b, rfl, b0, fun ks gks => ?_⟩
  refine ⟨_, _, put_same, rfl, tab_len (by decide : ([((Sum.inr ("colours" : Str) : Key), D.non)].length) ≤ 100), ?_⟩
  rw [putKD_kinds, put_put]
  refine GhQ.sub (μ' := fun x => if x = m ∨ x = dg then (put ν m (.dK (tabD cells dg at_ (restD cs ks)))) x else μ x) (fun x o e => ?_) (h m dg cs ks _ hm hd gcs gks ?_ fun x y1 y2 => ?_)
  · by_cases z : x = m ∨ x = dg
    · simp only [if_pos z] at e; exact e
    · simp only [if_neg z] at e
      rw [put_ne (fun y => z (Or.inl y))]; exact s x o e
  · refine ⟨hne, ⟨Nat.le_add_left 2 98, fun kv hk => ?_⟩, cells, digits, at_, ?_, ?_, h3.1, h3.2.1, h3.2.2.1, by have := h3.2.2.2.1; omega, h3.2.2.2.2⟩
    · unfold restD at hk
      rcases List.mem_cons.mp hk with rfl | hk
      · exact of_decide_eq_false ke4
      · rw [List.mem_singleton] at hk; rw [hk]; exact of_decide_eq_false ke5
    · simp only [true_or, if_true]; exact put_same
    · simp only [or_true, if_true]; rw [put_ne (Ne.symm hne)]; exact h2
  · show (if x = m ∨ x = dg then _ else μ x) = μ x
    rw [if_neg (fun z => z.elim y1 y2)]
theorem begun_2 (M : MOk m dg [] n ν) (hn : n ≤ 6) (s : SubM μ ν) (hm : μ m = none) (hd : μ dg = none)
    (h : ∀ m dg cs ks μ', μ m = none → μ dg = none → GoodNames cs → GoodNames ks → MOk m dg (restD cs ks) 10 μ' → Fr m dg μ μ' → Q (.obj m) μ') :
    td__law_begun_2 { nx := fun _ μ' => GhQ Q .non μ', rt := GhQ Q } [x0, some (.obj m), none, none] ν := by
  unfold td__law_begun_2
  walk_at "dd"
  refine ⟨by decide, LcB.inv (fun i acc ν' => ∃ ns : List Int, acc = ns.map .int ∧ ns.length = i ∧ (∀ x ∈ ns, 0 ≤ x) ∧ MOk m dg [] (n + i) ν' ∧ Fr m dg ν ν') ⟨[], rfl, rfl, (fun _ h => nomatch h), M, Fr.refl _⟩ (fun _ _ _ _ _ => trivial) (by rw [rngD_len]; decide) (fun j acc ν ⟨ls, e, l, _⟩ => by rw [e, List.length_map, l]; exact Nat.le_refl _) (fun i d acc ν' hd' hI => ?_) (fun acc ν' hI => ?_)⟩
  · obtain ⟨ns, rfl, hl, hp, M', F'⟩ := hI
    obtain ⟨hi, rfl⟩ := rngD_get hd'
    walk_at "dd"
    refine ⟨⟨by decide, by decide, by decide⟩, m, dg, _, _, _, rfl, M', by omega, by decide, by decide, fun r μ4 a4 b4 M4 F4 => ⟨ns ++ [r], by rw [List.map_append]; rfl, by rw [List.length_append, hl]; rfl, fun x hx => ?_, M4, F'.trans F4⟩⟩
    rcases List.mem_append.mp hx with hx | hx
    · exact hp x hx
    · rw [List.mem_singleton] at hx; rw [hx]; exact a4
  · obtain ⟨ns, rfl, hl, hp, M', F'⟩ := hI
    rw [rngD_len] at hl M'
    have hl2 : ns.length = 2 := hl
    obtain ⟨a, b, rfl⟩ : ∃ a b, ns = [a, b] := by
      match ns, hl2 with
      | [a, b], _ => exact ⟨a, b, rfl⟩
    have a0 := hp a List.mem_cons_self
    have b0 := hp b (List.mem_cons_of_mem _ List.mem_cons_self)
    have s' := s.fr hm hd F'
    walk_at "dd"
    refine ⟨m, dg, _, _, _, rfl, M', by show n + 2 < 2^30; omega, by decide, by decide, fun r μ4 a4 b4 M4 F4 => ?_⟩
    by_cases h0 : r = 0
    · show if decide (r = 0) = true then _ else _
      rw [if_pos (decide_eq_true h0)]
      refine ⟨_, rfl, _, rfl, by decide, by decide, (show 1 * 2 ≤ sizeLine by decide), ?_⟩
      exact begun_1 a0 a0 M4 (by show n + 2 + 1 ≤ 9; omega) (s'.fr hm hd F4) hm hd h
    · show if decide (r = 0) = true then _ else _
      rw [if_neg (by rw [decide_eq_false h0]; exact Bool.false_ne_true)]
      exact begun_1 a0 b0 M4 (by show n + 2 + 1 ≤ 9; omega) (s'.fr hm hd F4) hm hd h
end
theorem pdM_scr {μ : Mu} (ns : List Int) : pdM μ (.scr (ns.map .int)) = some (.list (ns.map .int)) := by
  show pd (.scr (ns.map .int)) = _
  rw [pd, pdL_ints] <;> rfl
theorem rd__law_begun : ∀ ds μ Q, P__law_begun ds μ Q → td__law_begun { nx := fun _ μ' => GhQ Q .non μ', rt := GhQ Q } (startD N__law_begun ds) μ := by
  rintro ds μ Q ⟨ns, rfl, hl, h⟩
  unfold td__law_begun N__law_begun
  walk_at "dd"
  simp only [dDisp, dPairs]
  walk_at "dd"
  refine ⟨ns, rfl, hl, fun cells c1 c2 => ⟨Nat.zero_le _, fun dg hdg => ⟨[(.inr "cells", .lst (cells.map .int)), (.inr "digits", .obj dg), (.inr "at", .int 0)], rfl, Nat.le_add_left 3 12, fun m hm => ?_⟩⟩⟩
  rw [tab_made]
  have mdg : m ≠ dg := fun z => by rw [z, put_same] at hm; cases hm
  have hμm : μ m = none := by rw [put_ne mdg] at hm; exact hm
  have M0 : MOk m dg [] 0 (put (put μ dg (.lst [])) m (.dK (tabD cells dg 0 []))) := ⟨mdg, ⟨by decide, (fun _ h => nomatch h)⟩, cells, [], 0, put_same, by rw [put_ne (Ne.symm mdg)]; exact put_same, c1, c2, by decide, by decide, by decide⟩
  have s0 : SubM μ (put (put μ dg (.lst [])) m (.dK (tabD cells dg 0 []))) := (SubM.new hdg).newR hμm
  walk_at "dd"
  refine ⟨Nat.zero_le _, _, _, pdM_scr ns, pdM_nil, shaped_ints _, shaped_nil, ?_⟩
  rw [eqv_nil]
  cases hns : ns with
  | nil =>
    simp only [List.map_nil, List.isEmpty_nil, Bool.not_true, Bool.false_eq_true, if_false]
    exact begun_2 M0 (by decide) s0 hμm hdg h
  | cons z zs =>
    simp only [List.map_cons, List.isEmpty_cons, Bool.not_false, if_true]
    refine ⟨_, .int z, rfl, atI_some (by decide) rfl, by decide, ?_⟩
    by_cases h2 : z % 2 = 1
    · show if decide (z % 2 = 1) = true then _ else _
      rw [if_pos (decide_eq_true h2)]
      refine ⟨_, .int z, rfl, atI_some (by decide) rfl, ⟨by decide, by decide⟩, by show 1 ≤ sizeLine; decide, _, rfl, _, _, rfl, rfl, ?_, fun d2 hd2 => ?_⟩
      · refine smallE ?_
        unfold cutD
        simp only [List.length_take, List.length_drop, List.length_cons, List.length_map, List.length_nil]
        rw [hns] at hl
        simp only [List.length_cons] at hl
        omega
      · have d2m : d2 ≠ m := fun y => by rw [y, put_same] at hd2; cases hd2
        have d2g : d2 ≠ dg := fun y => by rw [y, put_ne (Ne.symm mdg), put_same] at hd2; cases hd2
        have hμd2 : μ d2 = none := by rw [put_ne d2m, put_ne d2g] at hd2; exact hd2
        refine ⟨_, _, by rw [put_ne (Ne.symm d2m)]; exact put_same, rfl, tab_len (by decide), ?_⟩
        rw [putKD_digits]
        have e2 : [D.int (z / 2)] ++ cutD (D.int z :: zs.map .int) (some 1) none = ((z / 2) :: zs).map D.int := by
          unfold cutD
          rw [show (some (1 : Int)) = some ((1 : Nat) : Int) from rfl, HT.sIx_nat, HT.sIx_none, List.length_cons, List.length_map, Nat.min_eq_left (by omega)]
          simp
          exact List.take_of_length_le (by rw [List.length_map]; exact Nat.le_refl _)
        rw [e2]
        refine begun_2 (dg := d2) (n := 0) ⟨Ne.symm d2m, ⟨by decide, (fun _ h => nomatch h)⟩, cells, (z / 2) :: zs, 0, put_same, by rw [put_ne d2m]; exact put_same, c1, c2, by decide, by decide, by rw [hns] at hl; simp only [List.length_cons] at hl ⊢; omega⟩ (by decide) (((s0.newR hμd2).newR hμm)) hμm hμd2 h
    · show if decide (z % 2 = 1) = true then _ else _
      rw [if_neg (by rw [decide_eq_false h2]; exact Bool.false_ne_true)]
      exact begun_2 M0 (by decide) s0 hμm hdg h
end DL
set_option Elab.async false
set_option linter.all false
set_option maxRecDepth 100000
set_option maxHeartbeats 4000001
namespace DL
open PySem L2 TL
local macro_rules | `(tactic| walk_at "dd") => `(tactic| try simp only [dSeq, dAsg, dgName, dgTup, dgSub, dOp, dVar, dC, dAdd, dSub, dMul, dMod, dFDiv, dPow, dCmp, dNeg, dEqn, dIsN, dIx, dTup, dLst, dConsA, dNilA, dCB, dCall, dRet, dRetN, dDrop, dIfS, dNext, dBreak, dCont, dTest, dTru, dAndT, dOrT, dNotT, dAndV, dOrV, dNotV, dIf, dChain, dDGet, dDPut, dM1, dM0, dJoin, dSplit, dUpper, dBML, dAppend, dInsert, dPopAt, dLen, dInt, dStr, dTupOf, dListOf, dMax2, dSum, dAll, dSl, dPart, dNoPart, newLst, keyD, dFor, dLc, diSeq, diRng1, diRng2, diEnum, diEnumS, diStr,
  startD, setAll, wipeD, List.map_cons, List.map_nil, List.length_cons, List.length_nil, List.replicate, List.cons_append, List.nil_append, List.getElem?_cons_zero, List.getElem?_cons_succ, List.set_cons_zero, List.set_cons_succ, Nat.reduceAdd, Nat.reduceSub, Bool.false_eq_true, if_true, if_false, ite_true, ite_false, reduceIte])
local macro_rules | `(tactic| walk_at "cm") => `(tactic| first | exact .inl ⟨by omega, by omega⟩ | exact .inr ⟨by omega, by omega⟩ | exact ⟨by omega, by omega⟩ | omega | decide)
/-! ### rows of words -/
theorem numL_len : ∀ (k n : Nat), n < 10 ^ (k + 1) → (numL n).length ≤ k + 1
  | 0, n, h => by rw [numL_lt (by omega)]; exact Nat.le_refl _
  | k + 1, n, h => by
    by_cases h10 : n < 10
    · rw [numL_lt h10]; exact Nat.le_add_left 1 _
    · rw [numL_step (by omega), List.length_append]
      have e : 10 ^ (k + 1 + 1) = 10 * 10 ^ (k + 1) := by rw [Nat.pow_succ, Nat.mul_comm]
      have := numL_len k (n / 10) (by rw [Nat.div_lt_iff_lt_mul (by decide)]; omega)
      simp only [List.length_cons, List.length_nil]
      omega
theorem tl_int {i : Int} (h0 : 0 ≤ i) : tl (Str.ofString (toString i)) = numL i.toNat := by
  obtain ⟨n, rfl⟩ := Int.eq_ofNat_of_zero_le h0
  exact tl_num n
theorem wText_len {w : Word} (h : WordOk w) : (wText w).length ≤ 100 := by
  cases w with
  | inl s => exact h
  | inr i =>
    show (Str.ofString (toString i)).length ≤ 100
    rw [len_tl, tl_int h.1]
    have := numL_len 5 i.toNat (by have := h.2; omega)
    omega
theorem log_ok {i : Int} (h0 : 0 ≤ i) (h : i < 1000000) : i.natAbs.log2 < 1920 := by
  have h1 : i.natAbs < 1000000 := by omega
  by_cases z : i.natAbs = 0
  · rw [z]; decide
  · have : i.natAbs.log2 < 20 := (Nat.log2_lt z).mpr (by omega)
    omega
theorem rd__law_row : ∀ ds μ Q, P__law_row ds μ Q → td__law_row { nx := fun _ μ' => GhQ Q .non μ', rt := GhQ Q } (startD N__law_row ds) μ := by
  rintro ds μ Q ⟨x, ws, rfl, hx, hl, hok, h⟩
  unfold td__law_row N__law_row
  walk_at "dd"
  refine ⟨⟨_, rfl⟩, _, hx, LcB.pure (fun d => match d with | .int i => .str (toString i) | d => d) ?_ (by rw [List.length_map]; omega) (fun j d Qd hd q => ?_) ?_⟩
  · unfold keepOf
    cases x <;> first | trivial | exact hx
  · obtain ⟨w, hw, rfl⟩ := map_get hd
    have ok := hok w (List.mem_of_getElem? hw)
    cases w with
    | inl s => exact q
    | inr i => exact ⟨log_ok ok.1 ok.2, q⟩
  · have e : (ws.map wordD).map (fun d => match d with | .int i => D.str (toString i) | d => d) = (ws.map wText).map .str := by
      rw [List.map_map, List.map_map]
      refine List.map_congr_left fun w _ => ?_
      cases w <;> rfl
    rw [e]
    refine ⟨ws.map wText, rfl, ?_, GhQ.self h⟩
    have b : ∀ l : List Word, (∀ w ∈ l, WordOk w) → ((l.map wText).map (·.length)).sum ≤ 100 * l.length := by
      intro l
      induction l with
      | nil => intro _; exact Nat.le_refl _
      | cons w l ih =>
        intro hw
        have h1 := ih fun v hv => hw v (List.mem_cons_of_mem _ hv)
        have h2 := wText_len (hw w List.mem_cons_self)
        rw [List.map_cons, List.map_cons, List.sum_cons, List.length_cons]
        omega
    have h1 := b ws hok
    have h2 : (Str.ofString " ").length = 1 := by decide +kernel
    rw [h2, List.length_map]
    omega
theorem word_sight : (Str.ofString "sight").length = 5 := by decide +kernel
theorem word_lamp : (Str.ofString "lamp").length = 4 := by decide +kernel
theorem word_kind : (Str.ofString "kind").length = 4 := by decide +kernel
theorem word_colours : (Str.ofString "colours").length = 7 := by decide +kernel
theorem mapw_strs (cs : List Str) : (cs.map (Sum.inl : Str → Word)).map wordD = cs.map .str := by rw [List.map_map]; rfl
theorem rd__law_sight_row : ∀ ds μ Q, P__law_sight_row ds μ Q → td__law_sight_row { nx := fun _ μ' => GhQ Q .non μ', rt := GhQ Q } (startD N__law_sight_row ds) μ := by
  rintro ds μ Q ⟨s, rfl, ⟨h1, h2, h3, h4⟩, h⟩
  unfold td__law_sight_row N__law_sight_row sightD
  walk_at "dd"
  refine ⟨by show 1 ≤ sizeLine; decide, ?_⟩
  have e : cutD [D.int s.1, D.int s.2.1, D.tup (s.2.2.map .str)] none (some 2) = [D.int s.1, D.int s.2.1] := rfl
  rw [e]
  refine ⟨by show 1 + 2 ≤ sizeLine; decide, _, .tup (s.2.2.map .str), rfl, rfl, ?_, _, sightWords s, rfl, ?_, ?_, fun w hw => ?_, GhQ.self h⟩
  · show ([D.str "sight"] ++ [D.int s.1, D.int s.2.1]).length + (s.2.2.map D.str).length ≤ sizeLine
    refine smallE ?_
    rw [List.length_map]
    show 3 + s.2.2.length ≤ 1000000
    omega
  · show [D.str "sight"] ++ [D.int s.1, D.int s.2.1] ++ s.2.2.map D.str = (sightWords s).map wordD
    unfold sightWords
    rw [List.map_cons, List.map_cons, List.map_cons, mapw_strs]
    rfl
  · unfold sightWords
    simp only [List.length_cons, List.length_map]; omega
  · unfold sightWords at hw
    rcases List.mem_cons.mp hw with rfl | hw
    · show (Str.ofString "sight").length ≤ 100; rw [word_sight]; decide
    rcases List.mem_cons.mp hw with rfl | hw
    · exact h1
    rcases List.mem_cons.mp hw with rfl | hw
    · exact h2
    · obtain ⟨c, hc, rfl⟩ := List.mem_map.mp hw
      exact h4 c hc
theorem kindLines_len (k : Kind) : (kindLines k).length = 1 + k.2.2.length := by unfold kindLines; rw [List.length_cons, List.length_map]; omega
theorem heads_len {rows : List Kind} (h : ∀ k ∈ rows, k.2.2.length ≤ 90) : ((rows.map kindLines).flatten).length ≤ 91 * rows.length := by
  induction rows with
  | nil => exact Nat.le_refl _
  | cons k rows ih =>
    have h1 := ih fun x hx => h x (List.mem_cons_of_mem _ hx)
    have h2 := h k List.mem_cons_self
    rw [List.map_cons, List.flatten_cons, List.length_append, kindLines_len, List.length_cons]
    omega
theorem rd__law_lines : ∀ ds μ Q, P__law_lines ds μ Q → td__law_lines { nx := fun _ μ' => GhQ Q .non μ', rt := GhQ Q } (startD N__law_lines ds) μ := by
  rintro ds μ Q ⟨f, ss, rfl, sf, hs, hss, h⟩
  unfold td__law_lines N__law_lines
  walk_at "dd"
  refine ⟨by show 1 ≤ sizeLine; decide, ?_⟩
  refine ⟨_, .tup (f.1.map .str), rfl, rfl, ?_, _, colourWords f.1, rfl, ?_, ?_, fun w hw => ?_, by show 1 ≤ sizeLine; decide, fun p hp => ?_⟩
  · refine smallE ?_
    have := sf.c
    show 1 + (f.1.map D.str).length ≤ 1000000
    rw [List.length_map]; omega
  · show [D.str "colours"] ++ f.1.map D.str = (colourWords f.1).map wordD
    unfold colourWords
    rw [List.map_cons, mapw_strs]
    rfl
  · have := sf.c
    unfold colourWords
    simp only [List.length_cons, List.length_map]; omega
  · unfold colourWords at hw
    rcases List.mem_cons.mp hw with rfl | hw
    · show (Str.ofString "colours").length ≤ 100; rw [word_colours]; decide
    · obtain ⟨c, hc, rfl⟩ := List.mem_map.mp hw
      exact sf.cl c hc
  refine ⟨_, .tup (f.2.map kindD), rfl, rfl, _, rfl, ?_⟩
  let pre : Nat → List Str := fun j => rowOf (colourWords f.1) :: ((f.2.take j).map kindLines).flatten
  have prel : ∀ j, (pre j).length ≤ 10000 := fun j => by
    have h1 := heads_len (rows := f.2.take j) fun k hk => (sf.kl k (List.mem_of_mem_take hk)).2.2.1
    have h2 := sf.k
    have h3 : (f.2.take j).length ≤ f.2.length := by rw [List.length_take]; omega
    show (_ :: _).length ≤ _
    rw [List.length_cons]
    have : 91 * (f.2.take j).length ≤ 91 * 90 := Nat.mul_le_mul_left _ (by omega)
    omega
  let I : Nat → DSl → Mu → Prop := fun j ds ν => ∃ (p : Addr) (x3 x4 x5 : Option D), ds = [some (fleetD f), some (.lst (ss.map sightD)), some (.obj p), x3, x4, x5, none, none] ∧ SubM μ ν ∧ μ p = none ∧ ν p = some (.lst ((pre j).map .str))
  refine ⟨I, ⟨p, _, _, _, rfl, SubM.new hp, hp, put_same⟩, fun _ _ _ _ _ => trivial, fun j d ds ν hd hI => ?_, fun ds ν hI => ?_⟩
  · obtain ⟨p, x3, x4, x5, rfl, s, h0, e⟩ := hI
    obtain ⟨k, hk, rfl⟩ := map_get hd
    obtain ⟨k1, k2, k3, k4⟩ := sf.kl k (List.mem_of_getElem? hk)
    unfold kindD
    walk_at "dd"
    refine ⟨trivial, ⟨_, e⟩, by show 3 ≤ sizeLine; decide, _, kindWords k, rfl, rfl, by show 3 ≤ 100; decide, fun w hw => ?_, ?_⟩
    · unfold kindWords at hw
      rcases List.mem_cons.mp hw with rfl | hw
      · show (Str.ofString "kind").length ≤ 100; rw [word_kind]; decide
      rcases List.mem_cons.mp hw with rfl | hw
      · exact k1
      rcases List.mem_cons.mp hw with rfl | hw
      · exact k2
      · cases hw
    have := prel j
    refine ⟨_, e, small (by rw [List.length_map]; omega), _, rfl, ?_⟩
    refine LcB.pure (fun d => match d with | .tup [.str a, .int b, .int c] => .str (rowOf (lampWords (a, b, c))) | d => d) trivial (by rw [List.length_map]; omega) (fun i d Qd hd q => ?_) ?_
    · obtain ⟨l, hl, rfl⟩ := map_get hd
      obtain ⟨l1, l2, l3⟩ := k4 l (List.mem_of_getElem? hl)
      unfold lampD at q ⊢
      walk_at "dd"
      refine ⟨by show 1 ≤ sizeLine; decide, by show 1 + 3 ≤ sizeLine; decide, _, lampWords l, rfl, rfl, by show 4 ≤ 100; decide, fun w hw => ?_, q⟩
      unfold lampWords at hw
      rcases List.mem_cons.mp hw with rfl | hw
      · show (Str.ofString "lamp").length ≤ 100; rw [word_lamp]; decide
      rcases List.mem_cons.mp hw with rfl | hw
      · exact l1
      rcases List.mem_cons.mp hw with rfl | hw
      · exact l2
      rcases List.mem_cons.mp hw with rfl | hw
      · exact l3
      · cases hw
    · have em : (k.2.2.map lampD).map (fun d => match d with | .tup [.str a, .int b, .int c] => D.str (rowOf (lampWords (a, b, c))) | d => d) = (k.2.2.map fun l => rowOf (lampWords l)).map .str := by
        rw [List.map_map, List.map_map]; rfl
      rw [em]
      refine ⟨_, _, put_same, rfl, ?_, fun p2 hp2 => ?_⟩
      · refine smallE ?_
        rw [List.length_append, List.length_map, List.length_map, List.length_map]
        simp only [List.length_cons, List.length_nil]
        omega
      · have n2 : p2 ≠ p := fun z => by rw [z, put_same] at hp2; cases hp2
        have hμ2 : μ p2 = none := by
          rw [put_ne n2] at hp2
          cases q : μ p2 with
          | none => rfl
          | some o => rw [s p2 o q] at hp2; cases hp2
        refine ⟨p2, _, _, _, rfl, (s.newR h0).newR hμ2, hμ2, ?_⟩
        rw [put_same]
        congr 2
        show (pre j).map D.str ++ [D.str (rowOf (kindWords k))] ++ _ = (pre (j + 1)).map D.str
        have : pre (j + 1) = pre j ++ kindLines k := by
          show _ :: _ = _ :: _ ++ _
          rw [take_snoc hk, List.map_append, List.flatten_append]
          simp
        rw [this, List.map_append]
        unfold kindLines
        rw [List.map_cons, List.append_assoc]
        rfl
  · obtain ⟨p, x3, x4, x5, rfl, s, h0, e⟩ := hI
    rw [List.length_map] at e
    walk_at "dd"
    refine ⟨_, rfl, ?_⟩
    refine LcB.pure (fun d => match d with | .tup [.int a, .int b, .tup c] => .str (rowOf (.inl "sight" :: .inr a :: .inr b :: c.map fun x => match x with | D.str s => .inl s | _ => .inr 0)) | d => d) trivial (by rw [List.length_map]; omega) (fun i d Qd hd q => ?_) ?_
    · obtain ⟨x, hx, rfl⟩ := map_get hd
      walk_at "dd"
      refine ⟨x, rfl, hss x (List.mem_of_getElem? hx), ?_⟩
      have ew : ((.inl "sight" : Word) :: .inr x.1 :: .inr x.2.1 :: (x.2.2.map D.str).map fun y => match y with | D.str s => .inl s | _ => .inr 0) = sightWords x := by
        rw [List.map_map]; rfl
      unfold sightD at q
      simp only [ew] at q
      exact q
    · have em : (ss.map sightD).map (fun d => match d with | .tup [.int a, .int b, .tup c] => D.str (rowOf (.inl "sight" :: .inr a :: .inr b :: c.map fun x => match x with | D.str s => .inl s | _ => .inr 0)) | d => d) = (ss.map fun x => rowOf (sightWords x)).map .str := by
        rw [List.map_map, List.map_map]
        refine List.map_congr_left fun x _ => ?_
        show D.str (rowOf ((.inl "sight" : Word) :: .inr x.1 :: .inr x.2.1 :: (x.2.2.map D.str).map fun y => match y with | D.str s => .inl s | _ => .inr 0)) = _
        rw [List.map_map]; rfl
      rw [em]
      have := prel f.2.length
      refine ⟨_, _, e, rfl, ?_, ?_⟩
      · refine smallE ?_
        rw [List.length_map, List.length_map, List.length_map]
        omega
      · have ef : (pre f.2.length).map D.str ++ (ss.map fun x => rowOf (sightWords x)).map .str = (linesOf f ss).map .str := by
          rw [← List.map_append]
          congr 1
          unfold linesOf headLines
          show _ :: ((f.2.take f.2.length).map kindLines).flatten ++ _ = _
          rw [List.take_length]
        rw [ef]
        exact GhQ.sub s h
end DL
set_option Elab.async false
set_option linter.all false
set_option maxRecDepth 100000
set_option maxHeartbeats 1000001
namespace DL
open PySem L2 TL
local macro_rules | `(tactic| walk_at "dd") => `(tactic| try simp only [dSeq, dAsg, dgName, dgTup, dgSub, dOp, dVar, dC, dAdd, dSub, dMul, dMod, dFDiv, dPow, dCmp, dNeg, dEqn, dIsN, dIx, dTup, dLst, dConsA, dNilA, dCB, dCall, dRet, dRetN, dDrop, dIfS, dNext, dBreak, dCont, dTest, dTru, dAndT, dOrT, dNotT, dAndV, dOrV, dNotV, dIf, dChain, dDGet, dDPut, dM1, dM0, dJoin, dSplit, dUpper, dBML, dAppend, dInsert, dPopAt, dLen, dInt, dStr, dTupOf, dListOf, dMax2, dSum, dAll, dSl, dPart, dNoPart, newLst, keyD, dFor, dLc, diSeq, diRng1, diRng2, diEnum, diEnumS, diStr,
  startD, setAll, wipeD, List.map_cons, List.map_nil, List.length_cons, List.length_nil, List.replicate, List.cons_append, List.nil_append, List.getElem?_cons_zero, List.getElem?_cons_succ, List.set_cons_zero, List.set_cons_succ, Nat.reduceAdd, Nat.reduceSub, Bool.false_eq_true, if_true, if_false, ite_true, ite_false, reduceIte])
local macro_rules | `(tactic| walk_at "cm") => `(tactic| first | exact .inl ⟨by omega, by omega⟩ | exact .inr ⟨by omega, by omega⟩ | exact ⟨by omega, by omega⟩ | omega | decide)
/-! ### the program's rows -/
theorem any_in (s : Str) (xs : List Str) : xs.any (· == s) = decide (s ∈ xs) := by
  induction xs with
  | nil => simp
  | cons x xs ih =>
    rw [List.any_cons, ih]
    by_cases e : x = s
    · subst e; simp
    · have e2 : (x == s) = false := beq_eq_false_iff_ne.mpr e
      rw [e2]; simp [Ne.symm e]
theorem bars_all : ((bars.map D.str).all flatD) = true := by rfl
theorem rd_is_name : ∀ ds μ Q, P_is_name ds μ Q → td_is_name { nx := fun _ μ' => GhQ Q .non μ', rt := GhQ Q } (startD N_is_name ds) μ := by
  rintro ds μ Q ⟨s, rfl, hl, h⟩
  unfold td_is_name N_is_name
  walk_at "dd"
  unfold c_ROW_WORDS
  have hb : isNameB s = (!decide (s ∈ bars) && ((decide (1 ≤ s.length) && decide (s.length ≤ 6)) && s.cps.toList.all fun c => decide (c ∈ letters.cps.toList))) := by
    unfold isNameB; rw [any_in]
  refine ⟨bars.map D.str, rfl, rfl, bars_all, ?_⟩
  rw [inD_strs]
  have sub : (if false = true then (!decide (s ∈ bars)) else decide (s ∈ bars)) = decide (s ∈ bars) := if_neg (by simp)
  rw [sub]
  show (if decide (s ∈ bars) = true then GhQ Q (D.bl false) μ else _)
  by_cases hin : s ∈ bars
  · rw [if_pos (decide_eq_true hin)]
    rw [hb, decide_eq_true hin] at h
    exact GhQ.self h
  rw [if_neg (by simp [hin])]
  rw [hb, decide_eq_false hin, Bool.not_false, Bool.true_and] at h
  refine ⟨smallE hl, ?_⟩
  have hsz : s.cps.toList.length = s.length := rfl
  by_cases h1 : 1 ≤ s.length
  · rw [if_pos (by exact decide_eq_true (by omega : (1 : Int) ≤ s.length))]
    by_cases h6 : s.length ≤ 6
    · rw [if_neg (by simp; omega)]
      rw [decide_eq_true h1, decide_eq_true h6, Bool.true_and, Bool.true_and] at h
      refine LcB.pure (fun d => match d with | .str z => .bl (z.cps.toList.all fun c => decide (c ∈ letters.cps.toList)) | d => d) trivial (by rw [List.length_map]; omega) (fun j d Qd hd q => ?_) ?_
      · obtain ⟨c, hc, rfl⟩ := map_get hd
        refine ⟨c, rfl, ?_⟩
        have e : (([c] : List Nat).all fun c => decide (c ∈ letters.cps.toList)) = decide (c ∈ letters.cps.toList) := by simp
        have q' : Qd (.bl (([c] : List Nat).all fun c => decide (c ∈ letters.cps.toList))) μ := q
        rw [e] at q'
        exact q'
      · have e : (s.cps.toList.map fun c => D.str ⟨#[c]⟩).map (fun d => match d with | .str z => D.bl (z.cps.toList.all fun c => decide (c ∈ letters.cps.toList)) | d => d) = (s.cps.toList.map fun c => decide (c ∈ letters.cps.toList)).map D.bl := by
          rw [List.map_map, List.map_map]
          refine List.map_congr_left fun c _ => ?_
          show D.bl (([c] : List Nat).all fun c => decide (c ∈ letters.cps.toList)) = _
          simp
        rw [e]
        refine ⟨_, rfl, GhQ.self ?_⟩
        rw [List.all_map]
        exact h
    · rw [if_pos (by simp; omega)]
      rw [decide_eq_false h6, Bool.and_false, Bool.false_and] at h
      exact GhQ.self h
  · rw [if_neg (by simp; omega), if_pos (by rfl)]
    rw [decide_eq_false h1, Bool.false_and, Bool.false_and] at h
    exact GhQ.self h
/-! number_of -/
theorem find_more {p : Nat → Bool} {n : Nat} : (List.range (n + 1)).find? p = match (List.range n).find? p with | some x => some x | none => if p n = true then some n else none := by
  rw [List.range_succ, List.find?_append]
  cases (List.range n).find? p with
  | some x => rfl
  | none => simp [List.find?_cons]; cases p n <;> rfl
theorem rd_number_of : ∀ ds μ Q, P_number_of ds μ Q → td_number_of { nx := fun _ μ' => GhQ Q .non μ', rt := GhQ Q } (startD N_number_of ds) μ := by
  rintro ds μ Q ⟨w, m, rfl, h0, h1, h⟩
  unfold td_number_of N_number_of
  walk_at "dd"
  refine ⟨by omega, fun i ds ν => (∃ x, ds = [some (.str w), some (.int m), x]) ∧ ν = μ ∧ (List.range i).find? (fun (n : Nat) => decide (w = Str.ofString (toString (n : Int)))) = none, ⟨⟨_, rfl⟩, rfl, rfl⟩, fun _ _ _ _ _ => trivial, ?_, ?_⟩
  · rintro i d ds ν hd ⟨⟨x, rfl⟩, rfl, hn⟩
    obtain ⟨hi, rfl⟩ := rngD_get hd
    have e0 : (0 : Int) + (i : Nat) = (i : Int) := by omega
    rw [e0]
    walk_at "dd"
    refine ⟨log_ok (by omega) (by omega), ?_⟩
    by_cases e : w = Str.ofString (toString (i : Int))
    · have hf : numOf w m.toNat = some i := by
        unfold numOf
        have hs : m.toNat + 1 = i + 1 + (m.toNat - i) := by omega
        rw [hs, List.range_add, List.find?_append, find_more, hn]
        show (if decide (w = Str.ofString (toString (i : Int))) = true then some i else none).or _ = _
        rw [if_pos (decide_eq_true e)]
        rfl
      rw [if_pos (decide_eq_true e)]
      rw [hf] at h
      exact GhQ.self h
    · rw [if_neg (by simp only [decide_eq_true_eq]; exact e)]
      exact ⟨⟨_, rfl⟩, trivial, by
        rw [find_more, hn]
        show (if decide (w = Str.ofString (toString (i : Int))) = true then some i else none) = none
        rw [if_neg (by simp only [decide_eq_true_eq]; exact e)]⟩
  · rintro ds ν ⟨⟨x, rfl⟩, rfl, hn⟩
    rw [rngD_len] at hn
    have hm : (m + 1).toNat = m.toNat + 1 := by omega
    rw [hm] at hn
    unfold numOf at h
    rw [hn] at h
    exact GhQ.self h
theorem smallE' {n : Nat} (h : n ≤ 1000002) : n ≤ sizeLine := Nat.le_trans h (by decide)
/-! words_of -/
theorem spl_c0 {c : Nat} {acc : List Nat} : spl [c] 0 acc [] = [acc] := spl_nil _ _ _
theorem spl_c1 {c : Nat} {acc r : List Nat} : spl [c] 0 acc (c :: r) = acc :: spl [c] 0 [] r := spl_hit (by simp [pre])
theorem spl_c2 {c x : Nat} {acc r : List Nat} (h : x ≠ c) : spl [c] 0 acc (x :: r) = spl [c] 0 (acc ++ [x]) r := spl_miss (by simp [pre, h, Ne.symm h])
theorem spl_ne {c : Nat} : ∀ (l acc : List Nat), spl [c] 0 acc l ≠ []
  | [], acc => by rw [spl_c0]; simp
  | x :: r, acc => by
    by_cases h : x = c
    · rw [h, spl_c1]; simp
    · rw [spl_c2 h]; exact spl_ne r _
theorem spl_short {c : Nat} : ∀ (l acc p : List Nat), p ∈ spl [c] 0 acc l → p.length ≤ acc.length + l.length
  | [], acc, p, h => by rw [spl_c0] at h; rw [List.mem_singleton.mp h]; simp
  | x :: r, acc, p, h => by
    by_cases e : x = c
    · rw [e, spl_c1] at h
      rcases List.mem_cons.mp h with rfl | h
      · simp
      · have := spl_short r [] p h
        simp only [List.length_nil, List.length_cons] at this ⊢; omega
    · rw [spl_c2 e] at h
      have := spl_short r _ p h
      simp only [List.length_append, List.length_cons, List.length_nil] at this ⊢; omega
theorem spl_few {c : Nat} : ∀ (l acc : List Nat), (spl [c] 0 acc l).length ≤ 1 + l.length
  | [], acc => by rw [spl_c0]; simp
  | x :: r, acc => by
    by_cases e : x = c
    · rw [e, spl_c1]
      have := spl_few (c := c) r []
      simp only [List.length_cons]; omega
    · rw [spl_c2 e]
      have := spl_few (c := c) r (acc ++ [x])
      simp only [List.length_cons]; omega
/-- a separator of one plain sign -/
structure Sep (y : Str) (c : Nat) : Prop where
  tl : tl y = [c]
  kd : ∀ x : Str, ¬ Builtin.Str.strKind x < Builtin.Str.strKind y
theorem sep_hash : Sep "#" 35 := ⟨by decide +kernel, fun x => kind_ok (by decide +kernel)⟩
theorem sep_blank : Sep " " 32 := ⟨by decide +kernel, fun x => kind_ok (by decide +kernel)⟩
theorem sep_line : Sep "\n" 10 := ⟨by decide +kernel, fun x => kind_ok (by decide +kernel)⟩
theorem Sep.spl {y : Str} {c : Nat} (h : Sep y c) (x : Str) : (Txt.split x y).map TL.tl = TL.spl [c] 0 [] (TL.tl x) := by
  rw [split_spl x y (by rw [h.tl]; simp) (h.kd x), h.tl]
theorem Sep.ne {y : Str} {c : Nat} (h : Sep y c) (x : Str) : Txt.split x y ≠ [] := fun e => by
  have := h.spl x
  rw [e] at this
  exact spl_ne _ _ this.symm
theorem Sep.short {y : Str} {c : Nat} (h : Sep y c) {x p : Str} (hp : p ∈ Txt.split x y) : p.length ≤ x.length := by
  have : TL.tl p ∈ TL.spl [c] 0 [] (TL.tl x) := by rw [← h.spl x]; exact List.mem_map_of_mem hp
  have := spl_short _ _ _ this
  rw [len_tl, len_tl]
  simpa using this
theorem Sep.few {y : Str} {c : Nat} (h : Sep y c) (x : Str) : (Txt.split x y).length ≤ 1 + x.length := by
  have := spl_few (c := c) (TL.tl x) []
  rw [← h.spl x, List.length_map] at this
  rw [len_tl]; exact this
theorem rd_words_of : ∀ ds μ Q, P_words_of ds μ Q → td_words_of { nx := fun _ μ' => GhQ Q .non μ', rt := GhQ Q } (startD N_words_of ds) μ := by
  rintro ds μ Q ⟨s, rfl, hl, h⟩
  unfold td_words_of N_words_of
  walk_at "dd"
  obtain ⟨w, r, e⟩ : ∃ w r, Txt.split s "#" = w :: r := by
    cases e : Txt.split s "#" with
    | nil => exact absurd e (sep_hash.ne s)
    | cons w r => exact ⟨w, r, rfl⟩
  have hw : w.length ≤ 100000 := Nat.le_trans (sep_hash.short (by rw [e]; exact List.mem_cons_self)) hl
  refine ⟨⟨_, rfl⟩, by decide +kernel, smallE' (by omega), _, .str w, rfl, atI_some (by decide) (by rw [e]; rfl), ⟨_, rfl⟩, ?_⟩
  show _ ∧ _
  refine ⟨by decide +kernel, smallE' (by omega), _, rfl, ?_⟩
  have few := sep_blank.few w
  refine LcB.filt (fun d => match d with | .str z => !z.cps.toList.isEmpty | _ => false) id trivial (by rw [List.length_map]; omega) (fun j d Qd hd q => ?_) (fun j d Qd hd hp q => ?_) ?_
  · obtain ⟨z, hz, rfl⟩ := map_get hd
    have hzl : z.length ≤ 100000 := Nat.le_trans (sep_blank.short (List.mem_of_getElem? hz)) hw
    exact ⟨smallE (by omega), q⟩
  · exact q
  · have ef : (((Txt.split w " ").map D.str).filter fun d => match d with | .str z => !z.cps.toList.isEmpty | _ => false).map id = (wordsOf s).map .str := by
      unfold wordsOf
      rw [e, List.map_id, List.filter_map]
      rfl
    rw [ef]
    exact GhQ.self h
/-! colours_of -/
theorem drop_cut (xs : List D) (k : Nat) : cutD xs (some (k : Int)) none = xs.drop k := by
  unfold cutD
  rw [HT.sIx_nat, HT.sIx_none, List.take_of_length_le (by rw [List.length_drop]; omega)]
  by_cases h : k ≤ xs.length
  · rw [Nat.min_eq_left h]
  · rw [Nat.min_eq_right (by omega), List.drop_length, List.drop_of_length_le (by omega)]
theorem cntD_nodup (xs : List Str) : ∀ i, i ≤ xs.length → (LS.cntD xs i = i ↔ (xs.take i).Nodup)
  | 0, _ => by simp [LS.cntD]
  | i + 1, hi => by
    have ih := cntD_nodup xs i (by omega)
    have le := LS.cntD_le xs i
    have hlt : i < xs.length := hi
    have g : xs.getD i Str.empty = xs[i] := by simp [List.getD, hlt]
    rw [List.take_succ_eq_append_getElem hlt, List.nodup_append]
    unfold LS.cntD
    rw [g, any_in]
    by_cases hin : xs[i] ∈ xs.take i
    · rw [if_pos (decide_eq_true hin)]
      refine ⟨fun e => by omega, fun ⟨_, _, h⟩ => absurd rfl (h _ hin _ (by simp))⟩
    · rw [if_neg (by simp only [decide_eq_true_eq]; exact hin)]
      refine ⟨fun e => ⟨ih.mp (by omega), by simp, fun a ha b hb q => ?_⟩, fun ⟨h, _, _⟩ => by rw [ih.mpr h]⟩
      rw [List.mem_singleton.mp hb] at q
      exact hin (q ▸ ha)
theorem cnt_less (xs : List Str) : decide ((LS.cntD xs xs.length : Int) < xs.length) = !decide xs.Nodup := by
  have h := cntD_nodup xs xs.length (Nat.le_refl _)
  have le := LS.cntD_le xs xs.length
  rw [List.take_length] at h
  by_cases n : xs.Nodup
  · rw [decide_eq_true n, h.mpr n]; simp
  · have : LS.cntD xs xs.length ≠ xs.length := fun e => n (h.mp e)
    rw [decide_eq_false n, Bool.not_false, decide_eq_true_eq]
    omega
theorem rd_colours_of : ∀ ds μ Q, P_colours_of ds μ Q → td_colours_of { nx := fun _ μ' => GhQ Q .non μ', rt := GhQ Q } (startD N_colours_of ds) μ := by
  rintro ds μ Q ⟨ws, rfl, ⟨hl, hs⟩, h⟩
  unfold td_colours_of N_colours_of
  walk_at "dd"
  have ec : cutD (ws.map D.str) (some 1) none = (ws.drop 1).map .str := by
    have := drop_cut (ws.map D.str) 1
    rw [List.map_drop]; exact this
  refine ⟨_, rfl, ?_⟩
  rw [ec]
  refine ⟨_, rfl, ?_⟩
  rw [List.length_map]
  have hd : ∀ w ∈ ws.drop 1, w.length ≤ 1000000 := fun w hw => hs w (List.mem_of_mem_drop hw)
  unfold coloursOf at h
  generalize ws.drop 1 = ns at h hd ⊢
  have non : (¬ ((1 ≤ ns.length ∧ ns.length ≤ 6) ∧ ns.Nodup ∧ ns.all isNameB = true)) → Q .non μ := fun n => by rw [if_neg n] at h; exact h
  by_cases h1 : 1 ≤ ns.length
  · rw [if_pos (by exact decide_eq_true (by omega : (1 : Int) ≤ ns.length))]
    by_cases h6 : ns.length ≤ 6
    · rw [if_neg (by simp; omega)]
      unfold dLenSet
      walk_at "dd"
      refine ⟨ns, rfl, by omega, _, rfl, ?_⟩
      rw [List.length_map]
      show if decide ((LS.cntD ns ns.length : Int) < ns.length) = true then _ else _
      rw [cnt_less]
      by_cases nd : ns.Nodup
      · rw [if_neg (by simp [nd])]
        refine ⟨_, rfl, LcB.pure (fun d => match d with | .str z => .bl (isNameB z) | d => d) trivial (by rw [List.length_map]; omega) (fun j d Qd hd' q => ?_) ?_⟩
        · obtain ⟨z, hz, rfl⟩ := map_get hd'
          exact ⟨z, rfl, hd z (List.mem_of_getElem? hz), q⟩
        · have e : (ns.map D.str).map (fun d => match d with | .str z => D.bl (isNameB z) | d => d) = (ns.map isNameB).map D.bl := by rw [List.map_map, List.map_map]; rfl
          rw [e]
          refine ⟨_, rfl, trivial, ?_⟩
          rw [List.all_map]
          show if (!(ns.all isNameB)) = true then _ else _
          cases ha : ns.all isNameB with
          | true =>
            rw [if_pos ⟨⟨h1, h6⟩, nd, ha⟩] at h
            exact ⟨_, rfl, GhQ.self h⟩
          | false => exact GhQ.self (non fun n => by rw [ha] at n; exact Bool.noConfusion n.2.2)
      · rw [if_pos (by simp [nd])]
        exact GhQ.self (non fun n => nd n.2.1)
    · rw [if_pos (by simp; omega)]
      exact GhQ.self (non fun n => h6 n.1.2)
  · rw [if_neg (by simp; omega), if_pos (by rfl)]
    exact GhQ.self (non fun n => h1 n.1.1)
/-! kind_of, lamp_of, sight_of -/
theorem isNon_num (o : Option Nat) : isNon (numD o) = o.isNone := by cases o <;> rfl
theorem kindOf_none {ws : List Str} (h : ws.length ≠ 3) : kindOf ws = none := by
  unfold kindOf
  split
  · exact absurd rfl h
  · rfl
theorem lampOf_none {cs ws : List Str} (h : ws.length ≠ 4) : lampOf cs ws = none := by
  unfold lampOf
  split
  · exact absurd rfl h
  · rfl
theorem three {ws : List Str} (h : ws.length = 3) : ∃ a b c, ws = [a, b, c] := by
  match ws, h with
  | [a, b, c], _ => exact ⟨a, b, c, rfl⟩
theorem four {ws : List Str} (h : ws.length = 4) : ∃ a b c d, ws = [a, b, c, d] := by
  match ws, h with
  | [a, b, c, d], _ => exact ⟨a, b, c, d, rfl⟩
theorem rd_kind_of : ∀ ds μ Q, P_kind_of ds μ Q → td_kind_of { nx := fun _ μ' => GhQ Q .non μ', rt := GhQ Q } (startD N_kind_of ds) μ := by
  rintro ds μ Q ⟨ws, rfl, ⟨hl, hs⟩, h⟩
  unfold td_kind_of N_kind_of
  walk_at "dd"
  refine ⟨_, rfl, ?_⟩
  rw [List.length_map]
  by_cases h3 : ws.length = 3
  · obtain ⟨a, k, t, rfl⟩ := three h3
    rw [if_neg (by simp)]
    have hk := hs k (by simp)
    refine ⟨_, .str k, rfl, rfl, k, rfl, hk, ?_⟩
    show True ∧ (if (!isNameB k) = true then _ else _)
    refine ⟨trivial, ?_⟩
    cases hn : isNameB k with
    | false =>
      have e : kindOf [a, k, t] = none := by show (if isNameB k = true then _ else _) = _; rw [hn]; rfl
      rw [e] at h
      exact GhQ.self h
    | true =>
      have e : kindOf [a, k, t] = (numOf t 16).map fun n => (k, n) := by show (if isNameB k = true then _ else _) = _; rw [hn]; rfl
      rw [e] at h
      refine ⟨_, .str t, rfl, rfl, t, 16, rfl, by decide, by decide, ?_⟩
      show if isNon (numD (numOf t 16)) = true then GhQ Q D.non μ else _
      cases hm : numOf t 16 with
      | none => rw [hm] at h; exact GhQ.self h
      | some n =>
        rw [hm] at h
        refine ⟨_, .str k, rfl, rfl, by show 2 ≤ sizeLine; decide, GhQ.self ?_⟩
        show Q (D.tup [D.str k, numD (numOf t 16)]) μ
        rw [hm]; exact h
  · rw [if_pos (by simp; omega)]
    rw [kindOf_none h3] at h
    exact GhQ.self h
theorem rd_lamp_of : ∀ ds μ Q, P_lamp_of ds μ Q → td_lamp_of { nx := fun _ μ' => GhQ Q .non μ', rt := GhQ Q } (startD N_lamp_of ds) μ := by
  rintro ds μ Q ⟨ws, cs, rfl, ⟨hl, hs⟩, h⟩
  unfold td_lamp_of N_lamp_of
  walk_at "dd"
  refine ⟨_, rfl, ?_⟩
  rw [List.length_map]
  by_cases h4 : ws.length = 4
  · obtain ⟨x, c, a, b, rfl⟩ := four h4
    rw [if_neg (by simp)]
    refine ⟨_, .str c, rfl, rfl, cs.map .str, rfl, rfl, by rw [List.all_map]; exact List.all_eq_true.mpr fun _ _ => rfl, ?_⟩
    rw [inD_strs]
    show if (if true = true then !decide (c ∈ cs) else decide (c ∈ cs)) = true then GhQ Q D.non μ else _
    rw [if_pos (rfl : true = true)]
    have e : lampOf cs [x, c, a, b] = if c ∈ cs then (match numOf a 31, numOf b 31 with
      | some x, some y => some (c, (x : Int), (y : Int))
      | _, _ => none) else none := rfl
    rw [e] at h
    by_cases hc : c ∈ cs
    · rw [if_neg (by simp [hc])]
      rw [if_pos hc] at h
      refine ⟨_, .str a, rfl, rfl, a, 31, rfl, by decide, by decide, ?_⟩
      refine ⟨_, .str b, rfl, rfl, b, 31, rfl, by decide, by decide, ?_⟩
      show if isNon (numD (numOf a 31)) = true then GhQ Q D.non μ else if isNon (numD (numOf b 31)) = true then GhQ Q D.non μ else _
      cases ha : numOf a 31 with
      | none => rw [ha] at h; exact GhQ.self h
      | some m =>
        cases hb : numOf b 31 with
        | none => rw [ha, hb] at h; exact GhQ.self h
        | some n =>
          rw [ha, hb] at h
          refine ⟨_, .str c, rfl, rfl, by show 3 ≤ sizeLine; decide, GhQ.self ?_⟩
          show Q (D.tup [D.str c, numD (numOf a 31), numD (numOf b 31)]) μ
          rw [ha, hb]; exact h
    · rw [if_pos (by simp [hc])]
      rw [if_neg hc] at h
      exact GhQ.self h
  · rw [if_pos (by simp; omega)]
    rw [lampOf_none h4] at h
    exact GhQ.self h
theorem sightOf_few {cs ws : List Str} (h : ¬ (3 ≤ ws.length ∧ ws.length ≤ 9)) : sightOf cs ws = none := by
  unfold sightOf
  split
  · rw [if_neg (by simp only [List.length_cons] at h; omega)]
  · rfl
theorem rd_sight_of : ∀ ds μ Q, P_sight_of ds μ Q → td_sight_of { nx := fun _ μ' => GhQ Q .non μ', rt := GhQ Q } (startD N_sight_of ds) μ := by
  rintro ds μ Q ⟨ws, cs, rfl, ⟨hl, hs⟩, h⟩
  unfold td_sight_of N_sight_of
  walk_at "dd"
  refine ⟨_, rfl, ?_⟩
  rw [List.length_map]
  by_cases hfew : 3 ≤ ws.length ∧ ws.length ≤ 9
  · obtain ⟨f1, f2⟩ := hfew
    rw [if_pos (by exact decide_eq_true (by omega : (3 : Int) ≤ ws.length)), if_neg (by simp; omega)]
    obtain ⟨w0, wm, wp, col, rfl⟩ : ∃ a b c r, ws = a :: b :: c :: r := by
      match ws, f1 with
      | a :: b :: c :: r, _ => exact ⟨a, b, c, r, rfl⟩
    have f3 : col.length ≤ 6 := by simp only [List.length_cons] at f2; omega
    have e : sightOf cs (w0 :: wm :: wp :: col) = if col.length ≤ 6 then (match numOf wm 99, numOf wp 31 with
      | some x, some y => if col.all (fun c => decide (c ∈ cs)) = true then some ((x : Int), (y : Int), col) else none
      | _, _ => none) else none := rfl
    rw [e, if_pos f3] at h
    refine ⟨_, .str wm, rfl, atI_some (by decide) rfl, wm, 99, rfl, by decide, by decide, ?_⟩
    refine ⟨_, .str wp, rfl, atI_some (by decide) rfl, wp, 31, rfl, by decide, by decide, _, rfl, ?_⟩
    have ec : cutD ((w0 :: wm :: wp :: col).map D.str) (some 3) none = col.map .str := drop_cut ((w0 :: wm :: wp :: col).map D.str) 3
    rw [ec]
    refine ⟨_, rfl, ?_⟩
    show if isNon (numD (numOf wm 99)) = true then GhQ Q D.non μ else if isNon (numD (numOf wp 31)) = true then GhQ Q D.non μ else _
    cases ha : numOf wm 99 with
    | none => rw [ha] at h; exact GhQ.self h
    | some m =>
      cases hb : numOf wp 31 with
      | none => rw [ha, hb] at h; exact GhQ.self h
      | some n =>
        rw [ha, hb] at h
        refine ⟨_, rfl, LcB.pure (fun d => match d with | .str z => .bl (decide (z ∈ cs)) | d => d) trivial (by rw [List.length_map]; omega) (fun j d Qd hd' q => ?_) ?_⟩
        · obtain ⟨z, hz, rfl⟩ := map_get hd'
          refine ⟨cs.map .str, rfl, rfl, by rw [List.all_map]; exact List.all_eq_true.mpr fun _ _ => rfl, ?_⟩
          rw [inD_strs]
          exact q
        · have e2 : (col.map D.str).map (fun d => match d with | .str z => D.bl (decide (z ∈ cs)) | d => d) = (col.map fun z => decide (z ∈ cs)).map D.bl := by rw [List.map_map, List.map_map]; rfl
          rw [e2]
          refine ⟨_, rfl, trivial, ?_⟩
          rw [List.all_map]
          show if (!(col.all fun z => decide (z ∈ cs))) = true then GhQ Q D.non μ else _
          cases hall : col.all fun z => decide (z ∈ cs) with
          | false => rw [hall] at h; exact GhQ.self h
          | true =>
            rw [hall] at h
            refine ⟨by show 3 ≤ sizeLine; decide, GhQ.self ?_⟩
            show Q (D.tup [numD (numOf wm 99), numD (numOf wp 31), D.tup (col.map .str)]) μ
            rw [ha, hb]; exact h
  · have hq : GhQ Q D.non μ := by rw [sightOf_few hfew] at h; exact GhQ.self h
    by_cases f1 : 3 ≤ ws.length
    · rw [if_pos (by exact decide_eq_true (by omega : (3 : Int) ≤ ws.length)), if_pos (by simp; omega)]
      exact hq
    · rw [if_neg (by simp; omega), if_pos (by rfl)]
      exact hq
end DL
set_option Elab.async false
set_option linter.all false
set_option maxRecDepth 100000
set_option maxHeartbeats 1000001
namespace DL
open PySem L2 TL
local macro_rules | `(tactic| walk_at "dd") => `(tactic| try simp only [dSeq, dAsg, dgName, dgTup, dgSub, dOp, dVar, dC, dAdd, dSub, dMul, dMod, dFDiv, dPow, dCmp, dNeg, dEqn, dIsN, dIx, dTup, dLst, dConsA, dNilA, dCB, dCall, dRet, dRetN, dDrop, dIfS, dNext, dBreak, dCont, dTest, dTru, dAndT, dOrT, dNotT, dAndV, dOrV, dNotV, dIf, dChain, dDGet, dDPut, dM1, dM0, dJoin, dSplit, dUpper, dBML, dAppend, dInsert, dPopAt, dLen, dInt, dStr, dTupOf, dListOf, dMax2, dSum, dAll, dSl, dPart, dNoPart, newLst, keyD, dFor, dLc, diSeq, diRng1, diRng2, diEnum, diEnumS, diStr,
  startD, setAll, wipeD, List.map_cons, List.map_nil, List.length_cons, List.length_nil, List.replicate, List.cons_append, List.nil_append, List.getElem?_cons_zero, List.getElem?_cons_succ, List.set_cons_zero, List.set_cons_succ, Nat.reduceAdd, Nat.reduceSub, Bool.false_eq_true, if_true, if_false, ite_true, ite_false, reduceIte])
local macro_rules | `(tactic| walk_at "cm") => `(tactic| first | exact .inl ⟨by omega, by omega⟩ | exact .inr ⟨by omega, by omega⟩ | exact ⟨by omega, by omega⟩ | omega | decide)
local macro_rules | `(tactic| walk_at "dm") => `(tactic| try simp only [dFld, dMeth, dsFld, lookD, putFD, if_true, if_false, reduceIte])
/-! ### the draft -/
theorem truD_obj {μ : Mu} {a : Addr} {xs : List D} (h : μ a = some (.lst xs)) : truD μ (.obj a) = some (!xs.isEmpty) := by
  show (match μ a with
    | some (.lst xs) => some (!xs.isEmpty)
    | _ => none) = _
  rw [h]
theorem snoc_or {α : Type} (l : List α) : l = [] ∨ ∃ a b, l = a ++ [b] := by
  rcases List.eq_nil_or_concat l with h | ⟨a, b, h⟩
  · exact .inl h
  · exact .inr ⟨a, b, by rw [h, List.concat_eq_append]⟩
theorem n_ck : ¬ ("_colours" : Str) = "_kinds" := by decide +kernel
theorem n_cs : ¬ ("_colours" : Str) = "_sights" := by decide +kernel
theorem n_ks : ¬ ("_kinds" : Str) = "_sights" := by decide +kernel
def drF (cs : List Str) (kk ss : Addr) : List (Str × D) := [("_colours", .tup (cs.map .str)), ("_kinds", .obj kk), ("_sights", .obj ss)]
theorem look_c {cs kk ss} : lookD "_colours" (drF cs kk ss) = some (.tup (cs.map .str)) := by unfold drF lookD; rw [if_pos rfl]
theorem look_k {cs kk ss} : lookD "_kinds" (drF cs kk ss) = some (.obj kk) := by unfold drF lookD; rw [if_neg n_ck]; unfold lookD; rw [if_pos rfl]
theorem look_s {cs kk ss} : lookD "_sights" (drF cs kk ss) = some (.obj ss) := by unfold drF lookD; rw [if_neg n_cs]; unfold lookD; rw [if_neg n_ks]; unfold lookD; rw [if_pos rfl]
theorem look_no {cs kk ss} {m : Str} (h1 : ¬ ("_colours" : Str) = m) (h2 : ¬ ("_kinds" : Str) = m) (h3 : ¬ ("_sights" : Str) = m) : lookD m (drF cs kk ss) = none := by
  unfold drF lookD; rw [if_neg h1]; unfold lookD; rw [if_neg h2]; unfold lookD; rw [if_neg h3]; rfl
theorem putF_c {cs cs2 kk ss} : putFD "_colours" (.tup (cs2.map .str)) (drF cs kk ss) = drF cs2 kk ss := by unfold drF putFD; rw [if_pos rfl]
theorem putF_1 {d : D} : putFD "_colours" d [] = [(("_colours" : Str), d)] := rfl
theorem putF_2 {d e : D} : putFD "_kinds" e [(("_colours" : Str), d)] = [(("_colours" : Str), d), (("_kinds" : Str), e)] := by unfold putFD; rw [if_neg n_ck]; rfl
theorem putF_3 {d e f : D} : putFD "_sights" f [(("_colours" : Str), d), (("_kinds" : Str), e)] = [(("_colours" : Str), d), (("_kinds" : Str), e), (("_sights" : Str), f)] := by unfold putFD; rw [if_neg n_cs]; unfold putFD; rw [if_neg n_ks]; rfl
theorem atI_last (xs : List D) (x : D) : atI (xs ++ [x]) (-1) = some x := by
  have e : ixN (xs ++ [x]).length (-1) = some xs.length := by
    unfold ixN
    rw [if_neg (by decide), if_pos (by rw [List.length_append, List.length_singleton]; omega), List.length_append, List.length_singleton]
    congr 1
    omega
  unfold atI
  rw [e]
  simp
theorem kindsAt_len {ks : List Kind} {las : List Addr} (h : las.length = ks.length) : (kindsAt ks las).length = ks.length := by unfold kindsAt; rw [List.length_zipWith]; omega
theorem kindsAt_app {ks : List Kind} {k : Kind} {las : List Addr} {la : Addr} (h : las.length = ks.length) : kindsAt (ks ++ [k]) (las ++ [la]) = kindsAt ks las ++ [.tup [.str k.1, .int k.2.1, .obj la]] := by
  unfold kindsAt
  rw [List.zipWith_append h.symm]
  rfl
/-- the last kind and its list -/
theorem DraftAt.last {Draft a kk ss : Addr} {las : List Addr} {d : Dr} {μ : Mu} (st : DraftAt Draft a kk ss las d μ) {k0 : List Kind} {k : Kind} (e : d.ks = k0 ++ [k]) : ∃ l0 la, las = l0 ++ [la] ∧ l0.length = k0.length ∧ kindsAt d.ks las = kindsAt k0 l0 ++ [.tup [.str k.1, .int k.2.1, .obj la]] ∧ μ la = some (.lst (k.2.2.map lampD)) := by
  have hl := st.many
  rw [e, List.length_append, List.length_singleton] at hl
  rcases snoc_or las with z | ⟨l0, la, z⟩
  · rw [z] at hl; simp at hl
  · have h0 : l0.length = k0.length := by rw [z] at hl; simpa using hl
    refine ⟨l0, la, z, h0, by rw [e, z, kindsAt_app h0], ?_⟩
    refine st.lamps k0.length k la (by rw [e]; simp) (by rw [z, ← h0]; simp)
theorem lacks_nil {d : Dr} (e : d.ks = []) : lacksB d = true := by unfold lacksB; rw [e]; rfl
theorem lacks_app {d : Dr} {k0 : List Kind} {k : Kind} (e : d.ks = k0 ++ [k]) : lacksB d = k.2.2.isEmpty := by unfold lacksB; rw [e, List.getLast?_concat]
theorem rd_Draft___init__ {Draft : Addr} : ∀ ds μ Q, P_Draft___init__ Draft ds μ Q → td_Draft___init__ Draft { nx := fun _ μ' => GhQ Q .non μ', rt := GhQ Q } (startD N_Draft___init__ ds) μ := by
  rintro ds μ Q ⟨a, rfl, ha, h⟩
  unfold td_Draft___init__ N_Draft___init__
  walk_at "dd"
  unfold dsFld
  walk_at "dd"
  refine ⟨Nat.zero_le _, _, ha, by decide, Nat.zero_le _, fun kk hkk => ?_⟩
  rw [putF_1] at hkk ⊢
  have ak : a ≠ kk := fun e => by rw [← e, put_same] at hkk; cases hkk
  have hk0 : μ kk = none := by rw [put_ne (Ne.symm ak)] at hkk; exact hkk
  refine ⟨_, (put_ne ak).trans put_same, by simp, Nat.zero_le _, fun ss hss => ?_⟩
  rw [putF_2] at hss ⊢
  have as_ : a ≠ ss := fun e => by rw [← e, put_same] at hss; cases hss
  have ks_ : kk ≠ ss := fun e => by rw [← e, put_ne (Ne.symm ak), put_same] at hss; cases hss
  have hs0 : μ ss = none := by rw [put_ne (Ne.symm as_), put_ne (Ne.symm ks_), put_ne (Ne.symm as_)] at hss; exact hss
  refine ⟨_, (put_ne as_).trans put_same, by simp, GhQ.self (h kk ss _ hk0 hs0 ks_ ?_)⟩
  rw [putF_3]
  funext b
  unfold put
  by_cases e1 : b = a
  · simp [e1]
  · by_cases e2 : b = ss
    · simp [e1, e2]
    · by_cases e3 : b = kk
      · simp [e3, ks_, Ne.symm ak]
      · simp [e1, e2, e3]
theorem rd_Draft_lacks {Draft : Addr} : ∀ ds μ Q, P_Draft_lacks Draft ds μ Q → td_Draft_lacks Draft { nx := fun _ μ' => GhQ Q .non μ', rt := GhQ Q } (startD N_Draft_lacks ds) μ := by
  rintro ds μ Q ⟨a, kk, ss, las, d, rfl, st, h⟩
  unfold td_Draft_lacks N_Draft_lacks dFld
  walk_at "dd"
  refine ⟨_, _, st.it, look_k, trivial, ?_⟩
  have ht : truD μ (.obj kk) = some (!(kindsAt d.ks las).isEmpty) := truD_obj st.kinds
  rw [ht]
  rcases snoc_or d.ks with e | ⟨k0, k, e⟩
  · rw [lacks_nil e] at h
    have e2 : kindsAt d.ks las = [] := by rw [e]; rfl
    rw [e2]
    exact GhQ.self h
  · obtain ⟨l0, la, el, hl0, ek, hla⟩ := st.last e
    rw [lacks_app e] at h
    have ne : (kindsAt d.ks las).isEmpty = false := by rw [ek]; simp
    rw [ne]
    show if (!(!false)) = true then _ else _
    rw [if_neg (by decide)]
    refine ⟨_, _, st.it, look_k, ?_⟩
    refine ⟨_, .tup [.str k.1, .int k.2.1, .obj la], st.kinds, by rw [ek]; exact atI_last _ _, _, .obj la, rfl, atI_some (by decide) rfl, trivial, ?_⟩
    have ht2 : truD μ (.obj la) = some (!(k.2.2.map lampD).isEmpty) := truD_obj hla
    rw [ht2]
    have e3 : (k.2.2.map lampD).isEmpty = k.2.2.isEmpty := by cases k.2.2 <;> rfl
    rw [e3]
    show GhQ Q (D.bl (!(!k.2.2.isEmpty))) μ
    rw [Bool.not_not]
    exact GhQ.self h
theorem rd_Draft__may_begin_kind {Draft : Addr} : ∀ ds μ Q, P_Draft__may_begin_kind Draft ds μ Q → td_Draft__may_begin_kind Draft { nx := fun _ μ' => GhQ Q .non μ', rt := GhQ Q } (startD N_Draft__may_begin_kind ds) μ := by
  rintro ds μ Q ⟨a, kk, ss, las, d, rfl, st, h⟩
  unfold td_Draft__may_begin_kind N_Draft__may_begin_kind dFld dMeth
  walk_at "dd"
  refine ⟨_, _, st.it, look_c, trivial, ?_⟩
  have t1 : truD μ (.tup (d.cs.map .str)) = some (!d.cs.isEmpty) := by
    show some (!(d.cs.map D.str).isEmpty) = _
    cases d.cs <;> rfl
  rw [t1]
  unfold mayB at h
  show if (!(!d.cs.isEmpty)) = true then GhQ Q (D.bl false) μ else _
  cases c1 : d.cs.isEmpty with
  | true => rw [c1] at h; exact GhQ.self h
  | false =>
    rw [c1] at h
    rw [if_neg (by decide)]
    refine ⟨_, _, st.it, look_s, trivial, ?_⟩
    rw [truD_obj st.sights]
    have e2 : (d.ss.map sightD).isEmpty = d.ss.isEmpty := by cases d.ss <;> rfl
    rw [e2]
    show if (!d.ss.isEmpty) = true then GhQ Q (D.bl false) μ else _
    cases c2 : d.ss.isEmpty with
    | false => rw [c2] at h; exact GhQ.self h
    | true =>
      rw [c2] at h
      rw [if_neg (by decide)]
      refine ⟨_, _, st.it, look_k, trivial, ?_⟩
      rw [truD_obj st.kinds]
      have e3 : (kindsAt d.ks las).isEmpty = d.ks.isEmpty := by
        have := kindsAt_len st.many
        rw [Bool.eq_iff_iff, List.isEmpty_iff_length_eq_zero, List.isEmpty_iff_length_eq_zero, this]
      rw [e3]
      show if (!(!d.ks.isEmpty)) = true then GhQ Q (D.bl true) μ else _
      cases c3 : d.ks.isEmpty with
      | true => rw [c3] at h; exact GhQ.self h
      | false =>
        rw [c3] at h
        rw [if_neg (by decide)]
        refine ⟨⟨_, st.it, look_no (by decide +kernel) (by decide +kernel) (by decide +kernel)⟩, a, kk, ss, las, d, rfl, st, trivial, ?_⟩
        show if (!lacksB d) = true then _ else _
        cases c4 : lacksB d with
        | true => rw [c4] at h; exact GhQ.self h
        | false =>
          rw [c4] at h
          rw [if_pos (by decide)]
          refine ⟨_, _, st.it, look_k, _, st.kinds, ?_⟩
          rw [kindsAt_len st.many]
          refine GhQ.self ?_
          have e4 : decide ((d.ks.length : Int) < 6) = decide (d.ks.length < 6) := by rw [decide_eq_decide]; omega
          show Q (.bl (decide ((d.ks.length : Int) < 6))) μ
          rw [e4]
          simpa using h
section
variable {Draft a kk ss : Addr} {las : List Addr} {d : Dr} {μ : Mu}
theorem DraftAt.ak (st : DraftAt Draft a kk ss las d μ) : a ≠ kk := fun e => by have := st.it; rw [e, st.kinds] at this; cases this
theorem DraftAt.as_ (st : DraftAt Draft a kk ss las d μ) : a ≠ ss := fun e => by have := st.it; rw [e, st.sights] at this; cases this
theorem DraftAt.ks_ (st : DraftAt Draft a kk ss las d μ) : kk ≠ ss := fun e => by
  have := st.apart
  rw [e] at this
  simp at this
theorem DraftAt.inLas (st : DraftAt Draft a kk ss las d μ) {la : Addr} (h : la ∈ las) : ∃ xs, μ la = some (.lst xs) := by
  obtain ⟨i, hi, rfl⟩ := List.mem_iff_getElem.mp h
  have hk : i < d.ks.length := by rw [← st.many]; exact hi
  exact ⟨_, st.lamps i d.ks[i] las[i] (by simp [hk]) (by simp [hi])⟩
theorem DraftAt.al (st : DraftAt Draft a kk ss las d μ) {la : Addr} (h : la ∈ las) : la ≠ a := fun e => by
  obtain ⟨xs, hx⟩ := st.inLas h
  rw [e, st.it] at hx; cases hx
theorem DraftAt.kl (st : DraftAt Draft a kk ss las d μ) {la : Addr} (h : la ∈ las) : la ≠ kk ∧ la ≠ ss := by
  have n := st.apart
  rw [List.nodup_cons, List.nodup_cons] at n
  exact ⟨fun e => n.1 (List.mem_cons_of_mem _ (e ▸ h)), fun e => n.2.1 (e ▸ h)⟩
/-- other colours -/
theorem DraftAt.setC (st : DraftAt Draft a kk ss las d μ) {ns : List Str} (h : ns.length ≤ 6) : DraftAt Draft a kk ss las { d with cs := ns } (put μ a (.ins Draft (drF ns kk ss))) where
  it := put_same
  kinds := (put_ne (Ne.symm st.ak)).trans st.kinds
  sights := (put_ne (Ne.symm st.as_)).trans st.sights
  many := st.many
  lamps := fun i k la h1 h2 => (put_ne (st.al (List.mem_of_getElem? h2))).trans (st.lamps i k la h1 h2)
  apart := st.apart
  ok := ⟨h, st.ok.k, st.ok.l, st.ok.s⟩
/-- a further sight -/
theorem DraftAt.addS (st : DraftAt Draft a kk ss las d μ) {s : Sight} (h : d.ss.length < 60) : DraftAt Draft a kk ss las { d with ss := d.ss ++ [s] } (put μ ss (.lst (d.ss.map sightD ++ [sightD s]))) where
  it := (put_ne st.as_).trans st.it
  kinds := (put_ne st.ks_).trans st.kinds
  sights := by rw [put_same, List.map_append]; rfl
  many := st.many
  lamps := fun i k la h1 h2 => (put_ne (st.kl (List.mem_of_getElem? h2)).2).trans (st.lamps i k la h1 h2)
  apart := st.apart
  ok := ⟨st.ok.c, st.ok.k, st.ok.l, by rw [List.length_append, List.length_singleton]; omega⟩
/-- a further kind -/
theorem DraftAt.addK (st : DraftAt Draft a kk ss las d μ) {k : Str} {t : Int} {p : Addr} (hp : μ p = none) (h : d.ks.length < 6) :
    DraftAt Draft a kk ss (las ++ [p]) { d with ks := d.ks ++ [(k, t, [])] } (put (put μ p (.lst [])) kk (.lst (kindsAt d.ks las ++ [.tup [.str k, .int t, .obj p]]))) := by
  have pa : a ≠ p := fun e => by rw [← e, st.it] at hp; cases hp
  have pk : kk ≠ p := fun e => by rw [← e, st.kinds] at hp; cases hp
  have ps : ss ≠ p := fun e => by rw [← e, st.sights] at hp; cases hp
  have pl : p ∉ las := fun q => by
    obtain ⟨xs, hx⟩ := st.inLas q
    rw [hp] at hx; cases hx
  refine ⟨?_, ?_, ?_, ?_, ?_, ?_, ?_⟩
  · rw [put_ne st.ak, put_ne pa]; exact st.it
  · rw [put_same, kindsAt_app st.many]
  · rw [put_ne (Ne.symm st.ks_), put_ne ps]; exact st.sights
  · rw [List.length_append, List.length_append, st.many]; rfl
  · intro i k' la h1 h2
    rcases Nat.lt_or_ge i d.ks.length with lt | ge
    · have e1 : d.ks[i]? = some k' := by rw [List.getElem?_append_left lt] at h1; exact h1
      have e2 : las[i]? = some la := by rw [List.getElem?_append_left (by rw [st.many]; exact lt)] at h2; exact h2
      have hm := List.mem_of_getElem? e2
      rw [put_ne (st.kl hm).1, put_ne (fun e : la = p => pl (e ▸ hm))]
      exact st.lamps i k' la e1 e2
    · rw [List.getElem?_append_right ge] at h1
      rw [List.getElem?_append_right (by rw [st.many]; exact ge), st.many] at h2
      have z : i - d.ks.length = 0 := by
        have := (List.getElem?_eq_some_iff.mp h1).1
        simp at this; omega
      rw [z] at h1 h2
      cases h1; cases h2
      rw [put_ne (Ne.symm pk), put_same]
      rfl
  · have n := st.apart
    rw [← List.cons_append, ← List.cons_append, List.nodup_append]
    refine ⟨n, by simp, fun x hx y hy => ?_⟩
    rw [List.mem_singleton.mp hy]
    rcases List.mem_cons.mp hx with rfl | hx
    · exact pk
    rcases List.mem_cons.mp hx with rfl | hx
    · exact ps
    · exact fun e => pl (e ▸ hx)
  · refine ⟨st.ok.c, by rw [List.length_append, List.length_singleton]; omega, fun x hx => ?_, st.ok.s⟩
    rcases List.mem_append.mp hx with hx | hx
    · exact st.ok.l x hx
    · rw [List.mem_singleton.mp hx]; exact Nat.zero_le _
/-- a further lamp of the last kind -/
theorem DraftAt.addL (st : DraftAt Draft a kk ss las d μ) {k0 : List Kind} {k : Kind} {l0 : List Addr} {la : Addr} {l : Lamp} (e : d.ks = k0 ++ [k]) (el : las = l0 ++ [la]) (hl : l0.length = k0.length) (h : k.2.2.length < 6) :
    DraftAt Draft a kk ss las { d with ks := k0 ++ [addLamp l k] } (put μ la (.lst (k.2.2.map lampD ++ [lampD l]))) := by
  have hin : la ∈ las := by rw [el]; simp
  have n := st.apart
  have nla : la ∉ l0 := by
    rw [el, List.nodup_cons, List.nodup_cons, List.nodup_append] at n
    exact fun q => n.2.2.2.2 la q la (by simp) rfl
  refine ⟨(put_ne (Ne.symm (st.al hin))).trans st.it, ?_, (put_ne (Ne.symm (st.kl hin).2)).trans st.sights, ?_, ?_, st.apart, ?_⟩
  · rw [put_ne (Ne.symm (st.kl hin).1), st.kinds, e, el, kindsAt_app hl, kindsAt_app hl]; rfl
  · rw [el, List.length_append, List.length_append, hl]; rfl
  · intro i k' b h1 h2
    rcases Nat.lt_or_ge i k0.length with lt | ge
    · have e1 : k0[i]? = some k' := by rw [List.getElem?_append_left lt] at h1; exact h1
      have e2 : l0[i]? = some b := by rw [el, List.getElem?_append_left (by rw [hl]; exact lt)] at h2; exact h2
      have hm := List.mem_of_getElem? e2
      rw [put_ne (fun q : b = la => nla (q ▸ hm))]
      exact st.lamps i k' b (by rw [e, List.getElem?_append_left lt]; exact e1) (by rw [el, List.getElem?_append_left (by rw [hl]; exact lt)]; exact e2)
    · rw [List.getElem?_append_right ge] at h1
      rw [el, List.getElem?_append_right (by rw [hl]; exact ge), hl] at h2
      have z : i - k0.length = 0 := by
        have := (List.getElem?_eq_some_iff.mp h1).1
        simp at this; omega
      rw [z] at h1 h2
      cases h1; cases h2
      rw [put_same]
      unfold addLamp
      rw [List.map_append]; rfl
  · have okk := st.ok.k
    rw [e, List.length_append, List.length_singleton] at okk
    refine ⟨st.ok.c, by rw [List.length_append, List.length_singleton]; exact okk, fun x hx => ?_, st.ok.s⟩
    rcases List.mem_append.mp hx with hx | hx
    · exact st.ok.l x (by rw [e]; exact List.mem_append_left _ hx)
    · rw [List.mem_singleton.mp hx]
      show (k.2.2 ++ [l]).length ≤ 6
      rw [List.length_append, List.length_singleton]; omega
theorem Step.one {las' : List Addr} {b : Addr} {o : MO} (hb : b = a ∨ b = kk ∨ b = ss ∨ b ∈ las) (h : ∀ x ∈ las', x ∈ las) : Step a kk ss las las' μ (put μ b o) := ⟨fun x m n1 n2 n3 n4 e => by
  rw [put_ne]
  · exact e
  · rintro rfl
    rcases hb with z | z | z | z
    · exact n1 z
    · exact n2 z
    · exact n3 z
    · exact n4 z, fun x hx => .inl (h x hx)⟩
end
theorem kindsAt_get {ks : List Kind} {las : List Addr} {j : Nat} {d : D} (h : (kindsAt ks las)[j]? = some d) : ∃ (k : Kind) (la : Addr), d = .tup [.str k.1, .int k.2.1, .obj la] := by
  unfold kindsAt at h
  rw [List.getElem?_zipWith] at h
  cases e1 : ks[j]? with
  | none => rw [e1] at h; cases h
  | some k =>
    cases e2 : las[j]? with
    | none => rw [e1, e2] at h; cases h
    | some la => rw [e1, e2] at h; exact ⟨k, la, (Option.some.inj h).symm⟩
theorem kindsAt_names : ∀ {ks : List Kind} {las : List Addr}, las.length = ks.length → (kindsAt ks las).map (fun d => match d with | .tup (x :: _) => x | d => d) = (ks.map (·.1)).map D.str
  | [], [], _ => rfl
  | k :: ks, la :: las, h => by
    have := kindsAt_names (ks := ks) (las := las) (by simpa using h)
    show D.str k.1 :: (kindsAt ks las).map _ = _
    rw [this]; rfl
theorem coloursOf_len {ws ns : List Str} (h : coloursOf ws = some ns) : ns.length ≤ 6 ∧ ns.Nodup ∧ ns ≠ [] := by
  unfold coloursOf at h
  by_cases c : (1 ≤ (ws.drop 1).length ∧ (ws.drop 1).length ≤ 6) ∧ (ws.drop 1).Nodup ∧ (ws.drop 1).all isNameB = true
  · rw [if_pos c] at h
    cases h
    exact ⟨c.1.2, c.2.1, fun e => by have := c.1.1; rw [e] at this; simp at this⟩
  · rw [if_neg c] at h; cases h
/-- of a step that takes nothing -/
theorem rd_Draft__take_colours {Draft : Addr} : ∀ ds μ Q, P_Draft__take_colours Draft ds μ Q → td_Draft__take_colours Draft { nx := fun _ μ' => GhQ Q .non μ', rt := GhQ Q } (startD N_Draft__take_colours ds) μ := by
  rintro ds μ Q ⟨a, kk, ss, las, d, ws, rfl, hw, hne, st, h0, h1⟩
  unfold td_Draft__take_colours N_Draft__take_colours dFld dsFld
  walk_at "dd"
  refine ⟨ws, rfl, hw, _, _, st.it, look_c, trivial, ?_⟩
  have t1 : truD μ (.tup (d.cs.map .str)) = some (!d.cs.isEmpty) := by
    show some (!(d.cs.map D.str).isEmpty) = _
    cases d.cs <;> rfl
  rw [t1]
  show if (!d.cs.isEmpty) = true then GhQ Q (D.bl false) μ else if isNon (coloursD (coloursOf ws)) = true then GhQ Q (D.bl false) μ else _
  cases hc : d.cs with
  | cons c0 cr =>
    have en : takeC d ws = none := by
      unfold takeC
      cases coloursOf ws with
      | none => rfl
      | some ns => show (if d.cs = [] then _ else none) = none; rw [hc, if_neg (by simp)]
    rw [if_pos (by rfl)]
    exact GhQ.self (h0 en)
  | nil =>
    rw [if_neg (by simp)]
    cases hn : coloursOf ws with
    | none =>
      have en : takeC d ws = none := by unfold takeC; rw [hn]
      exact GhQ.self (h0 en)
    | some ns =>
      have en : takeC d ws = some { d with cs := ns } := by unfold takeC; rw [hn]; exact if_pos hc
      rw [if_neg (by simp [coloursD, isNon])]
      refine ⟨_, st.it, by show 3 < 1000; decide, GhQ.self (h1 _ las _ en ?_ (.one (.inl rfl) fun _ h => h))⟩
      have := st.setC (coloursOf_len hn).1
      rw [← putF_c (cs := d.cs)] at this
      exact this
theorem rd_Draft__take_kind {Draft : Addr} : ∀ ds μ Q, P_Draft__take_kind Draft ds μ Q → td_Draft__take_kind Draft { nx := fun _ μ' => GhQ Q .non μ', rt := GhQ Q } (startD N_Draft__take_kind ds) μ := by
  rintro ds μ Q ⟨a, kk, ss, las, d, ws, rfl, hw, hne, st, h0, h1⟩
  unfold td_Draft__take_kind N_Draft__take_kind dFld dMeth
  walk_at "dd"
  refine ⟨ws, rfl, hw, ?_⟩
  show if isNon (pairD (kindOf ws)) = true then GhQ Q (D.bl false) μ else _
  cases hk : kindOf ws with
  | none =>
    have en : takeK d ws = none := by unfold takeK; rw [hk]
    rw [if_pos (by rfl)]
    exact GhQ.self (h0 en)
  | some p =>
    have en : takeK d ws = if mayB d = true ∧ p.1 ∉ d.ks.map (·.1) then some { d with ks := d.ks ++ [(p.1, (p.2 : Int), [])] } else none := by unfold takeK; rw [hk]
    rw [if_neg (by simp [pairD, isNon])]
    refine ⟨⟨_, st.it, look_no (by decide +kernel) (by decide +kernel) (by decide +kernel)⟩, a, kk, ss, las, d, rfl, st, trivial, ?_⟩
    show if (!mayB d) = true then GhQ Q (D.bl false) μ else _
    cases hm : mayB d with
    | false =>
      rw [if_neg (by rw [hm]; simp)] at en
      exact GhQ.self (h0 en)
    | true =>
      rw [if_neg (by decide)]
      unfold pairD
      walk_at "dd"
      refine ⟨trivial, _, _, st.it, look_k, _, st.kinds, LcB.pure (fun d => match d with | .tup (x :: _) => x | d => d) st.kinds ?_ (fun j d' Qd hd q => ?_) ?_⟩
      · rw [kindsAt_len st.many]; have := st.ok.k; omega
      · obtain ⟨k, la, rfl⟩ := kindsAt_get hd
        exact ⟨_, .str k.1, rfl, rfl, q⟩
      · rw [kindsAt_names st.many]
        refine ⟨(d.ks.map fun k : Kind => k.1).map D.str, rfl, rfl, by rw [List.all_map]; exact List.all_eq_true.mpr fun _ _ => rfl, ?_⟩
        rw [inD_strs]
        show if decide (p.1 ∈ d.ks.map (·.1)) = true then GhQ Q (D.bl false) μ else _
        by_cases hin : p.1 ∈ d.ks.map (·.1)
        · rw [if_pos (decide_eq_true hin)]
          rw [if_neg (by simp only [not_and, Classical.not_not]; exact fun _ => hin)] at en
          exact GhQ.self (h0 en)
        · rw [if_neg (by simp only [decide_eq_true_eq]; exact hin)]
          rw [if_pos ⟨hm, hin⟩] at en
          have six : d.ks.length < 6 := by
            unfold mayB at hm
            rcases hz : d.ks with _ | ⟨k1, kr⟩
            · simp
            · rw [hz] at hm; simp at hm; simpa using hm.2.2.2
          refine ⟨_, _, st.it, look_k, ⟨_, st.kinds⟩, Nat.zero_le _, fun q hq => ⟨by show 3 ≤ sizeLine; decide, _, (put_ne fun e => by rw [← e, st.kinds] at hq; cases hq).trans st.kinds, small (by rw [kindsAt_len st.many]; omega), GhQ.self (h1 _ (las ++ [q]) _ en (st.addK hq six) ⟨fun x m n1 n2 n3 n4 e => ?_, fun x hx => ?_⟩)⟩⟩
          · rw [put_ne n2, put_ne (fun z => by rw [z, hq] at e; cases e)]
            exact e
          · rcases List.mem_append.mp hx with hx | hx
            · exact .inl hx
            · rw [List.mem_singleton.mp hx]; exact .inr hq
theorem rd_Draft__take_lamp {Draft : Addr} : ∀ ds μ Q, P_Draft__take_lamp Draft ds μ Q → td_Draft__take_lamp Draft { nx := fun _ μ' => GhQ Q .non μ', rt := GhQ Q } (startD N_Draft__take_lamp ds) μ := by
  rintro ds μ Q ⟨a, kk, ss, las, d, ws, rfl, hw, hne, st, h0, h1⟩
  unfold td_Draft__take_lamp N_Draft__take_lamp dFld
  walk_at "dd"
  refine ⟨_, _, st.it, look_c, ws, d.cs, rfl, hw, ?_⟩
  show if isNon (lampOD (lampOf d.cs ws)) = true then GhQ Q (D.bl false) μ else _
  cases hk : lampOf d.cs ws with
  | none =>
    have en : takeL d ws = none := by unfold takeL; rw [hk]
    rw [if_pos (by rfl)]
    exact GhQ.self (h0 en)
  | some l =>
    rw [if_neg (by simp [lampOD, lampD, isNon])]
    refine ⟨_, _, st.it, look_k, trivial, ?_⟩
    rw [truD_obj st.kinds]
    rcases snoc_or d.ks with e | ⟨k0, k, e⟩
    · have en : takeL d ws = none := by unfold takeL; rw [hk, e]; rfl
      have e2 : kindsAt d.ks las = [] := by rw [e]; rfl
      rw [e2]
      exact GhQ.self (h0 en)
    · obtain ⟨l0, la, el, hl0, ek, hla⟩ := st.last e
      have en : takeL d ws = if d.ss = [] ∧ k.2.2.length ≠ 6 then some { d with ks := k0 ++ [addLamp l k] } else none := by
        unfold takeL
        rw [hk, e, List.getLast?_concat, List.dropLast_concat]
      have ne : (kindsAt d.ks las).isEmpty = false := by rw [ek]; simp
      rw [ne]
      show if (!(!false)) = true then _ else _
      rw [if_neg (by decide)]
      refine ⟨_, _, st.it, look_s, trivial, ?_⟩
      rw [truD_obj st.sights]
      have e2 : (d.ss.map sightD).isEmpty = d.ss.isEmpty := by cases d.ss <;> rfl
      rw [e2]
      show if (!d.ss.isEmpty) = true then GhQ Q (D.bl false) μ else _
      by_cases hs : d.ss = []
      · rw [if_neg (by simp [hs])]
        refine ⟨_, _, st.it, look_k, ?_⟩
        refine ⟨_, .tup [.str k.1, .int k.2.1, .obj la], st.kinds, by rw [ek]; exact atI_last _ _, _, .obj la, rfl, atI_some (by decide) rfl, _, hla, ?_⟩
        rw [List.length_map]
        show if decide ((k.2.2.length : Int) = 6) = true then GhQ Q (D.bl false) μ else _
        by_cases h6 : k.2.2.length = 6
        · rw [if_pos (by rw [decide_eq_true_eq]; omega)]
          rw [if_neg (fun z => z.2 h6)] at en
          exact GhQ.self (h0 en)
        · rw [if_neg (by rw [decide_eq_true_eq]; omega)]
          rw [if_pos ⟨hs, h6⟩] at en
          have le := st.ok.l k (by rw [e]; simp)
          exact ⟨⟨_, hla⟩, _, hla, small (by rw [List.length_map]; omega), GhQ.self (h1 _ las _ en (st.addL e el hl0 (by omega)) (.one (.inr (.inr (.inr (by rw [el]; simp)))) fun _ h => h))⟩
      · rw [if_pos (by simp [hs])]
        rw [if_neg (fun z => hs z.1)] at en
        exact GhQ.self (h0 en)
theorem rd_Draft__take_sight {Draft : Addr} : ∀ ds μ Q, P_Draft__take_sight Draft ds μ Q → td_Draft__take_sight Draft { nx := fun _ μ' => GhQ Q .non μ', rt := GhQ Q } (startD N_Draft__take_sight ds) μ := by
  rintro ds μ Q ⟨a, kk, ss, las, d, ws, rfl, hw, hne, st, h0, h1⟩
  unfold td_Draft__take_sight N_Draft__take_sight dFld dMeth
  walk_at "dd"
  refine ⟨_, _, st.it, look_c, ws, d.cs, rfl, hw, ?_⟩
  show if isNon (sightOD (sightOf d.cs ws)) = true then GhQ Q (D.bl false) μ else _
  cases hk : sightOf d.cs ws with
  | none =>
    have en : takeS d ws = none := by unfold takeS; rw [hk]
    rw [if_pos (by rfl)]
    exact GhQ.self (h0 en)
  | some x =>
    have en : takeS d ws = if lacksB d = false ∧ d.ss.length ≠ 60 then some { d with ss := d.ss ++ [x] } else none := by unfold takeS; rw [hk]
    rw [if_neg (by simp [sightOD, sightD, isNon])]
    refine ⟨⟨_, st.it, look_no (by decide +kernel) (by decide +kernel) (by decide +kernel)⟩, a, kk, ss, las, d, rfl, st, trivial, ?_⟩
    show if lacksB d = true then GhQ Q (D.bl false) μ else _
    cases hl : lacksB d with
    | true =>
      rw [if_neg (by rw [hl]; simp)] at en
      exact GhQ.self (h0 en)
    | false =>
      rw [if_neg (by decide)]
      refine ⟨_, _, st.it, look_s, _, st.sights, ?_⟩
      rw [List.length_map]
      show if decide ((d.ss.length : Int) = 60) = true then GhQ Q (D.bl false) μ else _
      by_cases h6 : d.ss.length = 60
      · rw [if_pos (by rw [decide_eq_true_eq]; omega)]
        rw [if_neg (fun z => z.2 h6)] at en
        exact GhQ.self (h0 en)
      · rw [if_neg (by rw [decide_eq_true_eq]; omega)]
        rw [if_pos ⟨hl, h6⟩] at en
        have le := st.ok.s
        exact ⟨_, _, st.it, look_s, ⟨_, st.sights⟩, _, st.sights, small (by rw [List.length_map]; omega), GhQ.self (h1 _ las _ en (st.addS (by omega)) (.one (.inr (.inr (.inl rfl))) fun _ h => h))⟩
theorem takeM_cons {d : Dr} {w : Str} {r : List Str} : takeM d (w :: r) = if w = "colours" then takeC d (w :: r) else if w = "kind" then takeK d (w :: r) else if w = "lamp" then takeL d (w :: r) else if w = "sight" then takeS d (w :: r) else none := rfl
theorem rd_Draft_take {Draft : Addr} : ∀ ds μ Q, P_Draft_take Draft ds μ Q → td_Draft_take Draft { nx := fun _ μ' => GhQ Q .non μ', rt := GhQ Q } (startD N_Draft_take ds) μ := by
  rintro ds μ Q ⟨a, kk, ss, las, d, ws, rfl, hw, hne, st, h0, h1⟩
  unfold td_Draft_take N_Draft_take dMeth
  walk_at "dd"
  obtain ⟨w, r, rfl⟩ : ∃ w r, ws = w :: r := by
    cases ws with
    | nil => exact absurd rfl hne
    | cons w r => exact ⟨w, r, rfl⟩
  refine ⟨_, .str w, rfl, atI_some (by decide) rfl, ?_⟩
  have none_ : ∀ {m : Str} {cs kk ss}, (¬ ("_colours" : Str) = m) → (¬ ("_kinds" : Str) = m) → (¬ ("_sights" : Str) = m) → lookD m (drF cs kk ss) = none := fun a b c => look_no a b c
  show if decide (w = "colours") = true then _ else _
  by_cases c1 : w = "colours"
  · rw [if_pos (decide_eq_true c1)]
    have e : takeM d (w :: r) = takeC d (w :: r) := by rw [takeM_cons, if_pos c1]
    rw [e] at h0 h1
    exact ⟨⟨_, st.it, look_no (by decide +kernel) (by decide +kernel) (by decide +kernel)⟩, a, kk, ss, las, d, _, rfl, hw, hne, st, fun z => GhQ.self (h0 z), fun d' l' μ' z s t => GhQ.self (h1 d' l' μ' z s t)⟩
  rw [if_neg (by rw [decide_eq_true_eq]; exact c1)]
  show if decide (w = "kind") = true then _ else _
  by_cases c2 : w = "kind"
  · rw [if_pos (decide_eq_true c2)]
    have e : takeM d (w :: r) = takeK d (w :: r) := by rw [takeM_cons, if_neg c1, if_pos c2]
    rw [e] at h0 h1
    exact ⟨⟨_, st.it, look_no (by decide +kernel) (by decide +kernel) (by decide +kernel)⟩, a, kk, ss, las, d, _, rfl, hw, hne, st, fun z => GhQ.self (h0 z), fun d' l' μ' z s t => GhQ.self (h1 d' l' μ' z s t)⟩
  rw [if_neg (by rw [decide_eq_true_eq]; exact c2)]
  show if decide (w = "lamp") = true then _ else _
  by_cases c3 : w = "lamp"
  · rw [if_pos (decide_eq_true c3)]
    have e : takeM d (w :: r) = takeL d (w :: r) := by rw [takeM_cons, if_neg c1, if_neg c2, if_pos c3]
    rw [e] at h0 h1
    exact ⟨⟨_, st.it, look_no (by decide +kernel) (by decide +kernel) (by decide +kernel)⟩, a, kk, ss, las, d, _, rfl, hw, hne, st, fun z => GhQ.self (h0 z), fun d' l' μ' z s t => GhQ.self (h1 d' l' μ' z s t)⟩
  rw [if_neg (by rw [decide_eq_true_eq]; exact c3)]
  show if decide (w = "sight") = true then _ else _
  by_cases c4 : w = "sight"
  · rw [if_pos (decide_eq_true c4)]
    have e : takeM d (w :: r) = takeS d (w :: r) := by rw [takeM_cons, if_neg c1, if_neg c2, if_neg c3, if_pos c4]
    rw [e] at h0 h1
    exact ⟨⟨_, st.it, look_no (by decide +kernel) (by decide +kernel) (by decide +kernel)⟩, a, kk, ss, las, d, _, rfl, hw, hne, st, fun z => GhQ.self (h0 z), fun d' l' μ' z s t => GhQ.self (h1 d' l' μ' z s t)⟩
  · rw [if_neg (by rw [decide_eq_true_eq]; exact c4)]
    have e : takeM d (w :: r) = none := by rw [takeM_cons, if_neg c1, if_neg c2, if_neg c3, if_neg c4]
    exact GhQ.self (h0 e)
theorem kindsAt_full {ks : List Kind} {las : List Addr} {j : Nat} {d : D} (h : (kindsAt ks las)[j]? = some d) : ∃ (k : Kind) (la : Addr), ks[j]? = some k ∧ las[j]? = some la ∧ d = .tup [.str k.1, .int k.2.1, .obj la] := by
  unfold kindsAt at h
  rw [List.getElem?_zipWith] at h
  cases e1 : ks[j]? with
  | none => rw [e1] at h; cases h
  | some k =>
    cases e2 : las[j]? with
    | none => rw [e1, e2] at h; cases h
    | some la => rw [e1, e2] at h; exact ⟨k, la, rfl, rfl, (Option.some.inj h).symm⟩
theorem rd_Draft_told {Draft : Addr} : ∀ ds μ Q, P_Draft_told Draft ds μ Q → td_Draft_told Draft { nx := fun _ μ' => GhQ Q .non μ', rt := GhQ Q } (startD N_Draft_told ds) μ := by
  rintro ds μ Q ⟨a, kk, ss, las, d, rfl, st, h⟩
  unfold td_Draft_told N_Draft_told dFld
  walk_at "dd"
  refine ⟨_, _, st.it, look_k, _, st.kinds, ?_⟩
  have len := kindsAt_len st.many
  have few := st.ok.k
  refine ⟨fun j acc ν => acc = (d.ks.take j).map kindD ∧ ν = μ, ⟨rfl, rfl⟩, fun j acc ν _ e => e.2 ▸ st.kinds, fun j x acc ν hd e => ?_, fun acc ν e => ?_⟩
  · obtain ⟨rfl, rfl⟩ := e
    obtain ⟨k, la, h1, h2, rfl⟩ := kindsAt_full hd
    have hj : j < d.ks.length := (List.getElem?_eq_some_iff.mp h1).1
    refine ⟨small (by rw [List.length_map, List.length_take]; omega), ?_⟩
    walk_at "dd"
    refine ⟨trivial, _, st.lamps j k la h1 h2, by show 3 ≤ sizeLine; decide, ?_⟩
    rw [List.take_add_one, h1, List.map_append]
    exact ⟨rfl, rfl⟩
  · obtain ⟨rfl, rfl⟩ := e
    rw [len, List.take_length]
    refine ⟨_, rfl, _, _, st.it, look_c, by show 2 ≤ sizeLine; decide, _, _, st.it, look_s, _, st.sights, by show 2 ≤ sizeLine; decide, GhQ.self h⟩
end DL
set_option Elab.async false
set_option linter.all false
set_option maxRecDepth 100000
set_option maxHeartbeats 1000001
namespace DL
open PySem L2 TL
local macro_rules | `(tactic| walk_at "dd") => `(tactic| try simp only [dSeq, dAsg, dgName, dgTup, dgSub, dOp, dVar, dC, dAdd, dSub, dMul, dMod, dFDiv, dPow, dCmp, dNeg, dEqn, dIsN, dIx, dTup, dLst, dConsA, dNilA, dCB, dCall, dRet, dRetN, dDrop, dIfS, dNext, dBreak, dCont, dTest, dTru, dAndT, dOrT, dNotT, dAndV, dOrV, dNotV, dIf, dChain, dDGet, dDPut, dM1, dM0, dJoin, dSplit, dUpper, dBML, dAppend, dInsert, dPopAt, dLen, dInt, dStr, dTupOf, dListOf, dMax2, dSum, dAll, dSl, dPart, dNoPart, newLst, keyD, dFor, dLc, diSeq, diRng1, diRng2, diEnum, diEnumS, diStr,
  startD, setAll, wipeD, List.map_cons, List.map_nil, List.length_cons, List.length_nil, List.replicate, List.cons_append, List.nil_append, List.getElem?_cons_zero, List.getElem?_cons_succ, List.set_cons_zero, List.set_cons_succ, Nat.reduceAdd, Nat.reduceSub, Bool.false_eq_true, if_true, if_false, ite_true, ite_false, reduceIte])
local macro_rules | `(tactic| walk_at "cm") => `(tactic| first | exact .inl ⟨by omega, by omega⟩ | exact .inr ⟨by omega, by omega⟩ | exact ⟨by omega, by omega⟩ | omega | decide)
/-! ### read -/
abbrev N_read : List Str := ["text", "lines", "draft", "number", "line", "words"]
def td_read (isa : Value → Value → Option Bool) (Draft BadText : Addr) : DSX :=
  xSeq (xIf (dNotT (dTest (dCB (dIsi isa) (dConsA (dVar 0) (dConsA (dC (.ty "str")) dNilA))))) (xBad BadText (dConsA (dC (.int 0)) dNilA)) (xLift dNext))
    (xSeq (xLift (dAsg (dM1 (dSplit false) (dVar 0) (dC (.str "\n"))) (dgName 1)))
    (xSeq (xLift (dAsg (dMake Draft (P_Draft___init__ Draft) dNilA) (dgName 2)))
    (xSeq (xFor (diEnumK 1 (dConsA (dVar 1) dNilA)) (dgTup [3, 4]) (xSeq (xLift (dAsg (dCall P_words_of (dConsA (dVar 4) dNilA)) (dgName 5)))
      (xIf (dOrT (dTest (dOp (dIn false) (dC (.str "\t")) (dVar 4))) (dAndT (dTru (dVar 5)) (dNotT (dTru (dMeth Draft "take" (P_Draft_take Draft) (dVar 2) (dConsA (dVar 5) dNilA)))))) (xBad BadText (dConsA (dVar 3) dNilA)) (xLift dNext))))
    (xSeq (xIf (dTru (dMeth Draft "lacks" (P_Draft_lacks Draft) (dVar 2) dNilA)) (xBad BadText (dConsA (dOp (dAdd false) (dCB dLen (dConsA (dVar 1) dNilA)) (dC (.int 1))) dNilA)) (xLift dNext))
    (xLift (dRet (dMeth Draft "told" (P_Draft_told Draft) (dVar 2) dNilA)))))))
structure StrIsa (isa : Value → Value → Option Bool) : Prop where
  yes : isa (.type "str") (.type "str") = some true
  no : ∀ n ∈ ["NoneType", "int", "list", "bool", "tuple", "dict"], isa (.type n) (.type "str") = some false
def P_read (BadText : Addr) : DPX := fun ds μ Q E => (∃ x n, ds = [x] ∧ TyD μ x (.type n) ∧ n ∈ ["NoneType", "int", "list", "bool", "tuple", "dict"] ∧ E BadText [("line", 0)] μ) ∨
  ∃ s : Str, ds = [.str s] ∧ s.length ≤ 90000 ∧ match readM s with
    | .inl n => E BadText [("line", (n : Int))] μ
    | .inr d => Q (.tup [fleetD (d.cs, d.ks), .lst (d.ss.map sightD)]) μ
theorem num_short {n : Int} (h0 : 0 ≤ n) (h1 : n < 1000000) : (Str.ofString (toString n)).length ≤ 1000 := Nat.le_trans (wText_len (w := .inr n) ⟨h0, h1⟩) (by decide)
theorem tab_eq : (("\t" : Str)) = ⟨#[9]⟩ := by decide +kernel
theorem GhE.self {E : DXK} {C : Addr} {fs : List (Str × Int)} {μ : Mu} (h : E C fs μ) : GhE E C fs μ := ⟨μ, SubM.refl _, h⟩
theorem goM_cons {n : Nat} {d : Dr} {line : Str} {r : List Str} : goM n d (line :: r) = match lineM d line with
    | none => .inl n
    | some d' => goM (n + 1) d' r := rfl
theorem wordsOf_short {s : Str} (h : s.length ≤ 100000) : ShortW (wordsOf s) := by
  obtain ⟨w, r, e⟩ : ∃ w r, Txt.split s "#" = w :: r := by
    cases e : Txt.split s "#" with
    | nil => exact absurd e (sep_hash.ne s)
    | cons w r => exact ⟨w, r, rfl⟩
  have hw : w.length ≤ 100000 := Nat.le_trans (sep_hash.short (by rw [e]; exact List.mem_cons_self)) h
  have f := sep_blank.few w
  unfold wordsOf
  rw [e]
  refine ⟨Nat.le_trans (List.length_filter_le _ _) ?_, fun x hx => ?_⟩
  · show (Txt.split w " ").length ≤ 200000
    omega
  · have := sep_blank.short (show x ∈ Txt.split w " " from (List.mem_filter.mp hx).1)
    omega
theorem rd_read {isa : Value → Value → Option Bool} (ok : StrIsa isa) {Draft BadText : Addr} : ∀ ds μ Q E, P_read BadText ds μ Q E → td_read isa Draft BadText (fun C fs _ μ' => GhE E C fs μ') { nx := fun _ μ' => GhQ Q .non μ', rt := GhQ Q } (startD N_read ds) μ := by
  intro ds μ Q E h
  unfold td_read N_read xSeq xIf xBad xLift xFor
  rcases h with ⟨x, n, rfl, hx, hn, h⟩ | ⟨s, rfl, hl, h⟩
  · walk_at "dd"
    refine ⟨x, _, _, false, rfl, .ty _, .inl ⟨_, hx, ok.no n hn⟩, ?_⟩
    walk_at "dd"
    exact ⟨0, rfl, by decide, num_short (by decide) (by decide), GhE.self h⟩
  · walk_at "dd"
    refine ⟨_, _, _, true, rfl, .ty _, .inl ⟨_, .str s, ok.yes⟩, ?_⟩
    walk_at "dd"
    rw [if_neg (by decide)]
    refine ⟨⟨_, rfl⟩, by decide +kernel, smallE (by omega), ?_⟩
    have nlines := sep_line.few s
    have sl : ∀ line ∈ Txt.split s "\n", line.length ≤ 90000 := fun line hm => Nat.le_trans (sep_line.short hm) hl
    unfold readM at h
    generalize Txt.split s "\n" = lines at h nlines sl ⊢
    intro a ha
    refine ⟨a, rfl, put_same, fun kk ss μ2 hkk hss hks e2 => ⟨rfl, ?_⟩⟩
    have nka : kk ≠ a := fun e => by rw [e, put_same] at hkk; cases hkk
    have nsa : ss ≠ a := fun e => by rw [e, put_same] at hss; cases hss
    rw [put_ne nka] at hkk
    rw [put_ne nsa] at hss
    have st0 : DraftAt Draft a kk ss [] ⟨[], [], []⟩ μ2 := by
      rw [e2]
      refine ⟨put_same, ?_, ?_, rfl, fun i k la h1 => by simp at h1, by simp [hks], ⟨Nat.zero_le _, Nat.zero_le _, fun k hk => by simp at hk, Nat.zero_le _⟩⟩
      · rw [put_ne nka, put_ne hks, put_same]; rfl
      · rw [put_ne nsa, put_same]; rfl
    have sub0 : SubM μ μ2 := fun b m hb => by
      have n1 : b ≠ a := fun e => by rw [e, ha] at hb; cases hb
      have n2 : b ≠ kk := fun e => by rw [e, hkk] at hb; cases hb
      have n3 : b ≠ ss := fun e => by rw [e, hss] at hb; cases hb
      rw [e2, put_ne n1, put_ne n3, put_ne n2, put_ne n1]
      exact hb
    clear e2
    have fin : ∀ (C : Addr) (fs : List (Str × Int)) (ν : Mu), SubM μ ν → E C fs μ → GhE E C fs ν := fun C fs ν s1 h1 => ⟨μ, s1, h1⟩
    refine ⟨fun i ds ν => (∃ x3 x4 x5, ds = [some (.str s), some (.lst (lines.map .str)), some (.obj a), x3, x4, x5]) ∧ ∃ d las, DraftAt Draft a kk ss las d ν ∧ SubM μ ν ∧ (∀ la ∈ las, μ la = none) ∧ goM 1 ⟨[], [], []⟩ lines = goM (i + 1) d (lines.drop i), ⟨⟨_, _, _, rfl⟩, _, [], st0, sub0, fun _ h => by simp at h, rfl⟩, fun _ _ _ _ _ => trivial, ?_, ?_⟩
    · rintro i x ds ν hx ⟨⟨x3, x4, x5, rfl⟩, d, las, st, sub, fr, go⟩
      obtain ⟨y, hy, rfl⟩ := enumD_get hx
      obtain ⟨line, hline, rfl⟩ := map_get hy
      have hi : i < lines.length := (List.getElem?_eq_some_iff.mp hline).1
      have hl2 := sl line (List.mem_of_getElem? hline)
      rw [List.drop_eq_getElem_cons hi, goM_cons] at go
      have el : lines[i] = line := (List.getElem?_eq_some_iff.mp hline).2
      rw [el] at go
      refine ⟨rfl, ?_⟩
      walk_at "dd"
      refine ⟨line, rfl, by omega, 9, by rw [tab_eq], ?_⟩
      have nshort : ((1 : Int) + (i : Nat)) < 1000000 := by omega
      have bad : lineM d line = none → ∃ n : Int, [D.int (1 + (i : Nat))] = [D.int n] ∧ n.natAbs.log2 < 1920 ∧ (Str.ofString (toString n)).length ≤ 1000 ∧ GhE E BadText [(("line" : Str), n)] ν := fun e => by
        rw [e] at go
        rw [go] at h
        have e1 : ((i + 1 : Nat) : Int) = 1 + (i : Nat) := by omega
        rw [show (match (Sum.inl (i + 1) : Sum Nat Dr) with
          | .inl n => E BadText [(("line" : Str), (n : Int))] μ
          | .inr d => Q (.tup [fleetD (d.cs, d.ks), .lst (d.ss.map sightD)]) μ) = E BadText [(("line" : Str), ((i + 1 : Nat) : Int))] μ from rfl, e1] at h
        exact ⟨_, rfl, log_ok (by omega) nshort, num_short (by omega) nshort, fin _ _ _ sub h⟩
      show if decide (9 ∈ line.cps.toList) = true then _ else _
      by_cases ht : 9 ∈ line.cps.toList
      · rw [if_pos (decide_eq_true ht)]
        exact bad (if_pos ht)
      · rw [if_neg (by rw [decide_eq_true_eq]; exact ht)]
        have lm : lineM d line = if wordsOf line = [] then some d else takeM d (wordsOf line) := if_neg ht
        refine ⟨trivial, ?_⟩
        have shortw : ShortW (wordsOf line) := wordsOf_short (by omega)
        generalize wordsOf line = ws at lm shortw ⊢
        cases ws with
        | nil =>
          rw [if_pos rfl] at lm
          rw [lm] at go
          exact ⟨⟨_, _, _, rfl⟩, d, las, st, sub, fr, go⟩
        | cons w r =>
          rw [if_neg (by simp)] at lm
          show if true = true then _ else _
          rw [if_pos rfl]
          unfold dMeth
          walk_at "dd"
          refine ⟨⟨_, st.it, look_no (by decide +kernel) (by decide +kernel) (by decide +kernel)⟩, a, kk, ss, las, d, w :: r, rfl, shortw, by simp, st, fun e => ⟨trivial, ?_⟩, fun d' las' ν' e st' step => ⟨trivial, ?_⟩⟩
          · show if (!false) = true then _ else _
            rw [if_pos (by decide)]
            exact bad (lm.trans e)
          · show if (!true) = true then _ else _
            rw [if_neg (by decide)]
            rw [lm, e] at go
            refine ⟨⟨_, _, _, rfl⟩, d', las', st', fun b m hb => step.old b m ?_ ?_ ?_ ?_ (sub b m hb), fun la hla => ?_, go⟩
            · rintro rfl; rw [ha] at hb; cases hb
            · rintro rfl; rw [hkk] at hb; cases hb
            · rintro rfl; rw [hss] at hb; cases hb
            · exact fun q => by rw [fr b q] at hb; cases hb
            · rcases step.new la hla with q | q
              · exact fr la q
              · cases z : μ la with
                | none => rfl
                | some m => rw [sub la m z] at q; cases q
    · rintro ds ν ⟨⟨x3, x4, x5, rfl⟩, d, las, st, sub, fr, go⟩
      rw [enumD_len, List.length_map, List.drop_length] at go
      have go2 : goM (lines.length + 1) d [] = if lacksB d = true then .inl (lines.length + 1) else .inr d := rfl
      rw [go2] at go
      rw [go] at h
      unfold dMeth
      walk_at "dd"
      refine ⟨⟨_, st.it, look_no (by decide +kernel) (by decide +kernel) (by decide +kernel)⟩, a, kk, ss, las, d, rfl, st, trivial, ?_⟩
      show if lacksB d = true then _ else _
      cases hl : lacksB d with
      | true =>
        rw [if_pos rfl]
        rw [hl, if_pos rfl] at h
        refine ⟨_, rfl, _, rfl, ?_⟩
        rw [List.length_map]
        have e1 : ((lines.length + 1 : Nat) : Int) = (lines.length : Int) + 1 := by omega
        rw [show (match (Sum.inl (lines.length + 1) : Sum Nat Dr) with
          | .inl n => E BadText [(("line" : Str), (n : Int))] μ
          | .inr d => Q (.tup [fleetD (d.cs, d.ks), .lst (d.ss.map sightD)]) μ) = E BadText [(("line" : Str), ((lines.length + 1 : Nat) : Int))] μ from rfl, e1] at h
        exact ⟨log_ok (by omega) (by omega), num_short (by omega) (by omega), fin _ _ _ sub h⟩
      | false =>
        rw [if_neg (by decide)]
        rw [hl, if_neg (by decide)] at h
        exact ⟨⟨_, st.it, look_no (by decide +kernel) (by decide +kernel) (by decide +kernel)⟩, a, kk, ss, las, d, rfl, st, GhQ.sub sub h⟩
end DL
set_option Elab.async false
set_option linter.all false
set_option maxRecDepth 100000
set_option maxHeartbeats 4000001
namespace DL
open PySem L2
abbrev s_read : Stmt := (topS 32)
abbrev ps_read : List Str := ["text"]
theorem sc_read : FnScope N_read ps_read (defScope s_read) := ⟨rfl, rfl, rfl, by decide +kernel, rfl, by decide +kernel, by decide +kernel⟩
section
variable {P : Program} {w : World} {K : PySem.W.Frag} {mg : Str → Option Value} {base : Heap} {a_ROW_WORDS Draft BadText fI : Addr} {isa : Value → Value → Option Bool}
theorem tm_read (T : Tx K mg a_ROW_WORDS Draft) (bi : mg "isinstance" = none) (iok : IsaOk K isa) (B : BTX.BadTxt P K mg "BadText" BadText fI) (h_words_of : DefAt P w K mg base "words_of" 1 ps_words_of P_words_of) (h_init : MakeAt P w K mg base "Draft" Draft 1 ps_Draft___init__ (P_Draft___init__ Draft))
    (h_take : MethAt P w K mg base Draft "take" 4 ps_Draft_take (P_Draft_take Draft)) (h_lacks : MethAt P w K mg base Draft "lacks" 1 ps_Draft_lacks (P_Draft_lacks Draft)) (h_told : MethAt P w K mg base Draft "told" 1 ps_Draft_told (P_Draft_told Draft)) :
    ∀ (f : Addr) (cdv : Value) (A : Around) (outer : List Env) (s : Shared) (H : Hp) (E : XK), Room 7 (A.deeper (PyProof.Rows.envOfC "read" (defScope s_read) s.heap.objs.size f cdv)) →
    PSSX (cxOf (L2.CX P w) P w K mg base N_read "read" (defScope s_read) f cdv A outer s H E) (fun cls d _ H' => E cls d H') (defBody s_read) (td_read isa Draft BadText) :=
  fun f cdv A outer s H E hr =>
    have tk : Takes (cxOf (L2.CX P w) P w K mg base N_read "read" (defScope s_read) f cdv A outer s H E) (fun cls d _ H' => E cls d H') := takes_of rfl rfl rfl rfl
    ssx_cons (sx_if (td_not (td_val (ed_callB call_isD (rl_isi iok) bi PyProof.Rows.boot_isinstance (ad_cons (ed_var 0) (ad_cons (ed_blt T.b_str PyProof.Rows.boot_str) ad_nil))))) (ssx_one (sx_bad rfl tk B hr (by decide) (ad_cons ed_int ad_nil))) ssx_nil)
    (ssx_cons (sx_lift (sd_set 1 sc_read.nd (ed_split false (ed_var 0) ed_str)))
    (ssx_cons (sx_lift (sd_set 2 sc_read.nd (ed_makeD0 h_init (hr.mono (by decide)))))
    (ssx_cons (sx_for (passes_of rfl) rfl (id_enumK (by decide) (by decide) T.b_enumerate (ad_cons (ed_var 1) ad_nil)) (gd_tup rfl (gsd_cons (gd_name 3 sc_read.nd) (gsd_cons (gd_name 4 sc_read.nd) gsd_nil)) rfl)
      (ssx_cons (sx_lift (sd_set 5 sc_read.nd (ed_callD h_words_of (hr.mono (by decide)) (ad_cons (ed_var 4) ad_nil))))
      (ssx_one (sx_if (td_w (wd_or (td_cmpR op_inG rr_in ed_str (ed_var 4) (by rfl)) (wd_or1 (td_w (wd_and (td_tru (ed_var 5)) (wd_and1 (td_not (td_tru (ed_methD (ed_var 2) T.cl_Draft h_take (hr.mono (by decide)) (ad_cons (ed_var 5) ad_nil)))))))))) (ssx_one (sx_bad rfl tk B hr (by decide) (ad_cons (ed_var 3) ad_nil))) ssx_nil))))
    (ssx_cons (sx_if (td_tru (ed_methD0 (ed_var 2) T.cl_Draft h_lacks (hr.mono (by decide)))) (ssx_one (sx_bad rfl tk B hr (by decide) (ad_cons (ed_add false (ed_callB call_lenG rl_len T.b_len PySem.boot_len (ad_cons (ed_var 1) ad_nil)) ed_int) ad_nil))) ssx_nil)
    (ssx_one (sx_lift (sd_ret (ed_methD0 (ed_var 2) T.cl_Draft h_told (hr.mono (by decide))))))))))
end
end DL
set_option Elab.async false
set_option linter.all false
set_option maxRecDepth 100000
set_option maxHeartbeats 4000001
namespace DL
open PySem L2 TL
local macro_rules | `(tactic| walk_at "dd") => `(tactic| try simp only [dSeq, dAsg, dgName, dgTup, dgSub, dOp, dVar, dC, dAdd, dSub, dMul, dMod, dFDiv, dPow, dCmp, dNeg, dEqn, dIsN, dIx, dTup, dLst, dConsA, dNilA, dCB, dCall, dRet, dRetN, dDrop, dIfS, dNext, dBreak, dCont, dTest, dTru, dAndT, dOrT, dNotT, dAndV, dOrV, dNotV, dIf, dChain, dDGet, dDPut, dM1, dM0, dJoin, dSplit, dUpper, dBML, dAppend, dInsert, dPopAt, dLen, dInt, dStr, dTupOf, dListOf, dMax2, dSum, dAll, dSl, dPart, dNoPart, newLst, keyD, dFor, dLc, diSeq, diRng1, diRng2, diEnum, diEnumS, diStr,
  startD, setAll, wipeD, List.map_cons, List.map_nil, List.length_cons, List.length_nil, List.replicate, List.cons_append, List.nil_append, List.getElem?_cons_zero, List.getElem?_cons_succ, List.set_cons_zero, List.set_cons_succ, Nat.reduceAdd, Nat.reduceSub, Bool.false_eq_true, if_true, if_false, ite_true, ite_false, reduceIte])
local macro_rules | `(tactic| walk_at "cm") => `(tactic| first | exact .inl ⟨by omega, by omega⟩ | exact .inr ⟨by omega, by omega⟩ | exact ⟨by omega, by omega⟩ | omega | decide)
/-! ### refused -/
abbrev N__law_refused : List Str := ["_law_text", "_law_refused_here", "error", "_law_other"]
abbrev s__law_refused : Stmt := (topS 47)
abbrev ps__law_refused : List Str := ["_law_text"]
theorem sc__law_refused : FnScope N__law_refused ps__law_refused (defScope s__law_refused) := ⟨rfl, rfl, rfl, by decide +kernel, rfl, by decide +kernel, by decide +kernel⟩
/-- the classes' addresses -/
structure Cl where
  LightError : Addr
  BadText : Addr
  BadBoats : Addr
  BadMany : Addr
  BadMoment : Addr
  BadPoint : Addr
  BadSight : Addr
  Full : Addr
  NoFoe : Addr
  NoKind : Addr
def dIs (isa : Value → Value → Option Bool) (c : D) : TD := dCB (dIsi isa) (dConsA (dVar 1) (dConsA (dC c) dNilA))
def td__law_refused (isa : Value → Value → Option Bool) (cat : Addr → Option Bool) (oks : Addr → Bool) (c : Cl) : DS :=
  dSeq (dAsg (dC .non) (dgName 1))
    (dSeq (xTryKeep cat 2 1 (xDrop (xCall (P_read c.BadText) (dConsA (dVar 0) dNilA))) (fun _ _ _ _ => False))
    (dSeq (dIfS (dTest (dOp (dIsN false) (dVar 1) (dC .non))) (dRet (dC .non)) dNext)
    (dSeq (dAsg (dOrV (dIs isa (.obj c.BadBoats)) (dOrV (dIs isa (.obj c.BadMany)) (dIs isa (.obj c.BadMoment)))) (dgName 3))
    (dSeq (dAsg (dOrV (dVar 3) (dOrV (dIs isa (.obj c.BadPoint)) (dOrV (dIs isa (.obj c.BadSight)) (dIs isa (.obj c.Full))))) (dgName 3))
    (dSeq (dAsg (dOrV (dVar 3) (dOrV (dIs isa (.obj c.NoFoe)) (dIs isa (.obj c.NoKind)))) (dgName 3))
    (dSeq (dIfS (dOrT (dTru (dVar 3)) (dOrT (dNotT (dTest (dIs isa (.obj c.BadText)))) (dNotT (dTest (dIs isa (.ty "ValueError")))))) (dRet (dLst false (dConsA (dC (.str "other")) dNilA))) dNext)
    (dRet (dLst false (dConsA (dKept oks "line" (dVar 1)) dNilA)))))))))
/-- what is known of the classes -/
structure RefIsa (isa : Value → Value → Option Bool) (cat : Addr → Option Bool) (oks : Addr → Bool) (c : Cl) : Prop where
  other : ∀ x ∈ [c.BadBoats, c.BadMany, c.BadMoment, c.BadPoint, c.BadSight, c.Full, c.NoFoe, c.NoKind], isa (.ref c.BadText) (.ref x) = some false
  self : isa (.ref c.BadText) (.ref c.BadText) = some true
  val : isa (.ref c.BadText) (.type "ValueError") = some true
  cat : cat c.BadText = some true
  oks : oks c.BadText = true
theorem refused_step {PR : DPX} {rest : DS} {cat : Addr → Option Bool} {D0 : DEnds} {x : D} {μ : Mu} (h : PR [x] μ (fun _ μ2 => rest D0 [some x, some .non, none, none] μ2) (fun C fs μ2 => ∃ b, cat C = some b ∧ (b = true → rest D0 [some x, some (.exc C fs), none, none] μ2) ∧ (b = false → False))) :
    dSeq (dAsg (dC .non) (dgName 1)) (dSeq (xTryKeep cat 2 1 (xDrop (xCall PR (dConsA (dVar 0) dNilA))) (fun _ _ _ _ => False)) rest) D0 (startD ["_law_text", "_law_refused_here", "error", "_law_other"] [x]) μ := h
theorem rd__law_refused {isa cat oks c} (ok : RefIsa isa cat oks c) : ∀ ds μ Q, P__law_refused ds μ Q → td__law_refused isa cat oks c { nx := fun _ μ' => GhQ Q .non μ', rt := GhQ Q } (startD N__law_refused ds) μ := by
  intro ds μ Q h
  obtain ⟨x, rfl⟩ : ∃ x, ds = [x] := by
    rcases h with ⟨x, n, rfl, _⟩ | ⟨s, rfl, _⟩ <;> exact ⟨_, rfl⟩
  unfold td__law_refused N__law_refused
  have back : ∀ n : Int, Q (.lst [.int n]) μ → ∃ b, cat c.BadText = some b ∧ (b = true → (dSeq (dIfS (dTest (dOp (dIsN false) (dVar 1) (dC .non))) (dRet (dC .non)) dNext)
      (dSeq (dAsg (dOrV (dIs isa (.obj c.BadBoats)) (dOrV (dIs isa (.obj c.BadMany)) (dIs isa (.obj c.BadMoment)))) (dgName 3))
      (dSeq (dAsg (dOrV (dVar 3) (dOrV (dIs isa (.obj c.BadPoint)) (dOrV (dIs isa (.obj c.BadSight)) (dIs isa (.obj c.Full))))) (dgName 3))
      (dSeq (dAsg (dOrV (dVar 3) (dOrV (dIs isa (.obj c.NoFoe)) (dIs isa (.obj c.NoKind)))) (dgName 3))
      (dSeq (dIfS (dOrT (dTru (dVar 3)) (dOrT (dNotT (dTest (dIs isa (.obj c.BadText)))) (dNotT (dTest (dIs isa (.ty "ValueError")))))) (dRet (dLst false (dConsA (dC (.str "other")) dNilA))) dNext)
      (dRet (dLst false (dConsA (dKept oks "line" (dVar 1)) dNilA)))))))) { nx := fun _ μ' => GhQ Q .non μ', rt := GhQ Q } [some x, some (.exc c.BadText [("line", n)]), none, none] μ) ∧ (b = false → False) := fun n h => by
    refine ⟨true, ok.cat, fun _ => ?_, fun e => by cases e⟩
    have is0 : ∀ (a : Addr) (ds : DSl) (R : DK), a ∈ [c.BadBoats, c.BadMany, c.BadMoment, c.BadPoint, c.BadSight, c.Full, c.NoFoe, c.NoKind] → ds[1]? = some (some (.exc c.BadText [("line", n)])) → R (.bl false) μ → dIs isa (.obj a) ds μ R := fun a ds R ha hd hr => by
      unfold dIs
      walk_at "dd"
      rw [hd]
      exact ⟨_, _, _, false, rfl, .own a, .inr ⟨_, _, rfl, ok.other a ha⟩, hr⟩
    walk_at "dd"
    show if false = true then _ else _
    rw [if_neg (by decide)]
    have go : ∀ (R : DK), R (.bl false) μ → R (.bl false) μ := fun _ h => h
    refine is0 _ _ _ (by simp) rfl ?_
    walk_at "dd"
    refine is0 _ _ _ (by simp) rfl ?_
    walk_at "dd"
    refine is0 _ _ _ (by simp) rfl ?_
    walk_at "dd"
    refine is0 _ _ _ (by simp) rfl ?_
    walk_at "dd"
    refine is0 _ _ _ (by simp) rfl ?_
    walk_at "dd"
    refine is0 _ _ _ (by simp) rfl ?_
    walk_at "dd"
    refine is0 _ _ _ (by simp) rfl ?_
    walk_at "dd"
    refine is0 _ _ _ (by simp) rfl ?_
    walk_at "dd"
    refine ⟨trivial, ?_⟩
    show if false = true then _ else _
    rw [if_neg (by decide)]
    unfold dIs dKept
    walk_at "dd"
    refine ⟨_, _, _, true, rfl, .own _, .inr ⟨_, _, rfl, ok.self⟩, ?_⟩
    walk_at "dd"
    show if (!true) = true then _ else _
    rw [if_neg (by decide)]
    refine ⟨_, _, _, true, rfl, .ty _, .inr ⟨_, _, rfl, ok.val⟩, ?_⟩
    show if (!true) = true then _ else _
    rw [if_neg (by decide)]
    exact ⟨_, _, n, rfl, ok.oks, by unfold lookN; rw [if_pos rfl], by show 1 ≤ sizeLine; decide, GhQ.self h⟩
  refine refused_step ?_
  rcases h with ⟨y, n, e, hy, hn, h⟩ | ⟨s, e, hl, h⟩
  · cases e
    exact .inl ⟨x, n, rfl, hy, hn, back 0 h⟩
  · cases e
    refine .inr ⟨s, rfl, hl, ?_⟩
    cases hr : readM s with
    | inl n =>
      rw [hr] at h
      exact back n h
    | inr d =>
      rw [hr] at h
      exact (GhQ.self h : GhQ Q D.non μ)
section
variable {P : Program} {w : World} {K : PySem.W.Frag} {mg : Str → Option Value} {base : Heap} {a_ROW_WORDS Draft : Addr} {isa : Value → Value → Option Bool} {cat : Addr → Option Bool} {oks : Addr → Bool} {c : Cl}
/-- the classes stand where their names say -/
structure ClAt (K : PySem.W.Frag) (mg : Str → Option Value) (c : Cl) : Prop where
  LightError : mg "LightError" = some (.ref c.LightError)
  BadText : mg "BadText" = some (.ref c.BadText)
  BadBoats : mg "BadBoats" = some (.ref c.BadBoats)
  BadMany : mg "BadMany" = some (.ref c.BadMany)
  BadMoment : mg "BadMoment" = some (.ref c.BadMoment)
  BadPoint : mg "BadPoint" = some (.ref c.BadPoint)
  BadSight : mg "BadSight" = some (.ref c.BadSight)
  Full : mg "Full" = some (.ref c.Full)
  NoFoe : mg "NoFoe" = some (.ref c.NoFoe)
  NoKind : mg "NoKind" = some (.ref c.NoKind)
  isinstance : mg "isinstance" = none
  ValueError : mg "ValueError" = none
theorem rp_obj {K : PySem.W.Frag} {a : Addr} (G : Hp) : Rp K G (.obj a) (.ref a) := rfl
theorem boot_ve : bootBuiltins "ValueError" = some (.type "ValueError") := by decide +kernel
theorem isc {X : Cx} {isa : Value → Value → Option Bool} {x y : Str} {a : Addr} {p p1 p2 p3 : Pos} (iok : IsaOk X.K isa) (bi : X.mg "isinstance" = none) (h : X.mg y = some (.ref a)) (hN : X.N[1]? = some x := by rfl) (hv : Vis X.env.scope x := by exact Or.inl rfl) (h1 : (x == ("__debug__" : Str)) = false := by decide) (h2 : (x == ("__classdict__" : Str)) = false := by decide) (h3 : Gl X y := by rfl) (h4 : (y == ("__debug__" : Str)) = false := by decide) (h5 : Gl X "isinstance" := by rfl)
    (he : starEach [.Name x p1, .Name y p2] X.env = (false, eval (.Name x p1) X.env) :: starEach [.Name y p2] X.env := by rfl) (he2 : starEach [.Name y p2] X.env = (false, eval (.Name y p2) X.env) :: starEach [] X.env := by rfl) (hpl : (backTo p3 (starEach [.Name y p2] X.env)).any (·.1) = false := by rfl) :
    PED X (.Call (.Name "isinstance" p) [.Name x p1, .Name y p2] [] p3) (dIs isa (.obj a)) :=
  ed_callB call_isD (rl_isi iok) bi PyProof.Rows.boot_isinstance (ad_cons (ed_var 1 hN hv h1 h2) (ad_cons (ed_gref ⟨h, rp_obj⟩ h3 h4) ad_nil he2) he) h5 (by decide) (by decide) he hpl
theorem tm__law_refused (C : ClAt K mg c) (iok : IsaOk K isa) (hcat : ∀ C b, cat C = some b → PySem.W.exmOne K (.ref C) (.ref c.LightError) = some b) (hoks : ∀ C, oks C = true → XfC K C ∧ PySem.W.findIn K (.ref C) "line" = some none) (h_read : DefAtX P w K mg base "read" 8 ps_read (P_read c.BadText)) :
    ∀ (f : Addr) (cdv : Value) (A : Around) (outer : List Env) (s : Shared) (H : Hp) (E : XK), Room 8 (A.deeper (PyProof.Rows.envOfC "_law_refused" (defScope s__law_refused) s.heap.objs.size f cdv)) →
    PSSD (cxOf CX0 P w K mg base N__law_refused "_law_refused" (defScope s__law_refused) f cdv A outer s H E).nox (defBody s__law_refused) (td__law_refused isa cat oks c) :=
  fun f cdv A outer s H E hr =>
    ssd_cons (sd_set 1 sc__law_refused.nd ed_non)
    (ssd_cons (PSD.ofX (sx_try rfl rfl sc__law_refused.nd (i := 2) (j := 1) rfl rfl rfl rfl rfl (by decide) ⟨rfl, by decide, .inl C.LightError⟩ takes_never rfl hcat fun W' pn xe tk hp => ssx_one (sx_expr (ex_call tk h_read hr (ad_cons (ed_var 0) ad_nil)))))
    (ssd_cons (sd_if (td_cmpR op_isN rr_isN (ed_var 1) ed_non (nomark _)) (ssd_one (sd_ret ed_non)) ssd_nil)
    (ssd_cons (sd_set 3 sc__law_refused.nd (ed_or (isc iok C.isinstance C.BadBoats) (ed_or (isc iok C.isinstance C.BadMany) (ed_one (isc iok C.isinstance C.BadMoment)))))
    (ssd_cons (sd_set 3 sc__law_refused.nd (ed_or (ed_var 3) (ed_or (isc iok C.isinstance C.BadPoint) (ed_or (isc iok C.isinstance C.BadSight) (ed_one (isc iok C.isinstance C.Full))))))
    (ssd_cons (sd_set 3 sc__law_refused.nd (ed_or (ed_var 3) (ed_or (isc iok C.isinstance C.NoFoe) (ed_one (isc iok C.isinstance C.NoKind)))))
    (ssd_cons (sd_if (td_w (wd_or (td_tru (ed_var 3)) (wd_or (td_not (td_val (isc iok C.isinstance C.BadText))) (wd_or1 (td_not (td_val (ed_callB call_isD (rl_isi iok) C.isinstance PyProof.Rows.boot_isinstance (ad_cons (ed_var 1) (ad_cons (ed_blt C.ValueError boot_ve) ad_nil)))))))))
      (ssd_one (sd_ret (ed_lst false (ad_cons ed_str ad_nil)))) ssd_nil)
    (ssd_one (sd_ret (ed_lst false (ad_cons (ed_kept hoks (ed_var 1)) ad_nil))))))))))
end
end DL
set_option Elab.async false
set_option linter.all false
set_option maxRecDepth 100000
set_option maxHeartbeats 1000001
namespace DL
open PySem L2 TL
/-! ### lines and their words -/
/-- a word that stands in a line as it is -/
def Cw (s : Str) : Prop := TL.tl s ≠ [] ∧ ∀ c ∈ TL.tl s, c ≠ 32 ∧ c ≠ 35 ∧ c ≠ 10 ∧ c ≠ 9
theorem mem_joinL {S : List Nat} {c : Nat} : ∀ {parts : List (List Nat)}, c ∈ joinL S parts → c ∈ S ∨ ∃ p ∈ parts, c ∈ p
  | [], h => by simp [joinL] at h
  | [p], h => .inr ⟨p, by simp, h⟩
  | p :: q :: r, h => by
    have h' : c ∈ p ++ (S ++ joinL S (q :: r)) := h
    rcases List.mem_append.mp h' with h | h
    · exact .inr ⟨p, by simp, h⟩
    rcases List.mem_append.mp h with h | h
    · exact .inl h
    · rcases mem_joinL h with h | ⟨x, hx, h⟩
      · exact .inl h
      · exact .inr ⟨x, List.mem_cons_of_mem _ hx, h⟩
theorem join_mem {y : Str} {ws : List Str} {c : Nat} (h : c ∈ TL.tl (Txt.join y ws)) : c ∈ TL.tl y ∨ ∃ w ∈ ws, c ∈ TL.tl w := by
  rw [join_eq, tl_join] at h
  rcases mem_joinL h with h | ⟨p, hp, h⟩
  · exact .inl h
  · obtain ⟨w, hw, rfl⟩ := List.mem_map.mp hp
    exact .inr ⟨w, hw, h⟩
theorem split_none {y : Str} {c : Nat} (hy : Sep y c) {x : Str} (h : c ∉ TL.tl x) : Txt.split x y = [x] := by
  refine map_tl_inj ?_
  rw [hy.spl, spl_last1 h]
  rfl
theorem wordsOf_join {ws : List Str} (hne : ws ≠ []) (h : ∀ w ∈ ws, Cw w) : wordsOf (Txt.join " " ws) = ws := by
  have n35 : 35 ∉ TL.tl (Txt.join " " ws) := fun q => by
    rcases join_mem q with q | ⟨w, hw, q⟩
    · rw [sep_blank.tl] at q; simp at q
    · exact ((h w hw).2 35 q).2.1 rfl
  unfold wordsOf
  rw [split_none sep_hash n35]
  show (Txt.split (Txt.join " " ws) " ").filter _ = ws
  rw [split_join (s := 32) (S := []) sep_blank.tl (by decide +kernel) hne (fun w hw q => ((h w hw).2 32 q).1 rfl)]
  refine List.filter_eq_self.mpr fun w hw => ?_
  have := (h w hw).1
  cases e : w.cps.toList with
  | nil => exact absurd e this
  | cons a l => rfl
theorem join_clean {ws : List Str} (h : ∀ w ∈ ws, Cw w) : 9 ∉ TL.tl (Txt.join " " ws) ∧ 10 ∉ TL.tl (Txt.join " " ws) := by
  refine ⟨fun q => ?_, fun q => ?_⟩ <;>
  · rcases join_mem q with q | ⟨w, hw, q⟩
    · rw [sep_blank.tl] at q; simp at q
    · first
        | exact ((h w hw).2 _ q).2.2.2 rfl
        | exact ((h w hw).2 _ q).2.2.1 rfl
theorem lineM_join {d : Dr} {ws : List Str} (hne : ws ≠ []) (h : ∀ w ∈ ws, Cw w) : lineM d (Txt.join " " ws) = takeM d ws := by
  unfold lineM
  rw [if_neg (join_clean h).1, wordsOf_join hne h, if_neg hne]
def numT (n : Nat) : Str := Str.ofString (toString (n : Int))
theorem cw_num (n : Nat) : Cw (numT n) := by
  unfold numT Cw
  rw [tl_num]
  exact ⟨numL_ne n, fun c hc => ⟨fun e => numL_free (n := n) (s := 32) (by decide) (e ▸ hc), fun e => numL_free (n := n) (s := 35) (by decide) (e ▸ hc), fun e => numL_free (n := n) (s := 10) (by decide) (e ▸ hc), fun e => numL_free (n := n) (s := 9) (by decide) (e ▸ hc)⟩⟩
theorem numT_inj {a b : Nat} (h : numT a = numT b) : a = b := by
  have := congrArg TL.tl h
  unfold numT at this
  rw [tl_num, tl_num] at this
  exact numL_inj this
theorem numOf_self {n m : Nat} (h : n ≤ m) : numOf (numT n) m = some n := by
  unfold numOf
  have first : (List.range n).find? (fun (k : Nat) => decide (numT n = Str.ofString (toString (k : Int)))) = none := by
    rw [List.find?_eq_none]
    intro k hk e
    have : numT n = numT k := of_decide_eq_true e
    have := numT_inj this
    have := List.mem_range.mp hk
    omega
  have hs : m + 1 = n + 1 + (m - n) := by omega
  rw [hs, List.range_add, List.find?_append, find_more, first]
  show (if decide (numT n = Str.ofString (toString (n : Int))) = true then some n else none).or _ = _
  have e : decide (numT n = Str.ofString (toString (n : Int))) = true := decide_eq_true rfl
  rw [e, if_pos rfl]
  rfl
theorem numOf_le {w : Str} {m n : Nat} (h : numOf w m = some n) : n ≤ m := by
  unfold numOf at h
  have := List.mem_of_find?_eq_some h
  have := List.mem_range.mp this
  omega
theorem cw_name {s : Str} (h : IsName s) : Cw s := by
  refine ⟨fun e => ?_, fun c hc => ?_⟩
  · have := h.1
    rw [len_tl, e] at this
    simp at this
  · have := h.2.2.1 c hc
    omega
theorem isName_b {s : Str} (h : IsName s) : isNameB s = true := by
  have hb : isNameB s = (!decide (s ∈ bars) && ((decide (1 ≤ s.length) && decide (s.length ≤ 6)) && s.cps.toList.all fun c => decide (c ∈ letters.cps.toList))) := by
    unfold isNameB; rw [any_in]
  rw [hb, decide_eq_false h.2.2.2, decide_eq_true h.1, decide_eq_true h.2.1]
  simp only [Bool.not_false, Bool.true_and, List.all_eq_true, decide_eq_true_eq]
  intro c hc
  have := h.2.2.1 c hc
  have all : ∀ k : Nat, k < 26 → 97 + k ∈ letters.cps.toList := by decide +kernel
  have e : c = 97 + (c - 97) := by omega
  rw [e]
  exact all _ (by omega)
/-! ### rows that are taken -/
theorem wText_int {i : Int} (h : 0 ≤ i) : wText (.inr i) = numT i.toNat := by
  show Str.ofString (toString i) = Str.ofString (toString ((i.toNat : Nat) : Int))
  rw [Int.toNat_of_nonneg h]
theorem cw_word : Cw "colours" ∧ Cw "kind" ∧ Cw "lamp" ∧ Cw "sight" := by unfold Cw; decide +kernel
theorem take_colours {cs : List Str} (h1 : 1 ≤ cs.length) (h6 : cs.length ≤ 6) (nd : cs.Nodup) (hn : ∀ c ∈ cs, IsName c) : lineM ⟨[], [], []⟩ (rowOf (colourWords cs)) = some ⟨cs, [], []⟩ := by
  have e : (colourWords cs).map wText = Str.ofString "colours" :: cs := by
    unfold colourWords
    rw [List.map_cons, List.map_map]
    show Str.ofString "colours" :: cs.map id = _
    rw [List.map_id]
  unfold rowOf
  rw [e, lineM_join (by simp) fun w hw => ?_]
  · rw [takeM_cons, if_pos (by rfl)]
    have ec : coloursOf (Str.ofString "colours" :: cs) = some cs := by
      unfold coloursOf
      show (if (1 ≤ cs.length ∧ cs.length ≤ 6) ∧ cs.Nodup ∧ cs.all isNameB = true then some cs else none) = _
      rw [if_pos ⟨⟨h1, h6⟩, nd, List.all_eq_true.mpr fun c hc => isName_b (hn c hc)⟩]
    unfold takeC
    rw [ec]
    rfl
  · rcases List.mem_cons.mp hw with rfl | hw
    · exact cw_word.1
    · exact cw_name (hn w hw)
theorem take_kind {d : Dr} {k : Str} {t : Int} (hn : IsName k) (h0 : 0 ≤ t) (h16 : t ≤ 16) (may : mayB d = true) (new : k ∉ d.ks.map (·.1)) (ls : List Lamp) : lineM d (rowOf (kindWords (k, t, ls))) = some { d with ks := d.ks ++ [(k, t, [])] } := by
  have e : (kindWords (k, t, ls)).map wText = [Str.ofString "kind", k, numT t.toNat] := by
    unfold kindWords
    rw [List.map_cons, List.map_cons, List.map_cons, List.map_nil, wText_int h0]
    rfl
  unfold rowOf
  rw [e, lineM_join (by simp) fun w hw => ?_]
  · rw [takeM_cons, if_neg (by decide +kernel), if_pos (by rfl)]
    have ek : kindOf [Str.ofString "kind", k, numT t.toNat] = some (k, t.toNat) := by
      show (if isNameB k = true then (numOf (numT t.toNat) 16).map fun n => (k, n) else none) = _
      rw [if_pos (isName_b hn), numOf_self (by omega)]
      rfl
    unfold takeK
    rw [ek]
    show (if mayB d = true ∧ k ∉ d.ks.map (·.1) then some { d with ks := d.ks ++ [(k, ((t.toNat : Nat) : Int), [])] } else none) = _
    rw [if_pos ⟨may, new⟩, Int.toNat_of_nonneg h0]
  · rcases List.mem_cons.mp hw with rfl | hw
    · exact cw_word.2.1
    rcases List.mem_cons.mp hw with rfl | hw
    · exact cw_name hn
    · rw [List.mem_singleton.mp hw]; exact cw_num _
theorem take_lamp {d : Dr} {l : Lamp} {k0 : List Kind} {k : Kind} (hn : IsName l.1) (g : GoodLamp d.cs l) (e : d.ks = k0 ++ [k]) (few : k.2.2.length < 6) (ns : d.ss = []) : lineM d (rowOf (lampWords l)) = some { d with ks := k0 ++ [addLamp l k] } := by
  obtain ⟨c, a, b⟩ := l
  obtain ⟨g1, g2, g3, g4, g5⟩ := g
  dsimp only at hn g1 g2 g3 g4 g5
  have ew : (lampWords (c, a, b)).map wText = [Str.ofString "lamp", c, numT a.toNat, numT b.toNat] := by
    unfold lampWords
    rw [List.map_cons, List.map_cons, List.map_cons, List.map_cons, List.map_nil, wText_int g2, wText_int g4]
    rfl
  unfold rowOf
  rw [ew, lineM_join (by simp) fun w hw => ?_]
  · rw [takeM_cons, if_neg (by decide +kernel), if_neg (by decide +kernel), if_pos (by rfl)]
    have el : lampOf d.cs [Str.ofString "lamp", c, numT a.toNat, numT b.toNat] = some (c, a, b) := by
      show (if c ∈ d.cs then (match numOf (numT a.toNat) 31, numOf (numT b.toNat) 31 with
        | some x, some y => some (c, (x : Int), (y : Int))
        | _, _ => none) else none) = _
      rw [if_pos g1, numOf_self (by omega), numOf_self (by omega)]
      show some (c, ((a.toNat : Nat) : Int), ((b.toNat : Nat) : Int)) = _
      rw [Int.toNat_of_nonneg g2, Int.toNat_of_nonneg g4]
    unfold takeL
    rw [el, e, List.getLast?_concat, List.dropLast_concat]
    show (if d.ss = [] ∧ k.2.2.length ≠ 6 then some { d with ks := k0 ++ [addLamp (c, a, b) k] } else none) = _
    rw [if_pos ⟨ns, by omega⟩]
  · rcases List.mem_cons.mp hw with rfl | hw
    · exact cw_word.2.2.1
    rcases List.mem_cons.mp hw with rfl | hw
    · exact cw_name hn
    rcases List.mem_cons.mp hw with rfl | hw
    · exact cw_num _
    · rw [List.mem_singleton.mp hw]; exact cw_num _
theorem take_sight {d : Dr} {s : Sight} (hn : ∀ c ∈ d.cs, IsName c) (g : GoodSight d.cs s) (nl : lacksB d = false) (few : d.ss.length < 60) : lineM d (rowOf (sightWords s)) = some { d with ss := d.ss ++ [s] } := by
  obtain ⟨m, p, col⟩ := s
  obtain ⟨g1, g2, g3, g4, g5, g6⟩ := g
  dsimp only at g1 g2 g3 g4 g5 g6
  have ew : (sightWords (m, p, col)).map wText = Str.ofString "sight" :: numT m.toNat :: numT p.toNat :: col := by
    unfold sightWords
    rw [List.map_cons, List.map_cons, List.map_cons, List.map_map, wText_int g1, wText_int g3]
    show Str.ofString "sight" :: numT m.toNat :: numT p.toNat :: col.map id = _
    rw [List.map_id]
  unfold rowOf
  rw [ew, lineM_join (by simp) fun w hw => ?_]
  · rw [takeM_cons, if_neg (by decide +kernel), if_neg (by decide +kernel), if_neg (by decide +kernel), if_pos (by rfl)]
    have el : sightOf d.cs (Str.ofString "sight" :: numT m.toNat :: numT p.toNat :: col) = some (m, p, col) := by
      show (if col.length ≤ 6 then (match numOf (numT m.toNat) 99, numOf (numT p.toNat) 31 with
        | some x, some y => if col.all (fun c => decide (c ∈ d.cs)) = true then some ((x : Int), (y : Int), col) else none
        | _, _ => none) else none) = _
      rw [if_pos g5, numOf_self (by omega), numOf_self (by omega)]
      show (if col.all (fun c => decide (c ∈ d.cs)) = true then some (((m.toNat : Nat) : Int), ((p.toNat : Nat) : Int), col) else none) = _
      rw [if_pos (List.all_eq_true.mpr fun c hc => decide_eq_true (g6 c hc)), Int.toNat_of_nonneg g1, Int.toNat_of_nonneg g3]
    unfold takeS
    rw [el]
    show (if lacksB d = false ∧ d.ss.length ≠ 60 then some { d with ss := d.ss ++ [(m, p, col)] } else none) = _
    rw [if_pos ⟨nl, by omega⟩]
  · rcases List.mem_cons.mp hw with rfl | hw
    · exact cw_word.2.2.2
    rcases List.mem_cons.mp hw with rfl | hw
    · exact cw_num _
    rcases List.mem_cons.mp hw with rfl | hw
    · exact cw_num _
    · exact cw_name (hn w (g6 w hw))
end DL
set_option Elab.async false
set_option linter.all false
set_option maxRecDepth 100000
set_option maxHeartbeats 1000001
namespace DL
open PySem L2 TL
/-! ### whole texts -/
theorem runM_app {xs ys : List Str} : ∀ {d d' : Dr}, runM d xs = some d' → runM d (xs ++ ys) = runM d' ys := by
  induction xs with
  | nil => intro d d' h; cases h; rfl
  | cons l r ih =>
    intro d d' h
    unfold runM at h
    cases e : lineM d l with
    | none => rw [e] at h; cases h
    | some d1 =>
      rw [e] at h
      show (match lineM d l with
        | none => none
        | some d' => runM d' (r ++ ys)) = _
      rw [e]
      exact ih h
theorem runM_pre {xs ys : List Str} : ∀ {d d2 : Dr}, runM d (xs ++ ys) = some d2 → ∃ d', runM d xs = some d' ∧ runM d' ys = some d2 := by
  induction xs with
  | nil => intro d d2 h; exact ⟨d, rfl, h⟩
  | cons l r ih =>
    intro d d2 h
    have h' : (match lineM d l with
      | none => none
      | some d' => runM d' (r ++ ys)) = some d2 := h
    cases e : lineM d l with
    | none => rw [e] at h'; cases h'
    | some d1 =>
      rw [e] at h'
      obtain ⟨d', a, b⟩ := ih h'
      exact ⟨d', by show (match lineM d l with
        | none => none
        | some d' => runM d' r) = _; rw [e]; exact a, b⟩
theorem goM_run {xs ys : List Str} : ∀ {n : Nat} {d d' : Dr}, runM d xs = some d' → goM n d (xs ++ ys) = goM (n + xs.length) d' ys := by
  induction xs with
  | nil => intro n d d' h; cases h; rfl
  | cons l r ih =>
    intro n d d' h
    unfold runM at h
    cases e : lineM d l with
    | none => rw [e] at h; cases h
    | some d1 =>
      rw [e] at h
      rw [List.cons_append, goM_cons, e]
      show goM (n + 1) d1 (r ++ ys) = _
      rw [ih h, List.length_cons]
      congr 1
      omega
theorem runM_cons {d d1 : Dr} {l : Str} {r : List Str} (h : lineM d l = some d1) : runM d (l :: r) = runM d1 r := by
  show (match lineM d l with
    | none => none
    | some d' => runM d' r) = _
  rw [h]
theorem run_lamps {cs : List Str} (hn : ∀ c ∈ cs, IsName c) {k0 : List Kind} {k : Str} {t : Int} : ∀ (ls acc : List Lamp), acc.length + ls.length ≤ 6 → (∀ l ∈ ls, GoodLamp cs l) → runM ⟨cs, k0 ++ [(k, t, acc)], []⟩ (ls.map fun l => rowOf (lampWords l)) = some ⟨cs, k0 ++ [(k, t, acc ++ ls)], []⟩
  | [], acc, _, _ => by rw [List.append_nil]; rfl
  | l :: ls, acc, hl, hg => by
    have g := hg l List.mem_cons_self
    rw [List.length_cons] at hl
    rw [List.map_cons, runM_cons (take_lamp (d := ⟨cs, k0 ++ [(k, t, acc)], []⟩) (hn _ g.1) g rfl (by show acc.length < 6; omega) rfl)]
    have ih := run_lamps hn (k0 := k0) (k := k) (t := t) ls (acc ++ [l]) (by rw [List.length_append, List.length_singleton]; omega) fun x hx => hg x (List.mem_cons_of_mem _ hx)
    rw [List.append_assoc] at ih
    exact ih
theorem run_kind {cs : List Str} (hn : ∀ c ∈ cs, IsName c) {k0 : List Kind} {k : Kind} (may : mayB ⟨cs, k0, []⟩ = true) (new : k.1 ∉ k0.map (·.1)) (nk : IsName k.1) (g : GoodKind cs k) : runM ⟨cs, k0, []⟩ (kindLines k) = some ⟨cs, k0 ++ [k], []⟩ := by
  obtain ⟨kn, t, ls⟩ := k
  obtain ⟨g1, g2, g3, g4, g5⟩ := g
  unfold kindLines
  rw [runM_cons (take_kind (d := ⟨cs, k0, []⟩) nk g1 g2 may new ls)]
  exact run_lamps hn ls [] (by simpa using g4) g5
theorem may_of {cs : List Str} (h : 1 ≤ cs.length) {k0 : List Kind} (few : k0.length < 6) (full : ∀ k ∈ k0, 1 ≤ k.2.2.length) : mayB ⟨cs, k0, []⟩ = true := by
  unfold mayB
  have c : cs.isEmpty = false := by cases cs <;> simp at h ⊢
  rcases snoc_or k0 with rfl | ⟨a, k, rfl⟩
  · simp [c]
  · have l : lacksB ⟨cs, a ++ [k], []⟩ = k.2.2.isEmpty := lacks_app rfl
    have k1 := full k (by simp)
    have e : k.2.2.isEmpty = false := by cases h2 : k.2.2 <;> simp [h2] at k1 ⊢
    show (!cs.isEmpty && (true && ((a ++ [k]).isEmpty || (!lacksB ⟨cs, a ++ [k], []⟩ && decide ((a ++ [k]).length < 6))))) = true
    rw [l, e, c, decide_eq_true few]
    simp
theorem run_kinds {cs : List Str} (h1 : 1 ≤ cs.length) (hn : ∀ c ∈ cs, IsName c) : ∀ (ks k0 : List Kind), (k0 ++ ks).length ≤ 6 → ((k0 ++ ks).map (·.1)).Nodup → (∀ k ∈ k0, 1 ≤ k.2.2.length) → (∀ k ∈ ks, IsName k.1 ∧ GoodKind cs k) → runM ⟨cs, k0, []⟩ ((ks.map kindLines).flatten) = some ⟨cs, k0 ++ ks, []⟩
  | [], k0, _, _, _, _ => by rw [List.append_nil]; rfl
  | k :: ks, k0, hl, nd, hf, hg => by
    have g := hg k List.mem_cons_self
    have may : mayB ⟨cs, k0, []⟩ = true := may_of h1 (by rw [List.length_append, List.length_cons] at hl; omega) hf
    have new : k.1 ∉ k0.map (·.1) := fun q => by
      rw [List.map_append, List.nodup_append] at nd
      exact nd.2.2 k.1 q k.1 (by simp) rfl
    rw [List.map_cons, List.flatten_cons, runM_app (run_kind hn may new g.1 g.2)]
    have ih := run_kinds h1 hn ks (k0 ++ [k]) (by simpa using hl) (by simpa using nd) (fun x hx => by
      rcases List.mem_append.mp hx with hx | hx
      · exact hf x hx
      · rw [List.mem_singleton.mp hx]; exact g.2.2.2.1) fun x hx => hg x (List.mem_cons_of_mem _ hx)
    rw [ih, List.append_assoc]
    rfl
theorem run_head {f : Flt} {ss : List Sight} (T : TextOk f ss) : runM ⟨[], [], []⟩ (headLines f) = some ⟨f.1, f.2, []⟩ := by
  unfold headLines
  rw [runM_cons (take_colours T.c1 T.c6 T.cd T.cn)]
  exact run_kinds T.c1 T.cn f.2 [] (by simpa using T.k6) (by simpa using T.kd) (fun k hk => by simp at hk) fun k hk => ⟨T.kn k hk, T.kg k hk⟩
theorem run_sights {cs : List Str} {ks : List Kind} (hn : ∀ c ∈ cs, IsName c) (nl : ∀ ss, lacksB ⟨cs, ks, ss⟩ = false) : ∀ (ss s0 : List Sight), (s0 ++ ss).length ≤ 60 → (∀ s ∈ ss, GoodSight cs s) → runM ⟨cs, ks, s0⟩ (ss.map fun s => rowOf (sightWords s)) = some ⟨cs, ks, s0 ++ ss⟩
  | [], s0, _, _ => by rw [List.append_nil]; rfl
  | s :: ss, s0, hl, hg => by
    rw [List.map_cons, runM_cons (take_sight (d := ⟨cs, ks, s0⟩) hn (hg s List.mem_cons_self) (nl _) (by rw [List.length_append, List.length_cons] at hl; show s0.length < 60; omega))]
    have ih := run_sights hn nl ss (s0 ++ [s]) (by simpa using hl) fun x hx => hg x (List.mem_cons_of_mem _ hx)
    rw [List.append_assoc] at ih
    exact ih
theorem lacks_full {f : Flt} {ss : List Sight} (T : TextOk f ss) (s : List Sight) : lacksB ⟨f.1, f.2, s⟩ = false := by
  rcases snoc_or f.2 with e | ⟨a, k, e⟩
  · have := T.k1; rw [e] at this; simp at this
  · rw [lacks_app (d := ⟨f.1, f.2, s⟩) e]
    have := (T.kg k (by rw [e]; simp)).2.2.1
    cases h2 : k.2.2 <;> simp [h2] at this ⊢
theorem run_text {f : Flt} {ss : List Sight} (T : TextOk f ss) : runM ⟨[], [], []⟩ (linesOf f ss) = some ⟨f.1, f.2, ss⟩ := by
  unfold linesOf
  rw [runM_app (run_head T)]
  exact run_sights T.cn (lacks_full T) ss [] (by simpa using T.s6) T.sg
end DL
set_option Elab.async false
set_option linter.all false
set_option maxRecDepth 100000
set_option maxHeartbeats 1000001
namespace DL
open PySem L2 TL
/-! ### lines with one thing wrong -/
/-- a line that no state takes -/
def deadB (s : Str) : Bool := decide (9 ∈ TL.tl s) || match wordsOf s with
  | [] => false
  | w :: r => if w = "colours" then (coloursOf (w :: r)).isNone else if w = "kind" then (kindOf (w :: r)).isNone else if w = "lamp" then decide ((w :: r).length ≠ 4) else if w = "sight" then (sightOf [] ((w :: r).take 3)).isNone || decide (9 < (w :: r).length) else true
theorem sightOf_cs {cs : List Str} {ws : List Str} (h : (sightOf [] (ws.take 3)).isNone = true ∨ 9 < ws.length) : sightOf cs ws = none := by
  rcases h with h | h
  · unfold sightOf
    split
    · rename_i a m s col
      split
      · have e : sightOf [] ((a :: m :: s :: col).take 3) = (match numOf m 99, numOf s 31 with
          | some x, some y => some ((x : Int), (y : Int), [])
          | _, _ => none) := rfl
        rw [e] at h
        cases h1 : numOf m 99 with
        | none => rfl
        | some x =>
          cases h2 : numOf s 31 with
          | none => rfl
          | some y => rw [h1, h2] at h; simp at h
      · rfl
    · rfl
  · exact sightOf_few fun z => by omega
theorem dead {s : Str} (h : deadB s = true) (d : Dr) : lineM d s = none := by
  unfold deadB at h
  unfold lineM
  by_cases ht : 9 ∈ TL.tl s
  · rw [if_pos ht]
  · rw [if_neg ht]
    rw [decide_eq_false ht, Bool.false_or] at h
    cases e : wordsOf s with
    | nil => rw [e] at h; cases h
    | cons w r =>
      rw [e] at h
      rw [if_neg (by simp), takeM_cons]
      dsimp only at h
      by_cases c1 : w = "colours"
      · rw [if_pos c1] at h ⊢
        unfold takeC
        rw [Option.isNone_iff_eq_none.mp h]
      rw [if_neg c1] at h ⊢
      by_cases c2 : w = "kind"
      · rw [if_pos c2] at h ⊢
        unfold takeK
        rw [Option.isNone_iff_eq_none.mp h]
      rw [if_neg c2] at h ⊢
      by_cases c3 : w = "lamp"
      · rw [if_pos c3] at h ⊢
        unfold takeL
        rw [lampOf_none (of_decide_eq_true h)]
      rw [if_neg c3] at h ⊢
      by_cases c4 : w = "sight"
      · rw [if_pos c4] at h ⊢
        unfold takeS
        rw [sightOf_cs (by rcases Bool.or_eq_true_iff.mp h with h | h; exact .inl h; exact .inr (of_decide_eq_true h))]
      · rw [if_neg c4]
theorem oddFirst_bad {l : Str} (h : l ∈ oddFirst) : lineM ⟨[], [], []⟩ l = none := by
  have all : (oddFirst.all fun l => decide (lineM ⟨[], [], []⟩ l = none)) = true := by decide +kernel
  exact of_decide_eq_true (List.all_eq_true.mp all l h)
theorem more_colours {d : Dr} {l : Str} (h : wordsOf l = [Str.ofString "colours", Str.ofString "a"]) (ht : 9 ∉ TL.tl l) (hc : d.cs ≠ []) : lineM d l = none := by
  unfold lineM
  rw [if_neg ht, h, if_neg (by simp), takeM_cons, if_pos (by rfl)]
  unfold takeC
  cases coloursOf [Str.ofString "colours", Str.ofString "a"] with
  | none => rfl
  | some ns => exact if_neg hc
theorem colours_a {d : Dr} (hc : d.cs ≠ []) : lineM d "colours a" = none := more_colours (by decide +kernel) (by decide +kernel) hc
/-- a text of words and blanks, as its signs -/
theorem join_tl4 (a b c d : Str) : TL.tl (Txt.join " " [a, b, c, d]) = TL.tl a ++ 32 :: (TL.tl b ++ 32 :: (TL.tl c ++ 32 :: TL.tl d)) := by
  rw [join_eq, tl_join, sep_blank.tl]; rfl
theorem join_tl3 (a b c : Str) : TL.tl (Txt.join " " [a, b, c]) = TL.tl a ++ 32 :: (TL.tl b ++ 32 :: TL.tl c) := by
  rw [join_eq, tl_join, sep_blank.tl]; rfl
theorem kind_again {d : Dr} {k : Str} (hn : IsName k) (hin : k ∈ d.ks.map (·.1)) : lineM d ("kind " ++ k ++ " 1") = none := by
  have e : ("kind " ++ k ++ " 1" : Str) = Txt.join " " [Str.ofString "kind", k, Str.ofString "1"] := by
    refine ext_tl ?_
    rw [join_tl3, tl_append, tl_append]
    have e1 : TL.tl (Str.ofString "kind ") = TL.tl (Str.ofString "kind") ++ [32] := by decide +kernel
    have e2 : TL.tl (Str.ofString " 1") = 32 :: TL.tl (Str.ofString "1") := by decide +kernel
    show TL.tl (Str.ofString "kind ") ++ TL.tl k ++ TL.tl (Str.ofString " 1") = _
    rw [e1, e2]
    simp
  rw [e, lineM_join (by simp) fun w hw => ?_]
  · rw [takeM_cons, if_neg (by decide +kernel), if_pos (by rfl)]
    unfold takeK
    have one : numOf (Str.ofString "1") 16 = some 1 := by decide +kernel
    have ek : kindOf [Str.ofString "kind", k, Str.ofString "1"] = some (k, 1) := by
      show (if isNameB k = true then (numOf (Str.ofString "1") 16).map fun n => (k, n) else none) = _
      rw [if_pos (isName_b hn), one]
      rfl
    rw [ek]
    exact if_neg fun z => z.2 hin
  · rcases List.mem_cons.mp hw with rfl | hw
    · exact cw_word.2.1
    rcases List.mem_cons.mp hw with rfl | hw
    · exact cw_name hn
    · rw [List.mem_singleton.mp hw]; unfold Cw; decide +kernel
theorem oddKind_bad {d : Dr} {k l : Str} (hc : d.cs ≠ []) (hn : IsName k) (hin : k ∈ d.ks.map (·.1)) (h : l ∈ oddKind k) : lineM d l = none := by
  unfold oddKind at h
  simp only [List.mem_cons, List.not_mem_nil, or_false] at h
  rcases h with rfl | rfl | rfl | rfl | rfl | rfl | rfl | rfl | rfl | rfl | rfl | rfl | rfl | rfl | rfl | rfl | rfl | rfl
  all_goals first
    | exact kind_again hn hin
    | exact colours_a hc
    | exact dead (by decide +kernel) d
/-- a row of a word and others, the second a colour -/
theorem row_of {a : Str} {c rest line : Str} {ws : List Str} (e : line = a ++ c ++ rest) (h : TL.tl a ++ (TL.tl c ++ TL.tl rest) = TL.tl (Txt.join " " ws)) : line = Txt.join " " ws := by
  refine ext_tl ?_
  rw [e, tl_append, tl_append, List.append_assoc]
  exact h
theorem lampOf_bad {cs : List Str} {a b c : Str} (h : (numOf a 31).isNone = true ∨ (numOf b 31).isNone = true ∨ c ∉ cs) {w : Str} : lampOf cs [w, c, a, b] = none := by
  show (if c ∈ cs then (match numOf a 31, numOf b 31 with
    | some x, some y => some (c, (x : Int), (y : Int))
    | _, _ => none) else none) = none
  by_cases hc : c ∈ cs
  · rw [if_pos hc]
    rcases h with h | h | h
    · rw [Option.isNone_iff_eq_none.mp h]
    · rw [Option.isNone_iff_eq_none.mp h]
      cases numOf a 31 <;> rfl
    · exact absurd hc h
  · rw [if_neg hc]
/-- a lamp's row that is none -/
theorem lamp_bad {d : Dr} {ws : List Str} {w : Str} (hw : w = "lamp") (cw : ∀ x ∈ w :: ws, Cw x) (h : lampOf d.cs (w :: ws) = none) : lineM d (Txt.join " " (w :: ws)) = none := by
  rw [lineM_join (by simp) cw, takeM_cons, if_neg (by rw [hw]; decide +kernel), if_neg (by rw [hw]; decide +kernel), if_pos hw]
  unfold takeL
  rw [h]
/-- a row whose first word is no row's -/
theorem none_bad {d : Dr} {ws : List Str} {w : Str} (cw : ∀ x ∈ w :: ws, Cw x) (h : w ∉ bars) : lineM d (Txt.join " " (w :: ws)) = none := by
  have n : ∀ b ∈ bars, ¬ w = b := fun b hb e => h (e ▸ hb)
  rw [lineM_join (by simp) cw, takeM_cons, if_neg (n "colours" (by decide +kernel)), if_neg (n "kind" (by decide +kernel)), if_neg (n "lamp" (by decide +kernel)), if_neg (n "sight" (by decide +kernel))]
theorem cw_dec {s : Str} (h : (decide (TL.tl s ≠ []) && (TL.tl s).all fun c => decide (c ≠ 32 ∧ c ≠ 35 ∧ c ≠ 10 ∧ c ≠ 9)) = true) : Cw s := by
  rw [Bool.and_eq_true] at h
  exact ⟨of_decide_eq_true h.1, fun c hc => of_decide_eq_true (List.all_eq_true.mp h.2 c hc)⟩
theorem isName_not {s : Str} (h : (TL.tl s).all (fun c => decide (97 ≤ c ∧ c ≤ 122)) = false) : ¬ IsName s := fun n => by
  have : (TL.tl s).all (fun c => decide (97 ≤ c ∧ c ≤ 122)) = true := List.all_eq_true.mpr fun c hc => decide_eq_true (n.2.2.1 c hc)
  rw [h] at this; cases this
theorem lamp_4 {d : Dr} {c a b pre rest : Str} (hc : Cw c) (ep : pre = "lamp ") (er : TL.tl rest = 32 :: (TL.tl a ++ 32 :: TL.tl b)) (ha : Cw a) (hb : Cw b) (h : (numOf a 31).isNone = true ∨ (numOf b 31).isNone = true ∨ c ∉ d.cs) : lineM d (pre ++ c ++ rest) = none := by
  have e : pre ++ c ++ rest = Txt.join " " [Str.ofString "lamp", c, a, b] := row_of rfl (by
    have e1 : TL.tl (Str.ofString "lamp ") = TL.tl (Str.ofString "lamp") ++ [32] := by decide +kernel
    rw [join_tl4, ep, er]
    show TL.tl (Str.ofString "lamp ") ++ _ = _
    rw [e1]; simp)
  rw [e]
  refine lamp_bad rfl (fun x hx => ?_) (lampOf_bad h)
  rcases List.mem_cons.mp hx with rfl | hx
  · exact cw_word.2.2.1
  rcases List.mem_cons.mp hx with rfl | hx
  · exact hc
  rcases List.mem_cons.mp hx with rfl | hx
  · exact ha
  · rw [List.mem_singleton.mp hx]; exact hb
theorem lamp_32 {d : Dr} {c : Str} (hn : IsName c) : lineM d ("lamp " ++ c ++ " 32 1") = none :=
  lamp_4 (cw_name hn) rfl (a := "32") (b := "1") (by decide +kernel) (cw_dec (by decide +kernel)) (cw_dec (by decide +kernel)) (.inl (by decide +kernel))
theorem join_tl2 (a b : Str) : TL.tl (Txt.join " " [a, b]) = TL.tl a ++ 32 :: TL.tl b := by
  rw [join_eq, tl_join, sep_blank.tl]; rfl
theorem join_tl5 (a b c d e : Str) : TL.tl (Txt.join " " [a, b, c, d, e]) = TL.tl a ++ 32 :: (TL.tl b ++ 32 :: (TL.tl c ++ 32 :: (TL.tl d ++ 32 :: TL.tl e))) := by
  rw [join_eq, tl_join, sep_blank.tl]; rfl
theorem lamp_sp : TL.tl (Str.ofString "lamp ") = TL.tl (Str.ofString "lamp") ++ [32] := by decide +kernel
theorem cws {l : List Str} (h : (l.all fun s => decide (TL.tl s ≠ []) && (TL.tl s).all fun c => decide (c ≠ 32 ∧ c ≠ 35 ∧ c ≠ 10 ∧ c ≠ 9)) = true) : ∀ x ∈ l, Cw x := fun x hx => cw_dec (List.all_eq_true.mp h x hx)
/-- a lamp's row of another length -/
theorem lamp_n {d : Dr} {c rest line : Str} {ws : List Str} (hc : Cw c) (el : line = "lamp " ++ c ++ rest) (er : TL.tl rest = TL.tl (Txt.join " " ([Str.empty] ++ ws)) ∨ (TL.tl rest = [] ∧ ws = [])) (hw : ∀ x ∈ ws, Cw x) (n : ws.length ≠ 2) : lineM d line = none := by
  have e : line = Txt.join " " (Str.ofString "lamp" :: c :: ws) := by
    refine ext_tl ?_
    rw [el, tl_append, tl_append, join_eq, tl_join, sep_blank.tl]
    show TL.tl (Str.ofString "lamp ") ++ TL.tl c ++ TL.tl rest = _
    rw [lamp_sp]
    rcases er with er | ⟨er, rfl⟩
    · rw [er, join_eq, tl_join, sep_blank.tl]
      cases ws with
      | nil => show _ ++ _ ++ joinL [32] [[]] = _ ++ ([32] ++ _); show _ ++ _ ++ [] = _; simp [joinL]
      | cons a r => show _ = TL.tl (Str.ofString "lamp") ++ ([32] ++ (TL.tl c ++ ([32] ++ joinL [32] ((a :: r).map TL.tl)))); show _ ++ _ ++ ([] ++ ([32] ++ joinL [32] ((a :: r).map TL.tl))) = _; simp
    · rw [er]; show _ = _ ++ ([32] ++ _); simp [joinL]
  rw [e]
  refine lamp_bad rfl (fun x hx => ?_) (lampOf_none (by simp only [List.length_cons]; omega))
  rcases List.mem_cons.mp hx with rfl | hx
  · exact cw_word.2.2.1
  rcases List.mem_cons.mp hx with rfl | hx
  · exact hc
  · exact hw x hx
theorem lamp_2 {d : Dr} {c : Str} (hn : IsName c) : lineM d ("lamp " ++ c) = none := lamp_n (rest := "") (ws := []) (cw_name hn) (by
  refine ext_tl ?_
  rw [tl_append, tl_append, tl_append]
  have : TL.tl (Str.ofString "") = [] := by decide +kernel
  show _ = _ ++ _ ++ TL.tl (Str.ofString "")
  rw [this]; simp) (.inr ⟨by decide +kernel, rfl⟩) (by simp) (by decide)
theorem lamp_3 {d : Dr} {c : Str} (hn : IsName c) : lineM d ("lamp " ++ c ++ " 1") = none := lamp_n (rest := " 1") (ws := ["1"]) (cw_name hn) rfl (.inl (by decide +kernel)) (cws (by decide +kernel)) (by decide)
theorem lamp_5 {d : Dr} {c : Str} (hn : IsName c) : lineM d ("lamp " ++ c ++ " 1 2 3") = none := lamp_n (rest := " 1 2 3") (ws := ["1", "2", "3"]) (cw_name hn) rfl (.inl (by decide +kernel)) (cws (by decide +kernel)) (by decide)
theorem wrong_word {d : Dr} {a c rest : Str} {w : Str} {ws : List Str} (hc : Cw c) (ea : TL.tl a = TL.tl w ++ [32]) (er : TL.tl rest = TL.tl (Txt.join " " ([Str.empty] ++ ws))) (hws : ws ≠ []) (hw : Cw w) (hx : ∀ x ∈ ws, Cw x) (nb : w ∉ bars) : lineM d (a ++ c ++ rest) = none := by
  have e : a ++ c ++ rest = Txt.join " " (w :: c :: ws) := by
    refine ext_tl ?_
    rw [tl_append, tl_append, join_eq, tl_join, sep_blank.tl, ea, er, join_eq, tl_join, sep_blank.tl]
    cases ws with
    | nil => exact absurd rfl hws
    | cons x r => show _ ++ _ ++ ([] ++ ([32] ++ joinL [32] ((x :: r).map TL.tl))) = TL.tl w ++ ([32] ++ (TL.tl c ++ ([32] ++ joinL [32] ((x :: r).map TL.tl)))); simp
  rw [e]
  refine none_bad (fun x h => ?_) nb
  rcases List.mem_cons.mp h with rfl | h
  · exact hw
  rcases List.mem_cons.mp h with rfl | h
  · exact hc
  · exact hx x h
/-- "lamp 1 2 " and a colour: no colour is a number -/
theorem lamp_rev {d : Dr} {c : Str} (hn : IsName c) (hd : ∀ x ∈ d.cs, IsName x) : lineM d ("lamp 1 2 " ++ c) = none := by
  have e : ("lamp 1 2 " ++ c : Str) = Txt.join " " [Str.ofString "lamp", Str.ofString "1", Str.ofString "2", c] := by
    refine ext_tl ?_
    rw [join_tl4, tl_append]
    have e1 : TL.tl (Str.ofString "lamp 1 2 ") = TL.tl (Str.ofString "lamp") ++ 32 :: (TL.tl (Str.ofString "1") ++ 32 :: (TL.tl (Str.ofString "2") ++ [32])) := by decide +kernel
    show TL.tl (Str.ofString "lamp 1 2 ") ++ _ = _
    rw [e1]; simp
  rw [e]
  refine lamp_bad rfl (fun x hx => ?_) (lampOf_bad (.inr (.inr fun h => isName_not (by decide +kernel) (hd _ h))))
  rcases List.mem_cons.mp hx with rfl | hx
  · exact cw_word.2.2.1
  rcases List.mem_cons.mp hx with rfl | hx
  · exact cw_dec (by decide +kernel)
  rcases List.mem_cons.mp hx with rfl | hx
  · exact cw_dec (by decide +kernel)
  · rw [List.mem_singleton.mp hx]; exact cw_name hn
theorem lamp_zzq {d : Dr} (hz : Str.ofString "zzq" ∉ d.cs) : lineM d "lamp zzq 1 2" = none := by
  have e : ("lamp zzq 1 2" : Str) = Txt.join " " [Str.ofString "lamp", Str.ofString "zzq", Str.ofString "1", Str.ofString "2"] := by decide +kernel
  rw [e]
  exact lamp_bad rfl (cws (by decide +kernel)) (lampOf_bad (.inr (.inr hz)))
theorem upper_at : ∀ k : Nat, k < 26 → Unicode.upperOf (97 + k) = [65 + k] := by decide +kernel
theorem upper_tl {c : Str} (hn : IsName c) : TL.tl (Txt.upper c) = (TL.tl c).map fun x => x - 32 := by
  have go : ∀ l : List Nat, (∀ x ∈ l, 97 ≤ x ∧ x ≤ 122) → TL.tl (Txt.upper ⟨l.toArray⟩) = l.map fun x => x - 32 := by
    intro l
    induction l with
    | nil => intro _; decide +kernel
    | cons a l ih =>
      intro h
      have ha := h a List.mem_cons_self
      have e : (⟨(a :: l).toArray⟩ : Str) = ⟨#[a]⟩ ++ ⟨l.toArray⟩ := by
        refine ext_tl ?_
        rw [tl_append]
        rfl
      rw [e, PySem.W.KOpn.upper_app, tl_append, ih fun x hx => h x (List.mem_cons_of_mem _ hx), PySem.W.KOpn.upper_one (by omega), if_pos ha]
      rfl
  have := go (TL.tl c) hn.2.2.1
  rw [mk_tl] at this
  exact this
theorem lamp_upper {d : Dr} {c : Str} (hn : IsName c) (hd : ∀ x ∈ d.cs, IsName x) : lineM d ("lamp " ++ Txt.upper c ++ "Q 1 2") = none := by
  have hq : TL.tl (Txt.upper c ++ Str.ofString "Q") = (TL.tl c).map (fun x => x - 32) ++ [81] := by
    rw [tl_append, upper_tl hn]
    have : TL.tl (Str.ofString "Q") = [81] := by decide +kernel
    rw [this]
  have e : ("lamp " ++ Txt.upper c ++ "Q 1 2" : Str) = Txt.join " " [Str.ofString "lamp", Txt.upper c ++ Str.ofString "Q", Str.ofString "1", Str.ofString "2"] := by
    refine ext_tl ?_
    rw [join_tl4, tl_append, tl_append, hq, upper_tl hn]
    have e2 : TL.tl (Str.ofString "Q 1 2") = 81 :: 32 :: (TL.tl (Str.ofString "1") ++ 32 :: TL.tl (Str.ofString "2")) := by decide +kernel
    show TL.tl (Str.ofString "lamp ") ++ _ ++ TL.tl (Str.ofString "Q 1 2") = _
    rw [lamp_sp, e2]; simp
  have cw : Cw (Txt.upper c ++ Str.ofString "Q") := by
    unfold Cw
    rw [hq]
    refine ⟨by simp, fun x hx => ?_⟩
    rcases List.mem_append.mp hx with hx | hx
    · obtain ⟨y, hy, rfl⟩ := List.mem_map.mp hx
      have := hn.2.2.1 y hy
      omega
    · rw [List.mem_singleton.mp hx]; decide
  have no : (Txt.upper c ++ Str.ofString "Q") ∉ d.cs := fun h => by
    have := (hd _ h).2.2.1 81 (by show 81 ∈ TL.tl _; rw [hq]; simp)
    omega
  rw [e]
  refine lamp_bad rfl (fun x hx => ?_) (lampOf_bad (.inr (.inr no)))
  rcases List.mem_cons.mp hx with rfl | hx
  · exact cw_word.2.2.1
  rcases List.mem_cons.mp hx with rfl | hx
  · exact cw
  rcases List.mem_cons.mp hx with rfl | hx
  · exact cw_dec (by decide +kernel)
  · rw [List.mem_singleton.mp hx]; exact cw_dec (by decide +kernel)
theorem oddLamp_bad {d : Dr} {c l : Str} (hc : d.cs ≠ []) (hn : IsName c) (hd : ∀ x ∈ d.cs, IsName x) (hz : Str.ofString "zzq" ∉ d.cs) (h : l ∈ oddLamp c) : lineM d l = none := by
  unfold oddLamp at h
  simp only [List.mem_cons, List.not_mem_nil, or_false] at h
  rcases h with rfl | rfl | rfl | rfl | rfl | rfl | rfl | rfl | rfl | rfl | rfl | rfl | rfl | rfl | rfl | rfl | rfl
  · exact dead (by decide +kernel) d
  · exact lamp_2 hn
  · exact lamp_3 hn
  · exact lamp_32 hn
  · exact lamp_4 (cw_name hn) rfl (a := "1") (b := "32") (by decide +kernel) (cw_dec (by decide +kernel)) (cw_dec (by decide +kernel)) (.inr (.inl (by decide +kernel)))
  · exact lamp_4 (cw_name hn) rfl (a := "-1") (b := "1") (by decide +kernel) (cw_dec (by decide +kernel)) (cw_dec (by decide +kernel)) (.inl (by decide +kernel))
  · exact lamp_4 (cw_name hn) rfl (a := "01") (b := "1") (by decide +kernel) (cw_dec (by decide +kernel)) (cw_dec (by decide +kernel)) (.inl (by decide +kernel))
  · exact lamp_zzq hz
  · exact lamp_4 (cw_name hn) rfl (a := "x") (b := "2") (by decide +kernel) (cw_dec (by decide +kernel)) (cw_dec (by decide +kernel)) (.inl (by decide +kernel))
  · exact lamp_rev hn hd
  · exact dead (by decide +kernel) d
  · exact wrong_word (w := "lamps") (ws := ["1", "2"]) (cw_name hn) (by decide +kernel) (by decide +kernel) (by simp) (cw_dec (by decide +kernel)) (cws (by decide +kernel)) (by decide +kernel)
  · exact colours_a hc
  · exact lamp_5 hn
  · exact lamp_4 (cw_name hn) rfl (a := "1") (b := "02") (by decide +kernel) (cw_dec (by decide +kernel)) (cw_dec (by decide +kernel)) (.inr (.inl (by decide +kernel)))
  · exact lamp_upper hn hd
  · exact wrong_word (w := "Lamp") (ws := ["1", "2"]) (cw_name hn) (by decide +kernel) (by decide +kernel) (by simp) (cw_dec (by decide +kernel)) (cws (by decide +kernel)) (by decide +kernel)
end DL
set_option Elab.async false
set_option linter.all false
set_option maxRecDepth 100000
set_option maxHeartbeats 1000001
namespace DL
open PySem L2 TL
/-! sights -/
theorem sight_bad {d : Dr} {ws : List Str} {w : Str} (hw : w = "sight") (cw : ∀ x ∈ w :: ws, Cw x) (h : sightOf d.cs (w :: ws) = none) : lineM d (Txt.join " " (w :: ws)) = none := by
  rw [lineM_join (by simp) cw, takeM_cons, if_neg (by rw [hw]; decide +kernel), if_neg (by rw [hw]; decide +kernel), if_neg (by rw [hw]; decide +kernel), if_pos hw]
  unfold takeS
  rw [h]
theorem sightOf_col {cs col : List Str} {w m p : Str} {x : Str} (hx : x ∈ col) (h : x ∉ cs) : sightOf cs (w :: m :: p :: col) = none := by
  show (if col.length ≤ 6 then (match numOf m 99, numOf p 31 with
    | some x, some y => if col.all (fun c => decide (c ∈ cs)) = true then some ((x : Int), (y : Int), col) else none
    | _, _ => none) else none) = none
  have ha : ¬ (col.all (fun c => decide (c ∈ cs)) = true) := fun z => h (of_decide_eq_true (List.all_eq_true.mp z x hx))
  split
  · split
    · first
        | rfl
        | exact if_neg ha
    · rfl
  · rfl
theorem numOf_name {s : Str} (h : IsName s) (m : Nat) : numOf s m = none := by
  unfold numOf
  rw [List.find?_eq_none]
  intro k _ e
  have e' : s = numT k := of_decide_eq_true e
  have ne := numL_ne k
  cases hk : numL k with
  | nil => exact ne hk
  | cons a r =>
    have ha : a ∈ TL.tl s := by rw [e']; unfold numT; rw [tl_num, hk]; simp
    have hd : ¬ (a < 48 ∨ 57 < a) := fun z => numL_free (n := k) z (by rw [hk]; simp)
    have := h.2.2.1 a ha
    omega
theorem sightOf_num {cs col : List Str} {w m p : Str} (h : numOf m 99 = none) : sightOf cs (w :: m :: p :: col) = none := by
  show (if col.length ≤ 6 then (match numOf m 99, numOf p 31 with
    | some x, some y => if col.all (fun c => decide (c ∈ cs)) = true then some ((x : Int), (y : Int), col) else none
    | _, _ => none) else none) = none
  rw [h]
  split <;> rfl
/-- fixed: a sight's row whose column has what is no colour -/
theorem sight_zzq {d : Dr} (hz : Str.ofString "zzq" ∉ d.cs) : lineM d "sight 1 1 zzq" = none := by
  have e : ("sight 1 1 zzq" : Str) = Txt.join " " [Str.ofString "sight", Str.ofString "1", Str.ofString "1", Str.ofString "zzq"] := by decide +kernel
  rw [e]
  exact sight_bad rfl (cws (by decide +kernel)) (sightOf_col (x := Str.ofString "zzq") (by simp) hz)
theorem sight_111 {d : Dr} (hd : ∀ x ∈ d.cs, IsName x) : lineM d "sight 1 1 1" = none := by
  have e : ("sight 1 1 1" : Str) = Txt.join " " [Str.ofString "sight", Str.ofString "1", Str.ofString "1", Str.ofString "1"] := by decide +kernel
  rw [e]
  exact sight_bad rfl (cws (by decide +kernel)) (sightOf_col (x := Str.ofString "1") (by simp) fun h => isName_not (by decide +kernel) (hd _ h))
theorem sight_dark {d : Dr} (hd : ∀ x ∈ d.cs, IsName x) : lineM d "sight 1 1 dark1" = none := by
  have e : ("sight 1 1 dark1" : Str) = Txt.join " " [Str.ofString "sight", Str.ofString "1", Str.ofString "1", Str.ofString "dark1"] := by decide +kernel
  rw [e]
  exact sight_bad rfl (cws (by decide +kernel)) (sightOf_col (x := Str.ofString "dark1") (by simp) fun h => isName_not (by decide +kernel) (hd _ h))
theorem kind_late {d : Dr} (hs : d.ss ≠ []) : lineM d "kind zzqzzq 1" = none := by
  have e : wordsOf "kind zzqzzq 1" = [Str.ofString "kind", Str.ofString "zzqzzq", Str.ofString "1"] := by decide +kernel
  unfold lineM
  rw [if_neg (by decide +kernel), e, if_neg (by simp), takeM_cons, if_neg (by decide +kernel), if_pos (by rfl)]
  have m : mayB d = false := by
    unfold mayB
    have : d.ss.isEmpty = false := by cases h : d.ss <;> simp [h] at hs ⊢
    rw [this]; simp
  unfold takeK
  rw [m]
  cases kindOf [Str.ofString "kind", Str.ofString "zzqzzq", Str.ofString "1"] with
  | none => rfl
  | some p => exact if_neg fun z => by cases z.1
theorem lamp_late {d : Dr} {c : Str} (hn : IsName c) (hs : d.ss ≠ []) : lineM d ("lamp " ++ c ++ " 1 2") = none := by
  have e : ("lamp " ++ c ++ " 1 2" : Str) = Txt.join " " [Str.ofString "lamp", c, Str.ofString "1", Str.ofString "2"] := row_of rfl (by
    have er : TL.tl (Str.ofString " 1 2") = 32 :: (TL.tl (Str.ofString "1") ++ 32 :: TL.tl (Str.ofString "2")) := by decide +kernel
    rw [join_tl4, er]
    show TL.tl (Str.ofString "lamp ") ++ _ = _
    rw [lamp_sp]; simp)
  rw [e, lineM_join (by simp) fun x hx => ?_]
  · rw [takeM_cons, if_neg (by decide +kernel), if_neg (by decide +kernel), if_pos (by rfl)]
    unfold takeL
    split
    · split
      · exact if_neg fun z => hs z.1
      · rfl
    · rfl
  · rcases List.mem_cons.mp hx with rfl | hx
    · exact cw_word.2.2.1
    rcases List.mem_cons.mp hx with rfl | hx
    · exact cw_name hn
    rcases List.mem_cons.mp hx with rfl | hx
    · exact cw_dec (by decide +kernel)
    · rw [List.mem_singleton.mp hx]; exact cw_dec (by decide +kernel)
theorem s11 : TL.tl (Str.ofString "sight 1 1 ") = TL.tl (Str.ofString "sight") ++ 32 :: (TL.tl (Str.ofString "1") ++ 32 :: (TL.tl (Str.ofString "1") ++ [32])) := by decide +kernel
theorem sight_c_zzq {d : Dr} {c : Str} (hn : IsName c) (hz : Str.ofString "zzq" ∉ d.cs) : lineM d ("sight 1 1 " ++ c ++ " zzq") = none := by
  have e : ("sight 1 1 " ++ c ++ " zzq" : Str) = Txt.join " " [Str.ofString "sight", Str.ofString "1", Str.ofString "1", c, Str.ofString "zzq"] := row_of rfl (by
    have er : TL.tl (Str.ofString " zzq") = 32 :: TL.tl (Str.ofString "zzq") := by decide +kernel
    rw [join_tl5, er]
    show TL.tl (Str.ofString "sight 1 1 ") ++ _ = _
    rw [s11]; simp)
  rw [e]
  refine sight_bad rfl (fun x hx => ?_) (sightOf_col (x := Str.ofString "zzq") (by simp) hz)
  rcases List.mem_cons.mp hx with rfl | hx
  · exact cw_word.2.2.2
  rcases List.mem_cons.mp hx with rfl | hx
  · exact cw_dec (by decide +kernel)
  rcases List.mem_cons.mp hx with rfl | hx
  · exact cw_dec (by decide +kernel)
  rcases List.mem_cons.mp hx with rfl | hx
  · exact cw_name hn
  · rw [List.mem_singleton.mp hx]; exact cw_dec (by decide +kernel)
theorem sight_comma {d : Dr} {c : Str} (hn : IsName c) (hd : ∀ x ∈ d.cs, IsName x) : lineM d ("sight 1 1 " ++ c ++ ",") = none := by
  have hq : TL.tl (c ++ Str.ofString ",") = TL.tl c ++ [44] := by
    rw [tl_append]
    have : TL.tl (Str.ofString ",") = [44] := by decide +kernel
    rw [this]
  have e : ("sight 1 1 " ++ c ++ "," : Str) = Txt.join " " [Str.ofString "sight", Str.ofString "1", Str.ofString "1", c ++ Str.ofString ","] := row_of rfl (by
    rw [join_tl4, tl_append]
    show TL.tl (Str.ofString "sight 1 1 ") ++ (TL.tl c ++ TL.tl (Str.ofString ",")) = _
    rw [s11]; simp)
  rw [e]
  refine sight_bad rfl (fun x hx => ?_) (sightOf_col (x := c ++ Str.ofString ",") (by simp) fun h => ?_)
  · rcases List.mem_cons.mp hx with rfl | hx
    · exact cw_word.2.2.2
    rcases List.mem_cons.mp hx with rfl | hx
    · exact cw_dec (by decide +kernel)
    rcases List.mem_cons.mp hx with rfl | hx
    · exact cw_dec (by decide +kernel)
    · rw [List.mem_singleton.mp hx]
      unfold Cw
      rw [hq]
      refine ⟨by simp, fun y hy => ?_⟩
      rcases List.mem_append.mp hy with hy | hy
      · exact (cw_name hn).2 y hy
      · rw [List.mem_singleton.mp hy]; decide
  · have := (hd _ h).2.2.1 44 (by show 44 ∈ TL.tl _; rw [hq]; simp)
    omega
theorem sight_swap {d : Dr} {c : Str} (hn : IsName c) : lineM d ("sight " ++ c ++ " 1 1") = none := by
  have e : ("sight " ++ c ++ " 1 1" : Str) = Txt.join " " [Str.ofString "sight", c, Str.ofString "1", Str.ofString "1"] := row_of rfl (by
    have e1 : TL.tl (Str.ofString "sight ") = TL.tl (Str.ofString "sight") ++ [32] := by decide +kernel
    have er : TL.tl (Str.ofString " 1 1") = 32 :: (TL.tl (Str.ofString "1") ++ 32 :: TL.tl (Str.ofString "1")) := by decide +kernel
    rw [join_tl4, er]
    show TL.tl (Str.ofString "sight ") ++ _ = _
    rw [e1]; simp)
  rw [e]
  refine sight_bad rfl (fun x hx => ?_) (sightOf_num (numOf_name hn 99))
  rcases List.mem_cons.mp hx with rfl | hx
  · exact cw_word.2.2.2
  rcases List.mem_cons.mp hx with rfl | hx
  · exact cw_name hn
  rcases List.mem_cons.mp hx with rfl | hx
  · exact cw_dec (by decide +kernel)
  · rw [List.mem_singleton.mp hx]; exact cw_dec (by decide +kernel)
theorem sight_bare {d : Dr} {c : Str} (hn : IsName c) : lineM d ("1 1 " ++ c) = none := by
  have e : ("1 1 " ++ c : Str) = Txt.join " " [Str.ofString "1", Str.ofString "1", c] := by
    refine ext_tl ?_
    rw [join_tl3, tl_append]
    have e1 : TL.tl (Str.ofString "1 1 ") = TL.tl (Str.ofString "1") ++ 32 :: (TL.tl (Str.ofString "1") ++ [32]) := by decide +kernel
    show TL.tl (Str.ofString "1 1 ") ++ _ = _
    rw [e1]; simp
  rw [e]
  refine none_bad (fun x hx => ?_) (by decide +kernel)
  rcases List.mem_cons.mp hx with rfl | hx
  · exact cw_dec (by decide +kernel)
  rcases List.mem_cons.mp hx with rfl | hx
  · exact cw_dec (by decide +kernel)
  · rw [List.mem_singleton.mp hx]; exact cw_name hn
theorem sight_seven {d : Dr} {c : Str} (hn : IsName c) : lineM d ("sight 1 1" ++ repS (" " ++ c) 7) = none := by
  have e : ("sight 1 1" ++ repS (" " ++ c) 7 : Str) = Txt.join " " [Str.ofString "sight", Str.ofString "1", Str.ofString "1", c, c, c, c, c, c, c] := by
    refine ext_tl ?_
    rw [join_eq, tl_join, sep_blank.tl, tl_append]
    have e0 : TL.tl (Str.ofString "sight 1 1") = TL.tl (Str.ofString "sight") ++ 32 :: (TL.tl (Str.ofString "1") ++ 32 :: TL.tl (Str.ofString "1")) := by decide +kernel
    have e1 : TL.tl (repS (Str.ofString " " ++ c) 7) = (List.replicate 7 (TL.tl (Str.ofString " " ++ c))).flatten := rfl
    have e2 : TL.tl (Str.ofString " " ++ c) = 32 :: TL.tl c := by
      rw [tl_append]
      have : TL.tl (Str.ofString " ") = [32] := by decide +kernel
      rw [this]; rfl
    show TL.tl (Str.ofString "sight 1 1") ++ TL.tl (repS (Str.ofString " " ++ c) 7) = _
    rw [e0, e1, e2]
    show _ = TL.tl (Str.ofString "sight") ++ ([32] ++ (TL.tl (Str.ofString "1") ++ ([32] ++ (TL.tl (Str.ofString "1") ++ ([32] ++ (TL.tl c ++ ([32] ++ (TL.tl c ++ ([32] ++ (TL.tl c ++ ([32] ++ (TL.tl c ++ ([32] ++ (TL.tl c ++ ([32] ++ (TL.tl c ++ ([32] ++ TL.tl c)))))))))))))))))
    simp [List.replicate]
  rw [e]
  refine sight_bad rfl (fun x hx => ?_) (sightOf_few (by simp))
  simp only [List.mem_cons, List.not_mem_nil, or_false] at hx
  rcases hx with rfl | rfl | rfl | rfl | rfl | rfl | rfl | rfl | rfl | rfl
  · exact cw_word.2.2.2
  · exact cw_dec (by decide +kernel)
  · exact cw_dec (by decide +kernel)
  all_goals exact cw_name hn
/-- a line that says neither a kind nor a lamp, or behind a sight -/
theorem oddSight_bad {d : Dr} {c l : Str} (hc : d.cs ≠ []) (hn : IsName c) (hd : ∀ x ∈ d.cs, IsName x) (hz : Str.ofString "zzq" ∉ d.cs) (h : l ∈ oddSight c) (hs : d.ss ≠ [] ∨ (l ≠ "kind zzqzzq 1" ∧ l ≠ "lamp " ++ c ++ " 1 2")) : lineM d l = none := by
  unfold oddSight at h
  simp only [List.mem_cons, List.not_mem_nil, or_false] at h
  rcases h with rfl | rfl | rfl | rfl | rfl | rfl | rfl | rfl | rfl | rfl | rfl | rfl | rfl | rfl | rfl | rfl | rfl | rfl | rfl | rfl | rfl | rfl | rfl | rfl | rfl | rfl
  · exact dead (by decide +kernel) d
  · exact dead (by decide +kernel) d
  · exact dead (by decide +kernel) d
  · exact dead (by decide +kernel) d
  · exact dead (by decide +kernel) d
  · exact dead (by decide +kernel) d
  · exact dead (by decide +kernel) d
  · exact dead (by decide +kernel) d
  · exact sight_zzq hz
  · exact sight_c_zzq hn hz
  · exact sight_seven hn
  · exact dead (by decide +kernel) d
  · exact sight_swap hn
  · exact dead (by decide +kernel) d
  · exact sight_bare hn
  · exact dead (by decide +kernel) d
  · exact dead (by decide +kernel) d
  · exact colours_a hc
  · exact kind_late (hs.resolve_right fun z => z.1 rfl)
  · exact lamp_late hn (hs.resolve_right fun z => z.2 rfl)
  · exact sight_comma hn hd
  · exact dead (by decide +kernel) d
  · exact dead (by decide +kernel) d
  · exact sight_111 hd
  · exact dead (by decide +kernel) d
  · exact sight_dark hd
end DL
set_option Elab.async false
set_option linter.all false
set_option maxRecDepth 100000
set_option maxHeartbeats 1000001
namespace DL
open PySem L2 TL
/-! ### spoilt texts -/
theorem joinL_len {S : List Nat} {c : Nat} (hS : S.length ≤ 1) : ∀ {ps : List (List Nat)}, (∀ p ∈ ps, p.length ≤ c) → (joinL S ps).length ≤ (c + 1) * ps.length
  | [], _ => by simp [joinL]
  | [p], h => by have := h p (by simp); simp [joinL]; omega
  | p :: q :: r, h => by
    have e : joinL S (p :: q :: r) = p ++ (S ++ joinL S (q :: r)) := rfl
    have h1 := h p (by simp)
    have h2 := joinL_len (c := c) hS (ps := q :: r) fun x hx => h x (List.mem_cons_of_mem _ hx)
    rw [e, List.length_append, List.length_append]
    rw [List.length_cons (a := p), Nat.mul_add]
    omega
theorem join_len {y : Str} {c : Nat} (hy : y.length ≤ 1) {ws : List Str} (h : ∀ w ∈ ws, w.length ≤ c) : (Txt.join y ws).length ≤ (c + 1) * ws.length := by
  rw [join_eq, len_tl, tl_join]
  have := joinL_len (c := c) (S := TL.tl y) (by rw [← len_tl]; exact hy) (ps := ws.map TL.tl) fun p hp => by
    obtain ⟨w, hw, rfl⟩ := List.mem_map.mp hp
    rw [← len_tl]; exact h w hw
  rw [List.length_map] at this
  exact this
/-- a line of a good text is short and whole -/
def LineOk (l : Str) : Prop := l.length ≤ 100 ∧ 10 ∉ TL.tl l
theorem lineOk_join {ws : List Str} (h : ∀ w ∈ ws, Cw w) (hl : ∀ w ∈ ws, w.length ≤ 9) (hn : ws.length ≤ 10) : LineOk (Txt.join " " ws) := by
  refine ⟨?_, (join_clean h).2⟩
  have := join_len (y := " ") (by decide +kernel) hl
  omega
theorem numT_len {n : Nat} (h : n < 1000) : (numT n).length ≤ 3 := by
  show (Str.ofString (toString (n : Int))).length ≤ 3
  rw [len_tl, tl_num]
  exact TL.numL_len (by decide) (by omega)
theorem words_int {i : Int} (h0 : 0 ≤ i) (h1 : i < 1000) : Cw (wText (.inr i)) ∧ (wText (.inr i)).length ≤ 9 := by
  rw [wText_int h0]
  exact ⟨cw_num _, Nat.le_trans (numT_len (by omega)) (by decide)⟩
theorem words_name {s : Str} (h : IsName s) : Cw s ∧ s.length ≤ 9 := ⟨cw_name h, Nat.le_trans h.2.1 (by decide)⟩
theorem words_fix : (Cw "colours" ∧ (Str.ofString "colours").length ≤ 9) ∧ (Cw "kind" ∧ (Str.ofString "kind").length ≤ 9) ∧ (Cw "lamp" ∧ (Str.ofString "lamp").length ≤ 9) ∧ (Cw "sight" ∧ (Str.ofString "sight").length ≤ 9) :=
  ⟨⟨cw_word.1, by decide +kernel⟩, ⟨cw_word.2.1, by decide +kernel⟩, ⟨cw_word.2.2.1, by decide +kernel⟩, ⟨cw_word.2.2.2, by decide +kernel⟩⟩
theorem row_line {ws : List Word} (h : ∀ w ∈ ws, Cw (wText w) ∧ (wText w).length ≤ 9) (hn : ws.length ≤ 10) : LineOk (rowOf ws) :=
  lineOk_join (fun w hw => by obtain ⟨x, hx, rfl⟩ := List.mem_map.mp hw; exact (h x hx).1) (fun w hw => by obtain ⟨x, hx, rfl⟩ := List.mem_map.mp hw; exact (h x hx).2) (by rw [List.length_map]; exact hn)
theorem colours_line {cs : List Str} (h6 : cs.length ≤ 6) (hn : ∀ c ∈ cs, IsName c) : LineOk (rowOf (colourWords cs)) :=
  row_line (fun w hw => by
    rcases List.mem_cons.mp hw with rfl | hw
    · exact words_fix.1
    · obtain ⟨c, hc, rfl⟩ := List.mem_map.mp hw; exact words_name (hn c hc)) (by unfold colourWords; rw [List.length_cons, List.length_map]; omega)
theorem kind_line {k : Kind} (hn : IsName k.1) (h0 : 0 ≤ k.2.1) (h1 : k.2.1 ≤ 16) : LineOk (rowOf (kindWords k)) :=
  row_line (fun w hw => by
    unfold kindWords at hw
    simp only [List.mem_cons, List.not_mem_nil, or_false] at hw
    rcases hw with rfl | rfl | rfl
    · exact words_fix.2.1
    · exact words_name hn
    · exact words_int h0 (by omega)) (by unfold kindWords; simp)
theorem lamp_line {cs : List Str} {l : Lamp} (hn : IsName l.1) (g : GoodLamp cs l) : LineOk (rowOf (lampWords l)) :=
  row_line (fun w hw => by
    unfold lampWords at hw
    simp only [List.mem_cons, List.not_mem_nil, or_false] at hw
    rcases hw with rfl | rfl | rfl | rfl
    · exact words_fix.2.2.1
    · exact words_name hn
    · exact words_int g.2.1 (by have := g.2.2.1; omega)
    · exact words_int g.2.2.2.1 (by have := g.2.2.2.2; omega)) (by unfold lampWords; simp)
theorem sight_line {cs : List Str} {s : Sight} (hn : ∀ c ∈ cs, IsName c) (g : GoodSight cs s) : LineOk (rowOf (sightWords s)) :=
  row_line (fun w hw => by
    unfold sightWords at hw
    rcases List.mem_cons.mp hw with rfl | hw
    · exact words_fix.2.2.2
    rcases List.mem_cons.mp hw with rfl | hw
    · exact words_int g.1 (by have := g.2.1; omega)
    rcases List.mem_cons.mp hw with rfl | hw
    · exact words_int g.2.2.1 (by have := g.2.2.2.1; omega)
    · obtain ⟨c, hc, rfl⟩ := List.mem_map.mp hw; exact words_name (hn c (g.2.2.2.2.2 c hc))) (by
      unfold sightWords; rw [List.length_cons, List.length_cons, List.length_cons, List.length_map]; have := g.2.2.2.2.1; omega)
theorem kindLines_few {cs : List Str} : ∀ {ks : List Kind}, (∀ k ∈ ks, GoodKind cs k) → ((ks.map kindLines).flatten).length ≤ 7 * ks.length
  | [], _ => Nat.le_refl _
  | k :: ks, h => by
    have h1 := kindLines_few fun x hx => h x (List.mem_cons_of_mem _ hx)
    have h2 := (h k List.mem_cons_self).2.2.2.1
    rw [List.map_cons, List.flatten_cons, List.length_append, kindLines_len, List.length_cons]
    omega
theorem head_few {f : Flt} {ss : List Sight} (T : TextOk f ss) : (headLines f).length ≤ 43 := by
  unfold headLines
  rw [List.length_cons]
  have := kindLines_few T.kg
  have := T.k6
  omega
theorem good_lines {f : Flt} {ss : List Sight} (T : TextOk f ss) : ∀ l ∈ linesOf f ss, LineOk l := fun l hl => by
  unfold linesOf headLines at hl
  rcases List.mem_append.mp hl with hl | hl
  · rcases List.mem_cons.mp hl with rfl | hl
    · exact colours_line T.c6 T.cn
    · obtain ⟨r, hr, hl⟩ := List.mem_flatten.mp hl
      obtain ⟨k, hk, rfl⟩ := List.mem_map.mp hr
      have g := T.kg k hk
      unfold kindLines at hl
      rcases List.mem_cons.mp hl with rfl | hl
      · exact kind_line (T.kn k hk) g.1 g.2.1
      · obtain ⟨x, hx, rfl⟩ := List.mem_map.mp hl
        have gl := g.2.2.2.2 x hx
        exact lamp_line (T.cn _ gl.1) gl
  · obtain ⟨s, hs, rfl⟩ := List.mem_map.mp hl
    exact sight_line T.cn (T.sg s hs)
/-! the first rows, one by one -/
theorem text_begin {f : Flt} {ss : List Sight} (T : TextOk f ss) : ∃ (k : Str) (t : Int) (l : Lamp) (ls : List Lamp) (ks : List Kind), f.2 = (k, t, l :: ls) :: ks ∧ linesOf f ss = rowOf (colourWords f.1) :: rowOf (kindWords (k, t, l :: ls)) :: rowOf (lampWords l) :: ((ls.map fun l => rowOf (lampWords l)) ++ (ks.map kindLines).flatten ++ ss.map fun s => rowOf (sightWords s)) ∧
    headLines f = rowOf (colourWords f.1) :: rowOf (kindWords (k, t, l :: ls)) :: rowOf (lampWords l) :: ((ls.map fun l => rowOf (lampWords l)) ++ (ks.map kindLines).flatten) := by
  have h1 := T.k1
  cases e : f.2 with
  | nil => rw [e] at h1; simp at h1
  | cons k0 ks =>
    obtain ⟨k, t, ll⟩ := k0
    have g := T.kg (k, t, ll) (by rw [e]; simp)
    have g1 := g.2.2.1
    cases ll with
    | nil => simp at g1
    | cons l ls =>
      refine ⟨k, t, l, ls, ks, rfl, ?_, ?_⟩
      · unfold linesOf headLines
        rw [e]
        simp [kindLines]
      · unfold headLines
        rw [e]
        simp [kindLines]
section
variable {f : Flt} {ss : List Sight} {k : Str} {t : Int} {l : Lamp} {ls : List Lamp} {ks : List Kind}
theorem st1 (T : TextOk f ss) : lineM dr0 (rowOf (colourWords f.1)) = some ⟨f.1, [], []⟩ := take_colours T.c1 T.c6 T.cd T.cn
theorem st2 (T : TextOk f ss) (e : f.2 = (k, t, l :: ls) :: ks) : lineM ⟨f.1, [], []⟩ (rowOf (kindWords (k, t, l :: ls))) = some ⟨f.1, [(k, t, [])], []⟩ := by
  have g := T.kg (k, t, l :: ls) (by rw [e]; simp)
  exact take_kind (d := ⟨f.1, [], []⟩) (T.kn (k, t, l :: ls) (by rw [e]; simp)) g.1 g.2.1 (may_of T.c1 (by decide) (fun _ h => nomatch h)) (by simp) _
theorem st3 (T : TextOk f ss) (e : f.2 = (k, t, l :: ls) :: ks) : lineM ⟨f.1, [(k, t, [])], []⟩ (rowOf (lampWords l)) = some ⟨f.1, [(k, t, [l])], []⟩ := by
  have g := T.kg (k, t, l :: ls) (by rw [e]; simp)
  have gl := g.2.2.2.2 l (by simp)
  exact take_lamp (d := ⟨f.1, [(k, t, [])], []⟩) (k0 := []) (k := (k, t, [])) (T.cn _ gl.1) gl rfl (by show (0 : Nat) < 6; decide) rfl
end
theorem takeM_none {d : Dr} {ws : List Str} (hc : takeC d ws = none) (hk : takeK d ws = none) (hl : takeL d ws = none) (hs : takeS d ws = none) : takeM d ws = none := by
  cases ws with
  | nil => rfl
  | cons w r =>
    rw [takeM_cons, hc, hk, hl, hs]
    simp only [ite_self]
theorem takeK_may {d : Dr} {ws : List Str} (h : mayB d = false) : takeK d ws = none := by
  unfold takeK
  cases kindOf ws with
  | none => rfl
  | some p =>
    show (if mayB d = true ∧ p.1 ∉ d.ks.map (·.1) then some { d with ks := d.ks ++ [(p.1, (p.2 : Int), [])] } else none) = none
    rw [if_neg (by rw [h]; simp)]
theorem takeS_lacks {d : Dr} {ws : List Str} (h : lacksB d = true) : takeS d ws = none := by
  unfold takeS
  cases sightOf d.cs ws with
  | none => rfl
  | some p =>
    show (if lacksB d = false ∧ d.ss.length ≠ 60 then some { d with ss := d.ss ++ [p] } else none) = none
    rw [if_neg (by rw [h]; simp)]
theorem takeS_full {d : Dr} {ws : List Str} (h : d.ss.length = 60) : takeS d ws = none := by
  unfold takeS
  cases sightOf d.cs ws with
  | none => rfl
  | some p =>
    show (if lacksB d = false ∧ d.ss.length ≠ 60 then some { d with ss := d.ss ++ [p] } else none) = none
    rw [if_neg (by rw [h]; simp)]
theorem takeL_none {d : Dr} {ws : List Str} (h : d.ks = []) : takeL d ws = none := by
  unfold takeL
  cases lampOf d.cs ws with
  | none => rfl
  | some p => rw [h]; rfl
theorem takeL_full {d : Dr} {ws : List Str} {k0 : List Kind} {k : Kind} (e : d.ks = k0 ++ [k]) (h : k.2.2.length = 6) : takeL d ws = none := by
  unfold takeL
  cases lampOf d.cs ws with
  | none => rfl
  | some p =>
    rw [e, List.getLast?_concat]
    show (if d.ss = [] ∧ k.2.2.length ≠ 6 then _ else none) = none
    rw [if_neg (by rw [h]; simp)]
theorem lineM_word {d : Dr} {ws : List Str} {w : Str} (cw : ∀ x ∈ w :: ws, Cw x) : lineM d (Txt.join " " (w :: ws)) = takeM d (w :: ws) := lineM_join (by simp) cw
theorem row_words {ws : List Word} (hne : ws ≠ []) (h : ∀ w ∈ ws, Cw (wText w)) {d : Dr} : lineM d (rowOf ws) = takeM d (ws.map wText) :=
  lineM_join (by simpa using hne) fun w hw => by obtain ⟨x, hx, rfl⟩ := List.mem_map.mp hw; exact h x hx
/-- a row of a kind, where none may begin -/
theorem kind_row_none {d : Dr} {k : Kind} (hn : IsName k.1) (h0 : 0 ≤ k.2.1) (h1 : k.2.1 ≤ 16) (h : mayB d = false) : lineM d (rowOf (kindWords k)) = none := by
  rw [row_words (by unfold kindWords; simp) fun w hw => by
    unfold kindWords at hw
    simp only [List.mem_cons, List.not_mem_nil, or_false] at hw
    rcases hw with rfl | rfl | rfl
    · exact words_fix.2.1.1
    · exact (words_name hn).1
    · exact (words_int h0 (by omega)).1]
  show takeM d (Str.ofString "kind" :: _) = none
  rw [takeM_cons, if_neg (by decide +kernel), if_pos (by rfl)]
  exact takeK_may h
theorem lamp_row_none {d : Dr} {cs : List Str} {l : Lamp} (hn : IsName l.1) (g : GoodLamp cs l) (h : ∀ ws, takeL d ws = none) : lineM d (rowOf (lampWords l)) = none := by
  rw [row_words (by unfold lampWords; simp) fun w hw => by
    unfold lampWords at hw
    simp only [List.mem_cons, List.not_mem_nil, or_false] at hw
    rcases hw with rfl | rfl | rfl | rfl
    · exact words_fix.2.2.1.1
    · exact (words_name hn).1
    · exact (words_int g.2.1 (by have := g.2.2.1; omega)).1
    · exact (words_int g.2.2.2.1 (by have := g.2.2.2.2; omega)).1]
  show takeM d (Str.ofString "lamp" :: _) = none
  rw [takeM_cons, if_neg (by decide +kernel), if_neg (by decide +kernel), if_pos (by rfl)]
  exact h _
theorem sight_row_none {d : Dr} {m p : Int} (hm : 0 ≤ m ∧ m < 1000) (hp : 0 ≤ p ∧ p < 1000) (h : ∀ ws, takeS d ws = none) : lineM d (rowOf (sightWords (m, p, []))) = none := by
  rw [row_words (by unfold sightWords; simp) fun w hw => by
    unfold sightWords at hw
    simp only [List.map_nil, List.mem_cons, List.not_mem_nil, or_false] at hw
    rcases hw with rfl | rfl | rfl
    · exact words_fix.2.2.2.1
    · exact (words_int hm.1 hm.2).1
    · exact (words_int hp.1 hp.2).1]
  show takeM d (Str.ofString "sight" :: _) = none
  rw [takeM_cons, if_neg (by decide +kernel), if_neg (by decide +kernel), if_neg (by decide +kernel), if_pos (by rfl)]
  exact h _
/-! colours told stay -/
theorem lineM_cs {d d' : Dr} {l : Str} (h : d.cs ≠ []) (e : lineM d l = some d') : d'.cs = d.cs := by
  unfold lineM at e
  by_cases h9 : 9 ∈ TL.tl l
  · rw [if_pos h9] at e; cases e
  rw [if_neg h9] at e
  by_cases hw : wordsOf l = []
  · rw [if_pos hw] at e; cases e; rfl
  rw [if_neg hw] at e
  generalize wordsOf l = ws at e
  cases ws with
  | nil => cases e
  | cons w r =>
    rw [takeM_cons] at e
    by_cases c1 : w = "colours"
    · rw [if_pos c1] at e
      unfold takeC at e
      cases hc : coloursOf (w :: r) with
      | none => rw [hc] at e; cases e
      | some ns =>
        rw [hc] at e
        have e' : (if d.cs = [] then some { d with cs := ns } else none) = some d' := e
        rw [if_neg h] at e'; cases e'
    rw [if_neg c1] at e
    by_cases c2 : w = "kind"
    · rw [if_pos c2] at e
      unfold takeK at e
      cases hc : kindOf (w :: r) with
      | none => rw [hc] at e; cases e
      | some p =>
        rw [hc] at e
        have e' : (if mayB d = true ∧ p.1 ∉ d.ks.map (·.1) then some { d with ks := d.ks ++ [(p.1, (p.2 : Int), [])] } else none) = some d' := e
        split at e'
        · cases e'; rfl
        · cases e'
    rw [if_neg c2] at e
    by_cases c3 : w = "lamp"
    · rw [if_pos c3] at e
      unfold takeL at e
      cases hc : lampOf d.cs (w :: r) with
      | none => rw [hc] at e; cases e
      | some p =>
        rw [hc] at e
        cases hk : d.ks.getLast? with
        | none => rw [hk] at e; cases e
        | some k =>
          rw [hk] at e
          have e' : (if d.ss = [] ∧ k.2.2.length ≠ 6 then some { d with ks := d.ks.dropLast ++ [addLamp p k] } else none) = some d' := e
          split at e'
          · cases e'; rfl
          · cases e'
    rw [if_neg c3] at e
    by_cases c4 : w = "sight"
    · rw [if_pos c4] at e
      unfold takeS at e
      cases hc : sightOf d.cs (w :: r) with
      | none => rw [hc] at e; cases e
      | some p =>
        rw [hc] at e
        have e' : (if lacksB d = false ∧ d.ss.length ≠ 60 then some { d with ss := d.ss ++ [p] } else none) = some d' := e
        split at e'
        · cases e'; rfl
        · cases e'
    rw [if_neg c4] at e
    cases e
theorem runM_cs : ∀ {ls : List Str} {d d' : Dr}, d.cs ≠ [] → runM d ls = some d' → d'.cs = d.cs
  | [], d, d', _, e => by cases e; rfl
  | l :: ls, d, d', h, e => by
    have e' : (match lineM d l with
      | none => none
      | some d' => runM d' ls) = some d' := e
    cases h1 : lineM d l with
    | none => rw [h1] at e'; cases e'
    | some d1 =>
      rw [h1] at e'
      have c1 := lineM_cs h h1
      exact (runM_cs (by rw [c1]; exact h) e').trans c1
/-! lines that say nothing -/
def Mute (l : Str) : Prop := ∀ d, lineM d l = some d
theorem mute_of {l : Str} (h : (decide (9 ∉ TL.tl l) && (wordsOf l).isEmpty) = true) : Mute l := fun d => by
  rw [Bool.and_eq_true, decide_eq_true_eq] at h
  unfold lineM
  rw [if_neg h.1, if_pos (List.isEmpty_iff.mp h.2)]
theorem run_mute : ∀ {ls : List Str} {r : List Str}, (∀ l ∈ ls, Mute l) → ∀ d, runM d (ls ++ r) = runM d r
  | [], _, _, _ => rfl
  | l :: ls, r, h, d => by
    rw [List.cons_append, runM_cons (h l List.mem_cons_self d)]
    exact run_mute (fun x hx => h x (List.mem_cons_of_mem _ hx)) d
theorem runM_none {xs ys : List Str} : ∀ {d : Dr}, runM d xs = none → runM d (xs ++ ys) = none := by
  induction xs with
  | nil => intro d h; cases h
  | cons l r ih =>
    intro d h
    have h' : (match lineM d l with
      | none => none
      | some d' => runM d' r) = none := h
    show (match lineM d l with
      | none => none
      | some d' => runM d' (r ++ ys)) = none
    cases e : lineM d l with
    | none => rfl
    | some d1 => rw [e] at h'; exact ih h'
theorem runM_app2 {xs ys : List Str} (d : Dr) : runM d (xs ++ ys) = match runM d xs with
    | none => none
    | some d' => runM d' ys := by
  cases e : runM d xs with
  | none => exact runM_none e
  | some d' => exact runM_app e
/-! what read tells of them -/
theorem goM_none {xs ys : List Str} {l : Str} {n : Nat} {d d' : Dr} (h : runM d xs = some d') (e : lineM d' l = none) : goM n d (xs ++ l :: ys) = .inl (n + xs.length) := by
  rw [goM_run h, goM_cons, e]
theorem goM_done {xs : List Str} {n : Nat} {d d' : Dr} (h : runM d xs = some d') : goM n d xs = if lacksB d' = true then .inl (n + xs.length) else .inr d' := by
  have := goM_run (ys := []) (n := n) h
  rw [List.append_nil] at this
  rw [this]; rfl
theorem readM_lines {ls : List Str} (hne : ls ≠ []) (h : ∀ l ∈ ls, 10 ∉ TL.tl l) : readM (Txt.join "\n" ls) = goM 1 dr0 ls := by
  unfold readM
  rw [split_join (s := 10) (S := []) sep_line.tl (by decide +kernel) hne h]
  rfl
end DL
set_option Elab.async false
set_option linter.all false
set_option maxRecDepth 100000
set_option maxHeartbeats 1000001
namespace DL
open PySem L2 TL
/-! ### each way in which a text is spoilt -/
def Ok (n : Nat) (s : Str) : Prop := s.length ≤ n ∧ 10 ∉ TL.tl s
theorem Ok.add {a b : Nat} {x y : Str} (h : Ok a x) (h' : Ok b y) : Ok (a + b) (x ++ y) := by
  refine ⟨?_, ?_⟩
  · rw [Str.length_append]; exact Nat.add_le_add h.1 h'.1
  · rw [tl_append, List.mem_append]; exact fun q => q.elim h.2 h'.2
theorem ok_fix {s : Str} (h : (decide (s.length ≤ 30) && decide (10 ∉ TL.tl s)) = true) : Ok 30 s := by
  rw [Bool.and_eq_true, decide_eq_true_eq, decide_eq_true_eq] at h; exact h
theorem ok_name {s : Str} (h : IsName s) : Ok 6 s := ⟨h.2.1, fun q => ((cw_name h).2 10 q).2.2.1 rfl⟩
theorem Ok.line {n : Nat} {s : Str} (h : Ok n s) (hn : n ≤ 100) : LineOk s := ⟨Nat.le_trans h.1 hn, h.2⟩
theorem line_fix {s : Str} (h : (decide (s.length ≤ 30) && decide (10 ∉ TL.tl s)) = true) : LineOk s := (ok_fix h).line (by decide)
theorem lines_fix {ls : List Str} (h : (ls.all fun s => decide (s.length ≤ 30) && decide (10 ∉ TL.tl s)) = true) : ∀ l ∈ ls, LineOk l := fun l hl => line_fix (List.all_eq_true.mp h l hl)
theorem oddFirst_line {l : Str} (h : l ∈ oddFirst) : LineOk l := lines_fix (by decide +kernel) l h
theorem of_app {xs ys : List Str} {p : Str → Prop} (h1 : ∀ l ∈ xs, p l) (h2 : ∀ l ∈ ys, p l) : ∀ l ∈ xs ++ ys, p l := fun l h => (List.mem_append.mp h).elim (h1 l) (h2 l)
theorem of_cons {x : Str} {ys : List Str} {p : Str → Prop} (h1 : p x) (h2 : ∀ l ∈ ys, p l) : ∀ l ∈ x :: ys, p l := fun l h => (List.mem_cons.mp h).elim (fun e => by rw [e]; exact h1) (h2 l)
theorem of_nil {p : Str → Prop} : ∀ l ∈ ([] : List Str), p l := fun _ h => nomatch h
theorem line_acb {a b c : Str} (hc : IsName c) (ha : (decide (a.length ≤ 30) && decide (10 ∉ TL.tl a)) = true) (hb : (decide (b.length ≤ 30) && decide (10 ∉ TL.tl b)) = true) : LineOk (a ++ c ++ b) :=
  (((ok_fix ha).add (ok_name hc)).add (ok_fix hb)).line (by decide)
theorem line_ac {a c : Str} (hc : IsName c) (ha : (decide (a.length ≤ 30) && decide (10 ∉ TL.tl a)) = true) : LineOk (a ++ c) :=
  ((ok_fix ha).add (ok_name hc)).line (by decide)
theorem oddKind_line {k l : Str} (hk : IsName k) (h : l ∈ oddKind k) : LineOk l := by
  have e : oddKind k = (["kind", "kind zzq", "kind zzq 17", "kind zzq -1", "kind zzq 01", "kind zzq 1 1", "kind zzq x", "kind 1 1", "kind zzqzzqz 1", "kind Zq 1", "kind lamp 1"] : List Str) ++ (("kind " ++ k ++ " 1") :: ["colours a", "kinds zzq 1", "kind zzq 1.0", "kind sight 2", "kind zzq 1_0", "kind zzq 100"]) := rfl
  rw [e] at h
  exact of_app (lines_fix (by decide +kernel)) (of_cons (line_acb hk (by decide +kernel) (by decide +kernel)) (lines_fix (by decide +kernel))) l h
theorem ok_upper {c : Str} (hn : IsName c) : Ok 6 (Txt.upper c) := by
  refine ⟨?_, ?_⟩
  · rw [len_tl, upper_tl hn, List.length_map, ← len_tl]; exact hn.2.1
  · rw [upper_tl hn]
    intro q
    obtain ⟨x, hx, e⟩ := List.mem_map.mp q
    have := hn.2.2.1 x hx
    omega
theorem oddLamp_line {c l : Str} (hc : IsName c) (h : l ∈ oddLamp c) : LineOk l := by
  have e : oddLamp c = Str.ofString "lamp" :: ("lamp " ++ c) :: ("lamp " ++ c ++ " 1") :: ("lamp " ++ c ++ " 32 1") :: ("lamp " ++ c ++ " 1 32") :: ("lamp " ++ c ++ " -1 1") :: ("lamp " ++ c ++ " 01 1") :: "lamp zzq 1 2" :: ("lamp " ++ c ++ " x 2") :: ("lamp 1 2 " ++ c) :: "lamp 1 2" :: ("lamps " ++ c ++ " 1 2") :: "colours a" :: ("lamp " ++ c ++ " 1 2 3") :: ("lamp " ++ c ++ " 1 02") :: ("lamp " ++ Txt.upper c ++ "Q 1 2") :: ("Lamp " ++ c ++ " 1 2") :: [] := rfl
  rw [e] at h
  have F : ∀ {a b : Str}, (decide (a.length ≤ 30) && decide (10 ∉ TL.tl a)) = true → (decide (b.length ≤ 30) && decide (10 ∉ TL.tl b)) = true → LineOk (a ++ c ++ b) := fun h1 h2 => line_acb hc h1 h2
  exact of_cons (line_fix (by decide +kernel)) (of_cons (line_ac hc (by decide +kernel)) (of_cons (F (by decide +kernel) (by decide +kernel)) (of_cons (F (by decide +kernel) (by decide +kernel)) (of_cons (F (by decide +kernel) (by decide +kernel)) (of_cons (F (by decide +kernel) (by decide +kernel)) (of_cons (F (by decide +kernel) (by decide +kernel)) (of_cons (line_fix (by decide +kernel)) (of_cons (F (by decide +kernel) (by decide +kernel)) (of_cons (line_ac hc (by decide +kernel)) (of_cons (line_fix (by decide +kernel)) (of_cons (F (by decide +kernel) (by decide +kernel)) (of_cons (line_fix (by decide +kernel)) (of_cons (F (by decide +kernel) (by decide +kernel)) (of_cons (F (by decide +kernel) (by decide +kernel))
    (of_cons ((((ok_fix (by decide +kernel)).add (ok_upper hc)).add (ok_fix (by decide +kernel))).line (by decide)) (of_cons (F (by decide +kernel) (by decide +kernel)) of_nil)))))))))))))))) l h
theorem ok_rep {c : Str} (hc : IsName c) : Ok 49 (repS (" " ++ c) 7) := by
  have e : TL.tl (repS (Str.ofString " " ++ c) 7) = (List.replicate 7 (TL.tl (Str.ofString " " ++ c))).flatten := tl_repS _ 7
  have o : Ok 7 (Str.ofString " " ++ c) := by
    have l1 : Ok 1 (Str.ofString " ") := ⟨by decide +kernel, by decide +kernel⟩
    exact l1.add (ok_name hc)
  refine ⟨?_, ?_⟩
  · rw [len_tl, e, List.length_flatten, List.map_replicate, List.sum_replicate_nat, ← len_tl]
    have := o.1
    omega
  · rw [e]
    intro q
    obtain ⟨x, hx, q⟩ := List.mem_flatten.mp q
    rw [List.eq_of_mem_replicate hx] at q
    exact o.2 q
theorem oddSight_line {c l : Str} (hc : IsName c) (h : l ∈ oddSight c) : LineOk l := by
  have e : oddSight c = (["sight", "sight 1", "sight 100 1", "sight 1 32", "sight -1 1", "sight 01 1", "sight 1 01", "sight 1 x", "sight 1 1 zzq"] : List Str) ++ (("sight 1 1 " ++ c ++ " zzq") :: ("sight 1 1" ++ repS (" " ++ c) 7) :: "Sight 1 1" :: ("sight " ++ c ++ " 1 1") :: "sights 1 1" :: ("1 1 " ++ c) :: "sight 1 1	" :: "# 	" :: "colours a" :: "kind zzqzzq 1" :: ("lamp " ++ c ++ " 1 2") :: ("sight 1 1 " ++ c ++ ",") :: ["sight 1, 1", "look 1", "sight 1 1 1", "sight 1.0 1", "sight 1 1 dark1"]) := rfl
  rw [e] at h
  have F : ∀ {a b : Str}, (decide (a.length ≤ 30) && decide (10 ∉ TL.tl a)) = true → (decide (b.length ≤ 30) && decide (10 ∉ TL.tl b)) = true → LineOk (a ++ c ++ b) := fun h1 h2 => line_acb hc h1 h2
  exact of_app (lines_fix (by decide +kernel)) (of_cons (F (by decide +kernel) (by decide +kernel)) (of_cons (((ok_fix (by decide +kernel)).add (ok_rep hc)).line (by decide)) (of_cons (line_fix (by decide +kernel)) (of_cons (F (by decide +kernel) (by decide +kernel)) (of_cons (line_fix (by decide +kernel)) (of_cons (line_ac hc (by decide +kernel)) (of_cons (line_fix (by decide +kernel)) (of_cons (line_fix (by decide +kernel)) (of_cons (line_fix (by decide +kernel)) (of_cons (line_fix (by decide +kernel)) (of_cons (F (by decide +kernel) (by decide +kernel)) (of_cons (F (by decide +kernel) (by decide +kernel)) (lines_fix (by decide +kernel)))))))))))))) l h
section
variable {f : Flt} {ss : List Sight}
theorem good_few (T : TextOk f ss) (h14 : ss.length ≤ 14) : (linesOf f ss).length = (headLines f).length + ss.length ∧ (linesOf f ss).length ≤ 57 := by
  have := head_few T
  unfold linesOf
  rw [List.length_append, List.length_map]
  omega
/-- one odd line put in -/
theorem spoil_ins (T : TextOk f ss) (h14 : ss.length ≤ 14) {odd : Str} {a : Nat} {d : Dr} (ho : LineOk odd) (ha : a ≤ (linesOf f ss).length) (h : runM dr0 ((linesOf f ss).take a) = some d) (e : lineM d odd = none) : Spoilt ((linesOf f ss).take a ++ [odd] ++ (linesOf f ss).drop a) (a + 1) := by
  have G := good_lines T
  have L := (good_few T h14).2
  refine ⟨⟨?_, ?_⟩, .inr ⟨(linesOf f ss).take a, odd, (linesOf f ss).drop a, d, by simp, by rw [List.length_take]; omega, h, e⟩⟩
  · rw [List.length_append, List.length_append, List.length_take, List.length_drop, List.length_singleton]; omega
  · exact of_app (of_app (fun l hl => G l (List.mem_of_mem_take hl)) (of_cons ho of_nil)) fun l hl => G l (List.mem_of_mem_drop hl)
theorem spoil_first (T : TextOk f ss) (h14 : ss.length ≤ 14) {odd : Str} (ho : odd ∈ oddFirst) : Spoilt ([odd] ++ (linesOf f ss).drop 1) 1 := by
  have G := good_lines T
  have L := (good_few T h14).2
  refine ⟨⟨?_, of_app (of_cons (oddFirst_line ho) of_nil) fun l hl => G l (List.mem_of_mem_drop hl)⟩, .inr ⟨[], odd, (linesOf f ss).drop 1, dr0, rfl, rfl, rfl, oddFirst_bad ho⟩⟩
  rw [List.length_append, List.length_drop, List.length_singleton]; omega
theorem head_ge (T : TextOk f ss) : 3 ≤ (headLines f).length := by
  obtain ⟨k, t, l, ls, ks, e, _, e2⟩ := text_begin T
  rw [e2]; simp
theorem cs_ne (T : TextOk f ss) : f.1 ≠ [] := fun e => by have := T.c1; rw [e] at this; simp at this
theorem take_heads (T : TextOk f ss) : (linesOf f ss).take (headLines f).length = headLines f := by
  unfold linesOf
  rw [List.take_append_of_le_length (Nat.le_refl _), List.take_length]
theorem first_name (T : TextOk f ss) : ∃ k ks, f.2 = k :: ks ∧ IsName k.1 := by
  obtain ⟨k, t, l, ls, ks, e, _⟩ := text_begin T
  exact ⟨_, _, e, T.kn _ (by rw [e]; simp)⟩
theorem spoil_kind (T : TextOk f ss) (h14 : ss.length ≤ 14) {odd : Str} {k : Kind} {ks : List Kind} (e : f.2 = k :: ks) (ho : odd ∈ oddKind k.1) {a : Nat} (ha : a = 3 ∨ a = (headLines f).length) : Spoilt ((linesOf f ss).take a ++ [odd] ++ (linesOf f ss).drop a) (a + 1) := by
  have L := (good_few T h14).1
  have H3 := head_ge T
  have hk : IsName k.1 := T.kn k (by rw [e]; simp)
  have ol := oddKind_line hk ho
  rcases ha with rfl | rfl
  · obtain ⟨k2, t, l, ls, ks2, e2, e3, _⟩ := text_begin T
    rw [e] at e2
    obtain ⟨rfl, rfl⟩ := List.cons.inj e2
    refine spoil_ins T h14 (d := ⟨f.1, [(k2, t, [l])], []⟩) ol (by omega) ?_ (oddKind_bad (d := ⟨f.1, [(k2, t, [l])], []⟩) (cs_ne T) hk (by simp) ho)
    rw [e3]
    show runM dr0 [_, _, _] = _
    rw [runM_cons (st1 T), runM_cons (st2 T e), runM_cons (st3 T e)]
    rfl
  · refine spoil_ins T h14 (d := ⟨f.1, f.2, []⟩) ol (by omega) ?_ (oddKind_bad (d := ⟨f.1, f.2, []⟩) (cs_ne T) hk (by rw [e]; simp) ho)
    rw [take_heads T]
    exact run_head T
/-- the state behind some rows -/
theorem run_take (T : TextOk f ss) {a : Nat} (h1 : 1 ≤ a) : ∃ d, runM dr0 ((linesOf f ss).take a) = some d ∧ d.cs = f.1 := by
  have R := run_text T
  rw [← List.take_append_drop a (linesOf f ss)] at R
  obtain ⟨d, hd, _⟩ := runM_pre R
  refine ⟨d, hd, ?_⟩
  obtain ⟨k2, t, l, ls, ks2, e2, e3, _⟩ := text_begin T
  obtain ⟨b, rfl⟩ : ∃ b, a = b + 1 := ⟨a - 1, by omega⟩
  have hd' : runM dr0 ((linesOf f ss).take (b + 1)) = some d := hd
  rw [e3, List.take_succ_cons, runM_cons (st1 T)] at hd'
  exact runM_cs (d := ⟨f.1, [], []⟩) (cs_ne T) hd'
theorem spoil_lamp (T : TextOk f ss) (h14 : ss.length ≤ 14) (hz : Str.ofString "zzq" ∉ f.1) {odd c : Str} (hc : c ∈ f.1) (ho : odd ∈ oddLamp c) {a : Nat} (h2 : 2 ≤ a) (ha : a ≤ (headLines f).length) : Spoilt ((linesOf f ss).take a ++ [odd] ++ (linesOf f ss).drop a) (a + 1) := by
  have L := (good_few T h14).1
  obtain ⟨d, hd, ec⟩ := run_take T (a := a) (by omega)
  exact spoil_ins T h14 (d := d) (oddLamp_line (T.cn c hc) ho) (by omega) hd (oddLamp_bad (by rw [ec]; exact cs_ne T) (T.cn c hc) (by rw [ec]; exact T.cn) (by rw [ec]; exact hz) ho)
theorem run_upto (T : TextOk f ss) {a : Nat} (h : (headLines f).length ≤ a) : runM dr0 ((linesOf f ss).take a) = some ⟨f.1, f.2, ss.take (a - (headLines f).length)⟩ := by
  have e : (linesOf f ss).take a = headLines f ++ (ss.take (a - (headLines f).length)).map fun s => rowOf (sightWords s) := by
    unfold linesOf
    rw [List.take_append, List.take_of_length_le h, List.map_take]
  rw [e, runM_app (d := dr0) (run_head T)]
  exact run_sights T.cn (lacks_full T) (ss.take (a - (headLines f).length)) [] (by rw [List.nil_append, List.length_take]; have := T.s6; omega) fun s hs => T.sg s (List.mem_of_mem_take hs)
theorem spoil_sight (T : TextOk f ss) (h14 : ss.length ≤ 14) (hz : Str.ofString "zzq" ∉ f.1) {odd c : Str} (hc : c ∈ f.1) (ho : odd ∈ oddSight c) {a : Nat} (h2 : (headLines f).length ≤ a) (ha : a ≤ (linesOf f ss).length)
    (h : (headLines f).length < a ∨ (odd ≠ "kind zzqzzq 1" ∧ odd ≠ "lamp " ++ c ++ " 1 2")) : Spoilt ((linesOf f ss).take a ++ [odd] ++ (linesOf f ss).drop a) (a + 1) := by
  have L := (good_few T h14).1
  refine spoil_ins T h14 (oddSight_line (T.cn c hc) ho) ha (run_upto T h2) (oddSight_bad (d := ⟨f.1, f.2, ss.take (a - (headLines f).length)⟩) (cs_ne T) (T.cn c hc) T.cn hz ho ?_)
  rcases h with h | h
  · refine .inl fun z => ?_
    have z' : ss.take (a - (headLines f).length) = [] := z
    have : (ss.take (a - (headLines f).length)).length = 0 := by rw [z']; rfl
    rw [List.length_take] at this
    omega
  · exact .inr h
/-! too many -/
def zz : List Str := ["zzqqa", "zzqqb", "zzqqc", "zzqqd", "zzqqe", "zzqqf", "zzqqg"]
theorem zz_names : ∀ z ∈ zz, IsName z := by
  have h : ∀ z ∈ zz, 1 ≤ z.length ∧ z.length ≤ 6 ∧ (∀ c ∈ z.cps.toList, 97 ≤ c ∧ c ≤ 122) ∧ z ∉ bars := by decide +kernel
  exact h
theorem many_0 (T : TextOk f ss) (h14 : ss.length ≤ 14) : Spoilt ([Str.ofString "colours " ++ Txt.join " " zz] ++ (linesOf f ss).drop 1) 1 := by
  have G := good_lines T
  have L := (good_few T h14).2
  have ll : LineOk (Str.ofString "colours " ++ Txt.join " " zz) := ⟨by decide +kernel, by decide +kernel⟩
  refine ⟨⟨?_, of_app (of_cons ll of_nil) fun l hl => G l (List.mem_of_mem_drop hl)⟩, .inr ⟨[], _, (linesOf f ss).drop 1, dr0, rfl, rfl, rfl, dead (by decide +kernel) _⟩⟩
  rw [List.length_append, List.length_drop, List.length_singleton]; omega
theorem one_0 : (0 : Int) ≤ 1 := by decide
theorem one_16 : (1 : Int) ≤ 16 := by decide
theorem gl_12 {cs : List Str} {c : Str} (hc : c ∈ cs) : GoodLamp cs (c, 1, 2) := ⟨hc, (by decide : (0 : Int) ≤ 1), (by decide : (1 : Int) < 32), (by decide : (0 : Int) ≤ 2), (by decide : (2 : Int) < 32)⟩
/-- a kind of one lamp -/
def zk (c z : Str) : Kind := (z, 1, [(c, 1, 2)])
theorem zk_good {c z : Str} (hc : c ∈ f.1) : GoodKind f.1 (zk c z) := ⟨one_0, one_16, Nat.le_refl 1, Nat.le_add_left 1 5, fun l hl => by
  have e : l = (c, 1, 2) := List.mem_singleton.mp hl
  rw [e]; exact gl_12 hc⟩
theorem one_row : numT 1 = Str.ofString "1" := by decide +kernel
theorem zk_lines (c z : Str) : kindLines (zk c z) = [Str.ofString "kind " ++ z ++ " 1", "lamp " ++ c ++ " 1 2"] := by
  have a : rowOf (kindWords (zk c z)) = Str.ofString "kind " ++ z ++ " 1" := by
    refine ext_tl ?_
    show TL.tl (Txt.join " " [Str.ofString "kind", z, Str.ofString (toString (1 : Int))]) = _
    rw [join_tl3, tl_append, tl_append]
    have e1 : TL.tl (Str.ofString "kind ") = TL.tl (Str.ofString "kind") ++ [32] := by decide +kernel
    have e2 : TL.tl (Str.ofString " 1") = 32 :: TL.tl (Str.ofString (toString (1 : Int))) := by decide +kernel
    rw [e1, e2]
    simp
  have b : rowOf (lampWords (c, 1, 2)) = Str.ofString "lamp " ++ c ++ " 1 2" := by
    refine ext_tl ?_
    show TL.tl (Txt.join " " [Str.ofString "lamp", c, Str.ofString (toString (1 : Int)), Str.ofString (toString (2 : Int))]) = _
    rw [join_tl4, tl_append, tl_append]
    have e2 : TL.tl (Str.ofString " 1 2") = 32 :: (TL.tl (Str.ofString (toString (1 : Int))) ++ 32 :: TL.tl (Str.ofString (toString (2 : Int)))) := by decide +kernel
    rw [lamp_sp, e2]
    simp
  unfold kindLines
  rw [a]
  show _ :: [rowOf (lampWords (c, 1, 2))] = _
  rw [b]
theorem many_1 (T : TextOk f ss) (h14 : ss.length ≤ 14) {c : Str} (hc : c ∈ f.1) : Spoilt ((linesOf f ss).take 1 ++ (zz.map fun z => [Str.ofString "kind " ++ z ++ " 1", "lamp " ++ c ++ " 1 2"]).flatten) 14 := by
  have G := good_lines T
  obtain ⟨k2, t, l, ls, ks2, e2, e3, _⟩ := text_begin T
  have e1 : (linesOf f ss).take 1 = [rowOf (colourWords f.1)] := by rw [e3]; rfl
  have ek : (zz.map fun z => [Str.ofString "kind " ++ z ++ " 1", "lamp " ++ c ++ " 1 2"]) = zz.map fun z => kindLines (zk c z) := List.map_congr_left fun z _ => (zk_lines c z).symm
  refine ⟨⟨?_, ?_⟩, .inr ⟨rowOf (colourWords f.1) :: (((zz.take 6).map (zk c)).map kindLines).flatten, rowOf (kindWords (zk c "zzqqg")), [rowOf (lampWords (c, 1, 2))], ⟨f.1, (zz.take 6).map (zk c), []⟩, ?_, rfl, ?_, ?_⟩⟩
  · rw [List.length_append, e1]; show 15 ≤ 105; decide
  · refine of_app (fun l hl => G l (List.mem_of_mem_take hl)) fun l hl => ?_
    obtain ⟨r, hr, hl⟩ := List.mem_flatten.mp hl
    obtain ⟨z, hz, rfl⟩ := List.mem_map.mp hr
    refine of_cons (p := LineOk) (line_acb (zz_names z hz) (by decide +kernel) (by decide +kernel)) (of_cons (line_acb (T.cn c hc) (by decide +kernel) (by decide +kernel)) of_nil) l hl
  · rw [e1, ek]; rfl
  · rw [runM_cons (st1 T)]
    refine run_kinds T.c1 T.cn ((zz.take 6).map (zk c)) [] (Nat.le_refl 6) ?_ (fun k hk => nomatch hk) fun k hk => ?_
    · show (((zz.take 6).map (zk c)).map (·.1)).Nodup
      rw [List.map_map]
      show ((zz.take 6).map id).Nodup
      rw [List.map_id]
      decide +kernel
    · obtain ⟨z, hz, rfl⟩ := List.mem_map.mp hk
      exact ⟨zz_names z (List.mem_of_mem_take hz), zk_good hc⟩
  · refine kind_row_none (k := zk c "zzqqg") (zz_names (Str.ofString "zzqqg") (by decide +kernel)) one_0 one_16 ?_
    unfold mayB
    have e : decide ((List.map (zk c) (List.take 6 zz)).length < 6) = false := rfl
    show (_ && (_ && (_ || (_ && decide ((List.map (zk c) (List.take 6 zz)).length < 6))))) = false
    rw [e]
    show (_ && (_ && (false || _))) = false
    simp
theorem lamp_12 (c : Str) : rowOf (lampWords (c, 1, 2)) = Str.ofString "lamp " ++ c ++ " 1 2" := by
  have := zk_lines c c
  unfold kindLines at this
  exact (List.cons.inj (List.cons.inj this).2).1
theorem many_2 (T : TextOk f ss) (h14 : ss.length ≤ 14) {c : Str} (hc : c ∈ f.1) : Spoilt ((linesOf f ss).take 2 ++ List.replicate 7 (Str.ofString "lamp " ++ c ++ " 1 2")) 9 := by
  have G := good_lines T
  obtain ⟨k, t, l, ls, ks2, e2, e3, _⟩ := text_begin T
  have e1 : (linesOf f ss).take 2 = [rowOf (colourWords f.1), rowOf (kindWords (k, t, l :: ls))] := by rw [e3]; rfl
  have gl : GoodLamp f.1 (c, 1, 2) := gl_12 hc
  have el := lamp_12 c
  refine ⟨⟨?_, of_app (fun l hl => G l (List.mem_of_mem_take hl)) fun l hl => ?_⟩, .inr ⟨[rowOf (colourWords f.1), rowOf (kindWords (k, t, l :: ls))] ++ (List.replicate 6 (c, 1, 2)).map (fun l => rowOf (lampWords l)), rowOf (lampWords (c, 1, 2)), [], ⟨f.1, [] ++ [(k, t, [] ++ List.replicate 6 (c, 1, 2))], []⟩, ?_, rfl, ?_, ?_⟩⟩
  · rw [List.length_append, e1, List.length_replicate]; show 9 ≤ 105; decide
  · rw [List.eq_of_mem_replicate hl]
    exact line_acb (T.cn c hc) (by decide +kernel) (by decide +kernel)
  · rw [e1, List.map_replicate, el]; rfl
  · rw [List.cons_append, List.cons_append, List.nil_append, runM_cons (st1 T), runM_cons (st2 T e2)]
    refine run_lamps T.cn (k0 := []) (k := k) (t := t) (List.replicate 6 (c, 1, 2)) [] (by rw [List.length_replicate]; decide) fun x hx => ?_
    rw [List.eq_of_mem_replicate hx]; exact gl
  · exact lamp_row_none (T.cn c hc) gl fun ws => takeL_full (k0 := []) (k := (k, t, [] ++ List.replicate 6 (c, 1, 2))) rfl rfl
theorem sight_9931 : rowOf (sightWords (99, 31, [])) = Str.ofString "sight 99 31" := by decide +kernel
theorem many_3 (T : TextOk f ss) (h14 : ss.length ≤ 14) : Spoilt ((linesOf f ss).take (headLines f).length ++ List.replicate 61 (Str.ofString "sight 99 31")) ((headLines f).length + 61) := by
  have G := good_lines T
  have gs : GoodSight f.1 (99, 31, []) := ⟨by decide, by decide, by decide, by decide, by decide, fun _ h => nomatch h⟩
  refine ⟨⟨?_, of_app (fun l hl => G l (List.mem_of_mem_take hl)) fun l hl => ?_⟩, .inr ⟨headLines f ++ (List.replicate 60 ((99, 31, []) : Sight)).map (fun s => rowOf (sightWords s)), rowOf (sightWords (99, 31, [])), [], ⟨f.1, f.2, [] ++ List.replicate 60 (99, 31, [])⟩, ?_, ?_, ?_, ?_⟩⟩
  · have := head_few T
    rw [take_heads T, List.length_append, List.length_replicate]; omega
  · rw [List.eq_of_mem_replicate hl]; exact line_fix (by decide +kernel)
  · rw [take_heads T, List.map_replicate, sight_9931, List.append_assoc]
    congr 1
  · rw [List.length_append, List.length_map, List.length_replicate]
  · rw [runM_app (d := dr0) (run_head T)]
    exact run_sights T.cn (lacks_full T) (List.replicate 60 (99, 31, [])) [] (by rw [List.nil_append, List.length_replicate]; decide) fun s hs => by rw [List.eq_of_mem_replicate hs]; exact gs
  · exact sight_row_none ⟨by decide, by decide⟩ ⟨by decide, by decide⟩ fun ws => takeS_full (by show (List.replicate 60 ((99, 31, []) : Sight)).length = 60; rw [List.length_replicate])
/-! something left out -/
theorem left_0 (T : TextOk f ss) (h14 : ss.length ≤ 14) : Spoilt ((linesOf f ss).drop 1) 1 := by
  have G := good_lines T
  have L := (good_few T h14).2
  obtain ⟨k, t, l, ls, ks, e, e3, _⟩ := text_begin T
  have g := T.kg (k, t, l :: ls) (by rw [e]; simp)
  refine ⟨⟨by rw [List.length_drop]; omega, fun l hl => G l (List.mem_of_mem_drop hl)⟩, .inr ⟨[], rowOf (kindWords (k, t, l :: ls)), (linesOf f ss).drop 2, dr0, by rw [e3]; rfl, rfl, rfl, kind_row_none (T.kn (k, t, l :: ls) (by rw [e]; simp)) g.1 g.2.1 rfl⟩⟩
theorem left_1 (T : TextOk f ss) (h14 : ss.length ≤ 14) : Spoilt ((linesOf f ss).take 1 ++ (linesOf f ss).drop 2) 2 := by
  have G := good_lines T
  have L := (good_few T h14).2
  obtain ⟨k, t, l, ls, ks, e, e3, _⟩ := text_begin T
  have g := T.kg (k, t, l :: ls) (by rw [e]; simp)
  have gl := g.2.2.2.2 l (by simp)
  refine ⟨⟨by rw [List.length_append, List.length_take, List.length_drop]; omega, of_app (fun l hl => G l (List.mem_of_mem_take hl)) fun l hl => G l (List.mem_of_mem_drop hl)⟩, .inr ⟨[rowOf (colourWords f.1)], rowOf (lampWords l), (linesOf f ss).drop 3, ⟨f.1, [], []⟩, by rw [e3]; rfl, rfl, ?_, lamp_row_none (T.cn _ gl.1) gl fun ws => takeL_none rfl⟩⟩
  rw [runM_cons (st1 T)]; rfl
theorem left_n (T : TextOk f ss) (h14 : ss.length ≤ 14) {a : Nat} {odd : Str} {d : Dr} (ho : LineOk odd) (ha : a ≤ 3) (h : runM dr0 ((linesOf f ss).take a) = some d) (e : lineM d odd = none) : Spoilt ((linesOf f ss).take a ++ [odd]) (a + 1) := by
  have G := good_lines T
  have L := (good_few T h14).1
  have := head_ge T
  refine ⟨⟨by rw [List.length_append, List.length_take, List.length_singleton]; omega, of_app (fun l hl => G l (List.mem_of_mem_take hl)) (of_cons ho of_nil)⟩, .inr ⟨(linesOf f ss).take a, odd, [], d, rfl, by rw [List.length_take]; omega, h, e⟩⟩
theorem state1 (T : TextOk f ss) : runM dr0 ((linesOf f ss).take 1) = some ⟨f.1, [], []⟩ := by
  obtain ⟨k, t, l, ls, ks, e, e3, _⟩ := text_begin T
  rw [e3]
  show runM dr0 [_] = _
  rw [runM_cons (st1 T)]; rfl
theorem state2 (T : TextOk f ss) : ∃ k t, runM dr0 ((linesOf f ss).take 2) = some ⟨f.1, [(k, t, [])], []⟩ := by
  obtain ⟨k, t, l, ls, ks, e, e3, _⟩ := text_begin T
  refine ⟨k, t, ?_⟩
  rw [e3]
  show runM dr0 [_, _] = _
  rw [runM_cons (st1 T), runM_cons (st2 T e)]; rfl
theorem zk_row : rowOf (kindWords ((Str.ofString "zzqzzq", 1, []) : Kind)) = Str.ofString "kind zzqzzq 1" := by decide +kernel
theorem sight_11 : rowOf (sightWords (1, 1, [])) = Str.ofString "sight 1 1" := by decide +kernel
theorem left_2 (T : TextOk f ss) (h14 : ss.length ≤ 14) : Spoilt ((linesOf f ss).take 2 ++ [Str.ofString "kind zzqzzq 1"]) 3 := by
  obtain ⟨k, t, h⟩ := state2 T
  refine left_n T h14 (line_fix (by decide +kernel)) (by decide) h ?_
  rw [← zk_row]
  have n : IsName (Str.ofString "zzqzzq") := by
    have h : 1 ≤ (Str.ofString "zzqzzq").length ∧ (Str.ofString "zzqzzq").length ≤ 6 ∧ (∀ c ∈ (Str.ofString "zzqzzq").cps.toList, 97 ≤ c ∧ c ≤ 122) ∧ (Str.ofString "zzqzzq") ∉ bars := by decide +kernel
    exact h
  refine kind_row_none n (by decide) (by decide) ?_
  show (_ && (_ && (false || (!true && _)))) = false
  simp
theorem left_3 (T : TextOk f ss) (h14 : ss.length ≤ 14) : Spoilt ((linesOf f ss).take 2 ++ [Str.ofString "sight 1 1"]) 3 := by
  obtain ⟨k, t, h⟩ := state2 T
  refine left_n T h14 (line_fix (by decide +kernel)) (by decide) h ?_
  rw [← sight_11]
  exact sight_row_none ⟨by decide, by decide⟩ ⟨by decide, by decide⟩ fun ws => takeS_lacks rfl
theorem left_4 (T : TextOk f ss) (h14 : ss.length ≤ 14) : Spoilt ((linesOf f ss).take 1 ++ [Str.ofString "sight 1 1"]) 2 := by
  refine left_n T h14 (line_fix (by decide +kernel)) (by decide) (state1 T) ?_
  rw [← sight_11]
  exact sight_row_none ⟨by decide, by decide⟩ ⟨by decide, by decide⟩ fun ws => takeS_lacks rfl
theorem few_ok {few : List Str} {d : Dr} {q : Str} {n : Nat} (hq : Mute q) (lq : LineOk q) (hn : n ≤ 50) (hf : ∀ l ∈ few, LineOk l) (h50 : few.length ≤ 50) (h : runM dr0 few = some d) (hl : lacksB d = true) : Spoilt (few ++ List.replicate n q) 0 := by
  refine ⟨⟨by rw [List.length_append, List.length_replicate]; omega, of_app hf fun l hl => by rw [List.eq_of_mem_replicate hl]; exact lq⟩, .inl ⟨rfl, d, ?_, hl⟩⟩
  rw [runM_app h]
  have := run_mute (ls := List.replicate n q) (r := []) (fun l hl => by rw [List.eq_of_mem_replicate hl]; exact hq) d
  rw [List.append_nil] at this
  rw [this]; rfl
end
end DL
set_option Elab.async false
set_option linter.all false
set_option maxRecDepth 100000
set_option maxHeartbeats 1000001
namespace DL
open PySem L2 TL
local macro_rules | `(tactic| walk_at "dd") => `(tactic| try simp only [dSeq, dAsg, dgName, dgTup, dgSub, dOp, dVar, dC, dAdd, dSub, dMul, dMod, dFDiv, dPow, dCmp, dNeg, dEqn, dIsN, dIx, dTup, dLst, dConsA, dNilA, dCB, dCall, dRet, dRetN, dDrop, dIfS, dNext, dBreak, dCont, dTest, dTru, dAndT, dOrT, dNotT, dAndV, dOrV, dNotV, dIf, dChain, dDGet, dDPut, dM1, dM0, dJoin, dSplit, dUpper, dBML, dAppend, dInsert, dPopAt, dLen, dInt, dStr, dTupOf, dListOf, dMax2, dSum, dAll, dSl, dPart, dNoPart, newLst, keyD, dFor, dLc, diSeq, diRng1, diRng2, diEnum, diEnumS, diStr,
  startD, setAll, wipeD, List.map_cons, List.map_nil, List.length_cons, List.length_nil, List.replicate, List.cons_append, List.nil_append, List.getElem?_cons_zero, List.getElem?_cons_succ, List.set_cons_zero, List.set_cons_succ, Nat.reduceAdd, Nat.reduceSub, Bool.false_eq_true, if_true, if_false, ite_true, ite_false, reduceIte])
local macro_rules | `(tactic| walk_at "cm") => `(tactic| first | exact .inl ⟨by omega, by omega⟩ | exact .inr ⟨by omega, by omega⟩ | exact ⟨by omega, by omega⟩ | omega | decide)
/-! ### odd lines, drawn -/
theorem le_line {k : Nat} (h : k ≤ 1000) : k ≤ sizeLine := smallE (by omega)
theorem rd__law_odd_first : ∀ ds μ Q, P__law_odd_first ds μ Q → td__law_odd_first { nx := fun _ μ' => GhQ Q .non μ', rt := GhQ Q } (startD N__law_odd_first ds) μ := by
  rintro ds μ Q ⟨m, dg, n, rest, rfl, M, hn, h⟩
  unfold td__law_odd_first N__law_odd_first
  walk_at "dd"
  refine ⟨le_line (by decide), le_line (by decide), _, _, rfl, rfl, le_line (by decide), le_line (by decide), _, _, rfl, rfl, le_line (by decide), m, dg, rest, n, 19, rfl, M, by omega, by decide, by decide, fun r μ' r0 r1 M' F' => ?_⟩
  obtain ⟨l, hl, hin, hat⟩ := atI_ex (xs := oddFirst) r0 (show r < (19 : Nat) from r1)
  exact ⟨oddFirst.map .str, .str l, rfl, atI_some r0 (by rw [List.getElem?_map, hat]; rfl), GhQ.self (h l μ' hin M' F')⟩
theorem short_add {k : Str} (h : k.length ≤ 100) {a b : Str} (ha : a.length ≤ 100) (hb : b.length ≤ 100) : a.length + k.length ≤ sizeLine ∧ (a ++ k).length + b.length ≤ sizeLine := by
  rw [Str.length_append]
  exact ⟨smallE (by omega), smallE (by omega)⟩
theorem rd__law_odd_kind : ∀ ds μ Q, P__law_odd_kind ds μ Q → td__law_odd_kind { nx := fun _ μ' => GhQ Q .non μ', rt := GhQ Q } (startD N__law_odd_kind ds) μ := by
  rintro ds μ Q ⟨m, dg, n, k, hk, rest, rfl, M, hn, h⟩
  unfold td__law_odd_kind N__law_odd_kind
  walk_at "dd"
  refine ⟨le_line (by decide), ?_⟩
  obtain ⟨a1, a2⟩ := short_add hk (a := "kind ") (b := " 1") (by decide +kernel) (by decide +kernel)
  refine ⟨a1, a2, le_line (by decide), _, _, rfl, rfl, le_line (by simp), le_line (by decide), _, _, rfl, rfl, le_line (by simp), m, dg, rest, n, 18, rfl, M, by omega, by decide, by decide, fun r μ' r0 r1 M' F' => ?_⟩
  obtain ⟨l, hl, hin, hat⟩ := atI_ex (xs := oddKind k) r0 (show r < (18 : Nat) from r1)
  exact ⟨(oddKind k).map .str, .str l, rfl, atI_some r0 (by rw [List.getElem?_map, hat]; rfl), GhQ.self (h l μ' hin M' F')⟩
theorem upper_len {c : Str} (hn : IsName c) : (Txt.upper c).length = c.length := by
  rw [len_tl, len_tl, upper_tl hn, List.length_map]
theorem rd__law_odd_lamp : ∀ ds μ Q, P__law_odd_lamp ds μ Q → td__law_odd_lamp { nx := fun _ μ' => GhQ Q .non μ', rt := GhQ Q } (startD N__law_odd_lamp ds) μ := by
  rintro ds μ Q ⟨m, dg, n, c, hc, rest, rfl, M, hn, h⟩
  unfold td__law_odd_lamp N__law_odd_lamp
  walk_at "dd"
  have lc := hc.2.1
  have sh1 : ∀ a : Str, a.length ≤ 100 → a.length + c.length ≤ sizeLine := fun a ha => smallE (by omega)
  have sh2 : ∀ a b : Str, a.length ≤ 100 → b.length ≤ 100 → (a ++ c).length + b.length ≤ sizeLine := fun a b ha hb => smallE (by rw [Str.length_append]; omega)
  repeat (refine ⟨by first | exact sh1 _ (by decide +kernel) | exact sh2 _ _ (by decide +kernel) (by decide +kernel) | exact le_line (by decide), ?_⟩)
  refine ⟨_, _, rfl, rfl, le_line (by simp), ?_⟩
  repeat (refine ⟨by first | exact sh1 _ (by decide +kernel) | exact sh2 _ _ (by decide +kernel) (by decide +kernel) | exact le_line (by decide), ?_⟩)
  refine ⟨_, _, rfl, rfl, le_line (by simp), ?_⟩
  repeat (refine ⟨by first | exact sh1 _ (by decide +kernel) | exact sh2 _ _ (by decide +kernel) (by decide +kernel) | exact le_line (by decide), ?_⟩)
  refine ⟨_, _, rfl, rfl, le_line (by simp), ?_⟩
  refine ⟨⟨_, rfl⟩, by omega, by rw [upper_len hc]; exact sh1 _ (by decide +kernel), smallE (by
    have e1 : (Str.ofString "lamp ").length = 5 := by decide +kernel
    have e2 : (Str.ofString "Q 1 2").length = 5 := by decide +kernel
    rw [Str.length_append, upper_len hc, e1, e2]; omega), ?_⟩
  repeat (refine ⟨by first | exact sh1 _ (by decide +kernel) | exact sh2 _ _ (by decide +kernel) (by decide +kernel) | exact le_line (by decide), ?_⟩)
  refine ⟨_, _, rfl, rfl, le_line (by simp), ?_⟩
  refine ⟨m, dg, rest, n, 17, rfl, M, by omega, by decide, by decide, fun r μ' r0 r1 M' F' => ?_⟩
  obtain ⟨l, hl, hin, hat⟩ := atI_ex (xs := oddLamp c) r0 (show r < (17 : Nat) from r1)
  exact ⟨(oddLamp c).map .str, .str l, rfl, atI_some r0 (by rw [List.getElem?_map, hat]; rfl), GhQ.self (h l μ' hin M' F')⟩
theorem rd__law_odd_sight : ∀ ds μ Q, P__law_odd_sight ds μ Q → td__law_odd_sight { nx := fun _ μ' => GhQ Q .non μ', rt := GhQ Q } (startD N__law_odd_sight ds) μ := by
  rintro ds μ Q ⟨m, dg, n, c, hc, rest, rfl, M, hn, h⟩
  unfold td__law_odd_sight N__law_odd_sight
  walk_at "dd"
  have lc := hc.2.1
  have sh1 : ∀ a : Str, a.length ≤ 100 → a.length + c.length ≤ sizeLine := fun a ha => smallE (by omega)
  have sh2 : ∀ a b : Str, a.length ≤ 100 → b.length ≤ 100 → (a ++ c).length + b.length ≤ sizeLine := fun a b ha hb => smallE (by rw [Str.length_append]; omega)
  repeat (refine ⟨by first | exact sh1 _ (by decide +kernel) | exact sh2 _ _ (by decide +kernel) (by decide +kernel) | exact le_line (by decide), ?_⟩)
  have l1 : (Str.ofString " ").length = 1 := by decide +kernel
  have l2 : (Str.ofString "sight 1 1").length = 9 := by decide +kernel
  have lr : (repS (Str.ofString " " ++ c) 7).length = 7 * (1 + c.length) := by
    rw [len_tl]
    show ((List.replicate 7 (TL.tl (Str.ofString " " ++ c))).flatten).length = _
    rw [List.length_flatten, List.map_replicate, List.sum_replicate_nat, ← len_tl, Str.length_append, l1]
  refine ⟨by decide, by decide, by rw [Str.length_append, l1]; omega, smallE (by rw [l2, lr]; omega), le_line (by decide), _, _, rfl, rfl, le_line (by simp), ?_⟩
  repeat (refine ⟨by first | exact sh1 _ (by decide +kernel) | exact sh2 _ _ (by decide +kernel) (by decide +kernel) | exact le_line (by decide), ?_⟩)
  refine ⟨_, _, rfl, rfl, le_line (by simp), ?_⟩
  repeat (refine ⟨by first | exact sh1 _ (by decide +kernel) | exact sh2 _ _ (by decide +kernel) (by decide +kernel) | exact le_line (by decide), ?_⟩)
  refine ⟨_, _, rfl, rfl, le_line (by simp), le_line (by decide), _, _, rfl, rfl, le_line (by simp), m, dg, rest, n, 26, rfl, M, by omega, by decide, by decide, fun r μ' r0 r1 M' F' => ?_⟩
  obtain ⟨l, hl, hin, hat⟩ := atI_ex (xs := oddSight c) r0 (show r < (26 : Nat) from r1)
  exact ⟨(oddSight c).map .str, .str l, rfl, atI_some r0 (by rw [List.getElem?_map, hat]; rfl), GhQ.self (h l μ' hin M' F')⟩
end DL
set_option Elab.async false
set_option linter.all false
set_option maxRecDepth 100000
set_option maxHeartbeats 1000001
namespace DL
open PySem L2 TL
local macro_rules | `(tactic| walk_at "dd") => `(tactic| try simp only [dSeq, dAsg, dgName, dgTup, dgSub, dOp, dVar, dC, dAdd, dSub, dMul, dMod, dFDiv, dPow, dCmp, dNeg, dEqn, dIsN, dIx, dTup, dLst, dConsA, dNilA, dCB, dCall, dRet, dRetN, dDrop, dIfS, dNext, dBreak, dCont, dTest, dTru, dAndT, dOrT, dNotT, dAndV, dOrV, dNotV, dIf, dChain, dDGet, dDPut, dM1, dM0, dJoin, dSplit, dUpper, dBML, dAppend, dInsert, dPopAt, dLen, dInt, dStr, dTupOf, dListOf, dMax2, dSum, dAll, dSl, dPart, dNoPart, newLst, keyD, dFor, dLc, diSeq, diRng1, diRng2, diEnum, diEnumS, diStr,
  startD, setAll, wipeD, List.map_cons, List.map_nil, List.length_cons, List.length_nil, List.replicate, List.cons_append, List.nil_append, List.getElem?_cons_zero, List.getElem?_cons_succ, List.set_cons_zero, List.set_cons_succ, Nat.reduceAdd, Nat.reduceSub, Bool.false_eq_true, if_true, if_false, ite_true, ite_false, reduceIte])
local macro_rules | `(tactic| walk_at "cm") => `(tactic| first | exact .inl ⟨by omega, by omega⟩ | exact .inr ⟨by omega, by omega⟩ | exact ⟨by omega, by omega⟩ | omega | decide)
/-! ### spoilt texts, drawn -/
theorem cutD_take {xs : List Str} {i : Int} (h0 : 0 ≤ i) (h1 : i ≤ xs.length) : cutD (xs.map D.str) none (some i) = (xs.take i.toNat).map D.str := by
  unfold cutD
  rw [List.length_map, sIx_of h0 h1]
  show ((xs.map D.str).drop 0).take (i.toNat - 0) = _
  rw [List.drop_zero, Nat.sub_zero, List.map_take]
theorem cutD_drop {xs : List Str} {i : Int} (h0 : 0 ≤ i) (h1 : i ≤ xs.length) : cutD (xs.map D.str) (some i) none = (xs.drop i.toNat).map D.str := by
  unfold cutD
  rw [List.length_map, sIx_of h0 h1]
  show ((xs.map D.str).drop i.toNat).take (xs.length - i.toNat) = _
  rw [← List.map_drop, ← List.map_take, List.take_of_length_le (by rw [List.length_drop]; exact Nat.le_refl _)]
theorem rep_one_l {α : Type} (x : α) : ∀ n : Nat, (List.replicate n [x]).flatten = List.replicate n x
  | 0 => rfl
  | n + 1 => by rw [List.replicate_succ, List.flatten_cons, rep_one_l x n, List.replicate_succ]; rfl
section
variable {f : Flt} {ss : List Sight}
theorem first_colour (T : TextOk f ss) : ∃ c cs, f.1 = c :: cs ∧ c ∈ f.1 ∧ IsName c := by
  cases e : f.1 with
  | nil => exact absurd e (cs_ne T)
  | cons c cs => exact ⟨c, cs, rfl, by simp, T.cn c (by rw [e]; simp)⟩
end
theorem flat_len {α β : Type} {g : α → List β} {k : Nat} (hg : ∀ z, (g z).length = k) : ∀ zs : List α, ((zs.map g).flatten).length = k * zs.length
  | [] => rfl
  | z :: zs => by rw [List.map_cons, List.flatten_cons, List.length_append, hg, flat_len hg zs, List.length_cons, Nat.mul_succ, Nat.add_comm]
theorem rd__law_many : ∀ ds μ Q, P__law_many ds μ Q → td__law_many { nx := fun _ μ' => GhQ Q .non μ', rt := GhQ Q } (startD N__law_many ds) μ := by
  rintro ds μ Q ⟨m, dg, rest, n, f, ss, rfl, M, hn, T, hz, h14, h⟩
  obtain ⟨c, cs, ec, hc, nc⟩ := first_colour T
  obtain ⟨L1, L2⟩ := good_few T h14
  have L3 := head_ge T
  have lc : c.length ≤ 6 := nc.2.1
  have G0 := cutD_drop (xs := linesOf f ss) (i := 1) (by decide) (by omega)
  have G1 := cutD_take (xs := linesOf f ss) (i := 1) (by decide) (by omega)
  have G2 := cutD_take (xs := linesOf f ss) (i := 2) (by decide) (by omega)
  have G3 := cutD_take (xs := linesOf f ss) (i := ((headLines f).length : Nat)) (by omega) (by omega)
  unfold td__law_many N__law_many fleetD td__law_many_3 td__law_many_2 td__law_many_1
  walk_at "dd"
  refine ⟨_, .tup (f.1.map .str), rfl, rfl, _, .str c, rfl, by rw [ec]; exact atI_some (by decide) rfl, le_line (by decide), m, dg, rest, n, 4, rfl, M, by omega, by decide, by decide, fun r μ' r0 r1 M' F' => ?_⟩
  have M2 : MOk m dg rest (n + 5) μ' := M'.mono (by omega)
  obtain rfl | rfl | rfl | rfl : r = 0 ∨ r = 1 ∨ r = 2 ∨ r = 3 := by omega
  · refine iteT ⟨⟨_, rfl⟩, zz, rfl, by decide +kernel, by decide +kernel, le_line (by decide), _, rfl, _, _, rfl, rfl, ?_, le_line (by decide), GhQ.self ?_⟩
    · rw [G0, List.length_map, List.length_drop, List.length_singleton]; exact smallE (by omega)
    · rw [G0]
      exact h ([Str.ofString "colours " ++ Txt.join " " zz] ++ (linesOf f ss).drop 1) 1 μ' (many_0 T h14) M2 F'
  · refine iteF (iteT ⟨_, rfl, _, (show SeqD μ' _ (zz.map D.str) from rfl), ?_⟩)
    rw [G1]
    refine ⟨fun i ds ν => ν = μ' ∧ ∃ x8, ds = [some (.obj m), some (.tup [.tup (f.1.map .str), .tup (f.2.map kindD)]), some (.lst ((linesOf f ss).map .str)), some (.int ((headLines f).length : Nat)), some (.str c), some (.lst (zz.map .str)), some (.int 1), some (.lst (((linesOf f ss).take 1 ++ ((zz.take i).map fun z => [Str.ofString "kind " ++ z ++ " 1", "lamp " ++ c ++ " 1 2"]).flatten).map .str)), x8], ⟨rfl, none, ?_⟩, fun _ _ _ _ _ => trivial, ?_, ?_⟩
    · rw [List.take_zero, List.map_nil, List.flatten_nil, List.append_nil]; rfl
    · rintro i d ds ν hd ⟨rfl, x8, rfl⟩
      obtain ⟨z, hz', rfl⟩ := map_get hd
      have zm := List.mem_of_getElem? hz'
      have zl := (zz_names z zm).2.1
      have e : zz.take (i + 1) = zz.take i ++ [z] := by rw [List.take_succ, hz']; rfl
      have il : i < 7 := (List.getElem?_eq_some_iff.mp hz').1
      walk_at "dd"
      have sh1 : ∀ a : Str, ∀ x : Str, x.length ≤ 6 → a.length ≤ 100 → a.length + x.length ≤ sizeLine := fun a x hx ha => smallE (by omega)
      have sh2 : ∀ a b x : Str, x.length ≤ 6 → a.length ≤ 100 → b.length ≤ 100 → (a ++ x).length + b.length ≤ sizeLine := fun a b x hx ha hb => smallE (by rw [Str.length_append]; omega)
      refine ⟨sh1 _ _ zl (by decide +kernel), sh2 _ _ _ zl (by decide +kernel) (by decide +kernel), sh1 _ _ lc (by decide +kernel), sh2 _ _ _ lc (by decide +kernel) (by decide +kernel), le_line (by decide), _, _, rfl, rfl, ?_, trivial, some (D.str z), ?_⟩
      · rw [List.length_map, List.length_append, List.length_take, flat_len (k := 2) (fun _ => rfl), List.length_take]
        show _ + 2 ≤ _
        exact smallE (by omega)
      · rw [e]
        simp
    · rintro ds ν ⟨rfl, x8, rfl⟩
      walk_at "dd"
      refine ⟨le_line (by decide), GhQ.self ?_⟩
      exact h _ 14 _ (many_1 T h14 hc) M2 F'
  · refine iteF (iteF (iteT ⟨_, rfl, ?_, ?_, le_line (by decide), _, rfl, by decide, by decide, (show 1 * 7 ≤ sizeLine by decide), _, _, rfl, rfl, ?_, le_line (by decide), GhQ.self ?_⟩))
    · exact smallE (by have : (Str.ofString "lamp ").length = 5 := by decide +kernel
                       omega)
    · exact smallE (by have e1 : (Str.ofString "lamp ").length = 5 := by decide +kernel
                       have e2 : (Str.ofString " 1 2").length = 4 := by decide +kernel
                       rw [Str.length_append]; omega)
    · rw [G2, List.length_map, List.length_take]
      show _ + 7 ≤ _
      exact smallE (by omega)
    · rw [G2]
      have := h _ 9 _ (many_2 T h14 hc) M2 F'
      unfold lDueD at this
      rw [List.map_append] at this
      exact this
  · refine iteF (iteF (iteF ⟨_, rfl, le_line (by decide), _, rfl, by decide, by decide, (show 1 * 61 ≤ sizeLine by decide), _, _, rfl, rfl, ?_, le_line (by decide), GhQ.self ?_⟩))
    · rw [G3, List.length_map, List.length_take]
      show _ + 61 ≤ _
      exact smallE (by omega)
    · rw [G3]
      have := h _ _ _ (many_3 T h14) M2 F'
      unfold lDueD at this
      rw [List.map_append, List.map_replicate] at this
      rw [rep_one_l]
      exact this
end DL
set_option Elab.async false
set_option linter.all false
set_option maxRecDepth 100000
set_option maxHeartbeats 1000001
namespace DL
open PySem L2 TL
local macro_rules | `(tactic| walk_at "dd") => `(tactic| try simp only [dSeq, dAsg, dgName, dgTup, dgSub, dOp, dVar, dC, dAdd, dSub, dMul, dMod, dFDiv, dPow, dCmp, dNeg, dEqn, dIsN, dIx, dTup, dLst, dConsA, dNilA, dCB, dCall, dRet, dRetN, dDrop, dIfS, dNext, dBreak, dCont, dTest, dTru, dAndT, dOrT, dNotT, dAndV, dOrV, dNotV, dIf, dChain, dDGet, dDPut, dM1, dM0, dJoin, dSplit, dUpper, dBML, dAppend, dInsert, dPopAt, dLen, dInt, dStr, dTupOf, dListOf, dMax2, dSum, dAll, dSl, dPart, dNoPart, newLst, keyD, dFor, dLc, diSeq, diRng1, diRng2, diEnum, diEnumS, diStr,
  startD, setAll, wipeD, List.map_cons, List.map_nil, List.length_cons, List.length_nil, List.replicate, List.cons_append, List.nil_append, List.getElem?_cons_zero, List.getElem?_cons_succ, List.set_cons_zero, List.set_cons_succ, Nat.reduceAdd, Nat.reduceSub, Bool.false_eq_true, if_true, if_false, ite_true, ite_false, reduceIte])
local macro_rules | `(tactic| walk_at "cm") => `(tactic| first | exact .inl ⟨by omega, by omega⟩ | exact .inr ⟨by omega, by omega⟩ | exact ⟨by omega, by omega⟩ | omega | decide)
theorem iteFd {p : Prop} [Decidable p] {a b : Prop} (h : ¬ p) (hb : b) : if decide p = true then a else b := by rw [if_neg (by rw [decide_eq_true_eq]; exact h)]; exact hb
theorem iteTd {p : Prop} [Decidable p] {a b : Prop} (h : p) (ha : a) : if decide p = true then a else b := by rw [if_pos (decide_eq_true h)]; exact ha
theorem LcB.pureG {m : Bool} {items : List D} {keep : Mu → Prop} {g : DG} {te : TD} {vs : List Nat} {ds : DSl} {μ : Mu} {Q : DK} (f : D → D) (hk : keep μ) (hl : items.length ≤ 1000000)
    (h : ∀ (j : Nat) (d : D) (Qd : DK), items[j]? = some d → Qd (f d) μ → g d (wipeD ds vs) μ fun ds2 μ2 => te ds2 μ2 Qd) (hQ : newLst m (items.map f) μ Q) : LcB m items keep g dYes te vs ds μ Q := by
  refine ⟨fun j acc ν => acc = (items.take j).map f ∧ ν = μ, ⟨rfl, rfl⟩, fun j acc ν _ h => h.2 ▸ hk, fun j d acc ν hd h1 => ?_, fun acc ν h1 => ?_⟩
  · obtain ⟨rfl, rfl⟩ := h1
    have hj : j < items.length := (List.getElem?_eq_some_iff.mp hd).1
    refine ⟨small (by rw [List.length_map, List.length_take]; omega), ?_⟩
    refine h j d _ hd ⟨?_, rfl⟩
    rw [List.take_add_one, hd, List.map_append]
    rfl
  · obtain ⟨rfl, rfl⟩ := h1
    rw [List.take_length]; exact hQ
theorem heads_sum : ∀ (ks : List Kind), (((ks.map kindLines).flatten).length : Int) = (ks.map fun k => (1 + (k.2.2.length : Int))).sum
  | [] => rfl
  | k :: ks => by
    rw [List.map_cons, List.flatten_cons, List.length_append, kindLines_len, List.map_cons, List.sum_cons, ← heads_sum ks]
    omega
theorem heads_eq (f : Flt) : ((headLines f).length : Int) = 1 + (f.2.map fun k => (1 + (k.2.2.length : Int))).sum := by
  rw [← heads_sum]
  unfold headLines
  rw [List.length_cons]
  omega
theorem cut_lamp {c : Str} : cutS (Str.ofString "lamp " ++ c ++ " 1 2") none (some 4) = Str.ofString "lamp" := by
  have e : TL.tl (Str.ofString "lamp " ++ c ++ " 1 2") = [108, 97, 109, 112] ++ (32 :: (TL.tl c ++ TL.tl (Str.ofString " 1 2"))) := by
    rw [tl_append, tl_append, show TL.tl (Str.ofString "lamp ") = [108, 97, 109, 112, 32] by decide +kernel]; simp
  have l : 4 ≤ (Str.ofString "lamp " ++ c ++ " 1 2").length := by rw [len_tl, e]; simp
  refine ext_tl ?_
  unfold cutS
  rw [sIx_of (by decide) (by omega)]
  show ((TL.tl (Str.ofString "lamp " ++ c ++ " 1 2")).drop 0).take (4 - 0) = _
  rw [e, show TL.tl (Str.ofString "lamp") = [108, 97, 109, 112] by decide +kernel]
  rfl
theorem asc_join {ws : List Str} (h : ∀ w ∈ ws, Asc w) : Asc (Txt.join " " ws) := fun c hc => by
  rcases join_mem (show c ∈ TL.tl _ from hc) with q | ⟨w, hw, q⟩
  · rw [sep_blank.tl, List.mem_singleton] at q; omega
  · exact h w hw c q
theorem asc_num (n : Nat) : Asc (numT n) := fun c hc => by
  have h : c ∈ numL n := by rw [← tl_num]; exact hc
  have := numL_digits n c h
  omega
theorem asc_words : Asc "colours" ∧ Asc "kind" := by unfold Asc; decide +kernel
theorem few_asc {f : Flt} {ss : List Sight} (T : TextOk f ss) : ∀ s ∈ (linesOf f ss).take 2, Asc s := by
  obtain ⟨k, t, l, ls, ks, e, e3, _⟩ := text_begin T
  have g := T.kg (k, t, l :: ls) (by rw [e]; simp)
  rw [e3]
  intro s hs
  have hs' : s ∈ [rowOf (colourWords f.1), rowOf (kindWords (k, t, l :: ls))] := hs
  simp only [List.mem_cons, List.not_mem_nil, or_false] at hs'
  rcases hs' with rfl | rfl
  · refine asc_join fun w hw => ?_
    obtain ⟨x, hx, rfl⟩ := List.mem_map.mp hw
    rcases List.mem_cons.mp hx with rfl | hx
    · exact asc_words.1
    · obtain ⟨c, hc, rfl⟩ := List.mem_map.mp hx
      exact (T.cn c hc).asc
  · refine asc_join fun w hw => ?_
    obtain ⟨x, hx, rfl⟩ := List.mem_map.mp hw
    unfold kindWords at hx
    simp only [List.mem_cons, List.not_mem_nil, or_false] at hx
    rcases hx with rfl | rfl | rfl
    · exact asc_words.2
    · exact (T.kn (k, t, l :: ls) (by rw [e]; simp)).asc
    · rw [wText_int g.1]; exact asc_num _
theorem rd__law_spoilt : ∀ ds μ Q, P__law_spoilt ds μ Q → td__law_spoilt { nx := fun _ μ' => GhQ Q .non μ', rt := GhQ Q } (startD N__law_spoilt ds) μ := by
  rintro ds μ Q ⟨m, dg, rest, n, f, ss, rfl, M, hn, T, hz, h14, h⟩
  obtain ⟨c, cs, ec, hc, nc⟩ := first_colour T
  obtain ⟨k, ks, ek, nk⟩ := first_name T
  obtain ⟨L1, L2⟩ := good_few T h14
  have L3 := head_ge T
  have L4 := head_few T
  have lc : c.length ≤ 6 := nc.2.1
  have G0 := cutD_drop (xs := linesOf f ss) (i := 1) (by decide) (by omega)
  have G1 := cutD_take (xs := linesOf f ss) (i := 1) (by decide) (by omega)
  have G2 := cutD_take (xs := linesOf f ss) (i := 2) (by decide) (by omega)
  have G4 := cutD_drop (xs := linesOf f ss) (i := 2) (by decide) (by omega)
  unfold td__law_spoilt N__law_spoilt
  have ins : ∀ {a : Int} {l : Str}, 0 ≤ a → a ≤ (linesOf f ss).length → ([D.str l].length + 0 ≤ 5) → (cutD ((linesOf f ss).map D.str) none (some a)).length + [D.str l].length ≤ sizeLine ∧ (cutD ((linesOf f ss).map D.str) none (some a) ++ [D.str l]).length + (cutD ((linesOf f ss).map D.str) (some a) none).length ≤ sizeLine ∧ cutD ((linesOf f ss).map D.str) none (some a) ++ [D.str l] ++ cutD ((linesOf f ss).map D.str) (some a) none = ((linesOf f ss).take a.toNat ++ [l] ++ (linesOf f ss).drop a.toNat).map D.str := fun {a l} h0 h1 _ => by
    rw [cutD_take h0 h1, cutD_drop h0 h1]
    refine ⟨smallE ?_, smallE ?_, ?_⟩
    · rw [List.length_map, List.length_take, List.length_singleton]; omega
    · rw [List.length_append, List.length_map, List.length_map, List.length_take, List.length_drop, List.length_singleton]; omega
    · rw [List.map_append, List.map_append]; rfl
  unfold fleetD
  walk_at "dd"
  refine ⟨m, dg, rest, n, 10, rfl, M, by omega, by decide, by decide, fun r μ' r0 r1 M' F' => ?_⟩
  refine ⟨_, .tup (f.1.map .str), rfl, rfl, _, .str c, rfl, by rw [ec]; exact atI_some (by decide) rfl, ?_⟩
  show ∃ xs d, _
  refine ⟨_, .tup (f.2.map kindD), rfl, rfl, _, rfl, LcB.pureG (fun d => match d with | .tup [_, _, .tup ls] => .int (1 + (ls.length : Int)) | d => d) trivial (by rw [List.length_map]; have := T.k6; omega) (fun j d Qd hd q => ?_) ?_⟩
  · obtain ⟨k', hk', rfl⟩ := map_get hd
    unfold kindD
    walk_at "dd"
    exact ⟨trivial, _, rfl, q⟩
  have e1 : (f.2.map kindD).map (fun d => match d with | .tup [_, _, .tup ls] => D.int (1 + (ls.length : Int)) | d => d) = (f.2.map fun k => (1 + (k.2.2.length : Int))).map .int := by
    rw [List.map_map, List.map_map]
    refine List.map_congr_left fun k _ => ?_
    show D.int (1 + ((k.2.2.map lampD).length : Int)) = _
    rw [List.length_map]; rfl
  rw [e1]
  refine ⟨_, rfl, ?_⟩
  rw [← heads_eq]
  obtain rfl | z0 := Classical.em (r = 0)
  · refine iteT ⟨m, dg, n + 1, rest, rfl, M', by omega, fun l μ2 hl M2 F2 => ⟨le_line (by decide), _, rfl, _, _, rfl, rfl, ?_, le_line (by decide), GhQ.self ?_⟩⟩
    · rw [G0, List.length_map, List.length_drop, List.length_singleton]; exact smallE (by omega)
    · rw [G0]
      exact h ([l] ++ (linesOf f ss).drop 1) 1 μ2 (spoil_first T h14 hl) (M2.mono (by omega)) (F'.trans F2)
  refine iteFd z0 ?_
  unfold td__law_spoilt_6
  walk_at "dd"
  obtain rfl | z1 := Classical.em (r = 1)
  · refine iteT ⟨le_line (by decide), m, dg, rest, n + 1, 2, rfl, M', by omega, by decide, by decide, fun y μ2 y0 y1 M2 F2 => ?_⟩
    obtain ⟨a, ha, hat⟩ : ∃ a : Int, (a = 3 ∨ a = ((headLines f).length : Nat)) ∧ atI [D.int 3, D.int ((headLines f).length : Nat)] y = some (.int a) := by
      obtain rfl | rfl : y = 0 ∨ y = 1 := by omega
      · exact ⟨_, .inl rfl, rfl⟩
      · exact ⟨_, .inr rfl, rfl⟩
    refine ⟨_, _, rfl, hat, _, rfl, _, .tup (f.2.map kindD), rfl, rfl, _, .tup [.str k.1, .int k.2.1, .tup (k.2.2.map lampD)], rfl, by rw [ek]; exact atI_some (by decide) rfl, _, .str k.1, rfl, rfl, m, dg, n + 2, k.1, Nat.le_trans nk.2.1 (by decide), rest, rfl, M2, by omega, fun l μ3 hl M3 F3 => ?_⟩
    obtain ⟨i1, i2, i3⟩ := ins (a := a) (l := l) (by omega) (by omega) (by simp)
    refine ⟨le_line (by decide), _, _, rfl, rfl, i1, _, rfl, _, _, rfl, rfl, i2, le_line (by decide), GhQ.self ?_⟩
    have ea : (a + 1 : Int) = ((a.toNat + 1 : Nat) : Int) := by omega
    rw [i3, ea]
    exact h _ _ μ3 (spoil_kind T h14 ek hl (by omega)) (M3.mono (by omega)) ((F'.trans F2).trans F3)
  refine iteFd z1 ?_
  unfold td__law_spoilt_5
  walk_at "dd"
  obtain rfl | z2 := Classical.em (r = 2)
  · refine iteT ⟨m, dg, rest, n + 1, _, rfl, M', by omega, by omega, by omega, fun y μ2 y0 y1 M2 F2 => ⟨_, rfl, m, dg, n + 2, c, nc, rest, rfl, M2, by omega, fun l μ3 hl M3 F3 => ?_⟩⟩
    obtain ⟨i1, i2, i3⟩ := ins (a := 2 + y) (l := l) (by omega) (by omega) (by simp)
    refine ⟨le_line (by decide), _, _, rfl, rfl, i1, _, rfl, _, _, rfl, rfl, i2, le_line (by decide), GhQ.self ?_⟩
    have ea : (2 + y + 1 : Int) = (((2 + y).toNat + 1 : Nat) : Int) := by omega
    rw [i3, ea]
    exact h _ _ μ3 (spoil_lamp T h14 hz hc hl (by omega) (by omega)) (M3.mono (by omega)) ((F'.trans F2).trans F3)
  refine iteFd z2 ?_
  unfold td__law_spoilt_4
  walk_at "dd"
  obtain z3 | z3 := Classical.em (r < 7)
  · refine iteTd z3 ⟨_, rfl, m, dg, rest, n + 1, _, rfl, M', by omega, by rw [List.length_map]; omega, by rw [List.length_map]; omega, fun y μ2 y0 y1 M2 F2 => ⟨m, dg, n + 2, c, nc, rest, rfl, M2, by omega, fun l μ3 hl M3 F3 => ?_⟩⟩
    rw [List.length_map] at y1
    have F03 := (F'.trans F2).trans F3
    obtain ⟨i1, i2, i3⟩ := ins (a := ((headLines f).length : Nat) + y) (l := l) (by omega) (by omega) (by simp)
    have ea : (((headLines f).length : Nat) + y + 1 : Int) = (((((headLines f).length : Nat) : Int) + y).toNat + 1 : Nat) := by omega
    refine ⟨smallE (Nat.le_trans (oddSight_line nc hl).1 (by decide)), le_line (by decide), _, rfl, rfl, rfl, ?_⟩
    have ei : inD (D.str (cutS l none (some 4))) [D.str (Str.ofString "kind"), D.str (Str.ofString "lamp")] = decide (cutS l none (some 4) ∈ ([Str.ofString "kind", Str.ofString "lamp"] : List Str)) := inD_strs _ [Str.ofString "kind", Str.ofString "lamp"]
    show if (!inD (D.str (cutS l none (some 4))) [D.str (Str.ofString "kind"), D.str (Str.ofString "lamp")]) = true then _ else _
    rw [ei]
    by_cases hx : cutS l none (some 4) ∈ ([Str.ofString "kind", Str.ofString "lamp"] : List Str)
    · rw [if_neg (by rw [decide_eq_true hx]; decide)]
      show if decide (((headLines f).length : Int) < ((headLines f).length : Nat) + y) = true then _ else _
      by_cases hy : ((headLines f).length : Int) < ((headLines f).length : Nat) + y
      · refine iteTd hy ⟨_, rfl, le_line (by decide), _, _, rfl, rfl, i1, _, rfl, _, _, rfl, rfl, i2, le_line (by decide), GhQ.self ?_⟩
        rw [i3, ea]
        exact h _ _ μ3 (spoil_sight T h14 hz hc hl (by omega) (by omega) (.inl (by omega))) (M3.mono (by omega)) F03
      · refine iteFd hy ?_
        unfold td__law_spoilt_3
        walk_at "dd"
        refine iteTd (show r < 8 by omega) ⟨m, dg, rest, n + 3, f, ss, rfl, M3, by omega, T, hz, h14, fun ls due μ4 hsp M4 F4 => GhQ.self (h ls due μ4 hsp (M4.mono (by omega)) (F03.trans F4))⟩
    · rw [if_pos (by rw [decide_eq_false hx]; rfl)]
      refine ⟨_, rfl, le_line (by decide), _, _, rfl, rfl, i1, _, rfl, _, _, rfl, rfl, i2, le_line (by decide), GhQ.self ?_⟩
      rw [i3, ea]
      refine h _ _ μ3 (spoil_sight T h14 hz hc hl (by omega) (by omega) (.inr ⟨fun e => hx ?_, fun e => hx ?_⟩)) (M3.mono (by omega)) F03
      · rw [e, show cutS (Str.ofString "kind zzqzzq 1") none (some 4) = Str.ofString "kind" by decide +kernel]; simp
      · rw [e, cut_lamp]; simp
  refine iteFd z3 ?_
  unfold td__law_spoilt_3
  walk_at "dd"
  obtain z4 | z4 := Classical.em (r < 8)
  · refine iteTd z4 ⟨m, dg, rest, n + 1, f, ss, rfl, M', by omega, T, hz, h14, fun ls due μ4 hsp M4 F4 => GhQ.self (h ls due μ4 hsp (M4.mono (by omega)) (F'.trans F4))⟩
  refine iteFd z4 ?_
  unfold td__law_spoilt_2
  walk_at "dd"
  obtain rfl | z5 := Classical.em (r = 8)
  · have c1 : (cutD ((linesOf f ss).map D.str) none (some 1)).length ≤ 57 := by rw [G1, List.length_map, List.length_take]; omega
    have c2 : (cutD ((linesOf f ss).map D.str) none (some 2)).length ≤ 57 := by rw [G2, List.length_map, List.length_take]; omega
    have c3 : (cutD ((linesOf f ss).map D.str) (some 2) none).length ≤ 57 := by rw [G4, List.length_map, List.length_drop]; omega
    have M4 : ∀ {ν : Mu}, MOk m dg rest (n + 1 + 1) ν → MOk m dg rest (n + 10) ν := fun M => M.mono (by omega)
    refine iteT ⟨_, rfl, le_line (by decide), _, rfl, _, rfl, _, _, rfl, rfl, smallE (by omega), le_line (by decide), _, rfl, le_line (by decide), _, _, rfl, rfl, smallE (by rw [List.length_singleton]; omega), le_line (by decide), le_line (by decide), _, rfl, le_line (by decide), _, _, rfl, rfl, smallE (by rw [List.length_singleton]; omega), le_line (by decide), _, rfl, le_line (by decide), _, _, rfl, rfl, smallE (by rw [List.length_singleton]; omega), le_line (by decide), le_line (by decide), _, _, rfl, rfl, (show 3 + 2 ≤ sizeLine from le_line (by decide)), m, dg, rest, n + 1, 5, rfl, M', by omega, by decide, by decide, fun y μ2 y0 y1 M2 F2 => ?_⟩
    have F02 := F'.trans F2
    obtain rfl | rfl | rfl | rfl | rfl : y = 0 ∨ y = 1 ∨ y = 2 ∨ y = 3 ∨ y = 4 := by omega
    · refine ⟨_, _, rfl, atI_some (by decide) rfl, GhQ.self ?_⟩
      rw [G0]
      exact h _ 1 _ (left_0 T h14) (M4 M2) F02
    · refine ⟨_, _, rfl, atI_some (by decide) rfl, GhQ.self ?_⟩
      have := h _ 2 _ (left_1 T h14) (M4 M2) F02
      unfold lDueD at this
      rw [List.map_append] at this
      rw [G1, G4]
      exact this
    · refine ⟨_, _, rfl, atI_some (by decide) rfl, GhQ.self ?_⟩
      have := h _ 3 _ (left_2 T h14) (M4 M2) F02
      unfold lDueD at this
      rw [List.map_append] at this
      rw [G2]
      exact this
    · refine ⟨_, _, rfl, atI_some (by decide) rfl, GhQ.self ?_⟩
      have := h _ 3 _ (left_3 T h14) (M4 M2) F02
      unfold lDueD at this
      rw [List.map_append] at this
      rw [G2]
      exact this
    · refine ⟨_, _, rfl, atI_some (by decide) rfl, GhQ.self ?_⟩
      have := h _ 2 _ (left_4 T h14) (M4 M2) F02
      unfold lDueD at this
      rw [List.map_append] at this
      rw [G1]
      exact this
  refine iteFd z5 ?_
  unfold td__law_spoilt_1
  walk_at "dd"
  refine ⟨_, rfl, _, rfl, Nat.zero_le _, le_line (by decide), m, dg, rest, n + 1, 3, rfl, M', by omega, by decide, by decide, fun y μ2 y0 y1 M2 F2 => ?_⟩
  obtain ⟨few, dd, hat, hrun, hlk, hasc, hok, hlen⟩ : ∃ few dd, atI [D.lst (cutD ((linesOf f ss).map D.str) none (some 1)), D.lst (cutD ((linesOf f ss).map D.str) none (some 2)), D.lst []] y = some (.lst (few.map .str)) ∧ runM dr0 few = some dd ∧ lacksB dd = true ∧ (∀ s ∈ few, Asc s) ∧ (∀ l ∈ few, LineOk l) ∧ few.length ≤ 2 := by
    obtain rfl | rfl | rfl : y = 0 ∨ y = 1 ∨ y = 2 := by omega
    · exact ⟨_, _, (atI_some (by decide) rfl).trans (by rw [G1]; rfl), state1 T, rfl, fun s hs => few_asc T s (List.mem_of_mem_take (i := 1) (by rw [List.take_take]; exact hs)), fun l hl => good_lines T l (List.mem_of_mem_take hl), by rw [List.length_take]; show min 1 _ ≤ 2; omega⟩
    · obtain ⟨kk, tt, st⟩ := state2 T
      exact ⟨_, _, (atI_some (by decide) rfl).trans (by rw [G2]; rfl), st, rfl, few_asc T, fun l hl => good_lines T l (List.mem_of_mem_take hl), by rw [List.length_take]; show min 2 _ ≤ 2; omega⟩
    · exact ⟨[], dr0, atI_some (by decide) rfl, rfl, rfl, (fun _ h => nomatch h), (fun _ h => nomatch h), Nat.zero_le _⟩
  refine ⟨_, _, rfl, hat, le_line (by decide), m, dg, rest, n + 2, 3, rfl, M2, by omega, by decide, by decide, fun y2 μ3 y20 y21 M3 F3 => ?_⟩
  obtain ⟨tx, hat2, hmute, hline⟩ : ∃ tx, atI [D.str (Str.ofString ""), D.str (Str.ofString "# so"), D.str (Str.ofString "  ")] y2 = some (.str tx) ∧ Mute tx ∧ LineOk tx := by
    obtain rfl | rfl | rfl : y2 = 0 ∨ y2 = 1 ∨ y2 = 2 := by omega
    · exact ⟨_, atI_some (by decide) rfl, mute_of (by decide +kernel), line_fix (by decide +kernel)⟩
    · exact ⟨_, atI_some (by decide) rfl, mute_of (by decide +kernel), line_fix (by decide +kernel)⟩
    · exact ⟨_, atI_some (by decide) rfl, mute_of (by decide +kernel), line_fix (by decide +kernel)⟩
  refine ⟨_, _, rfl, hat2, le_line (by decide), m, dg, rest, n + 3, 3, rfl, M3, by omega, by decide, by decide, fun y3 μ4 y30 y31 M4 F4 => ⟨Nat.zero_le _, _, _, pdM_strs few, pdM_nil, shaped_strs hasc, shaped_nil, ?_⟩⟩
  obtain ⟨b, hb⟩ : ∃ b : Int, (if (!(PyData.list (few.map PyData.str)).eqv (PyData.list [])) = true then 1 else 0 : Int) = b ∧ (b = 0 ∨ b = 1) := by
    refine ⟨_, rfl, ?_⟩
    split
    · exact .inr rfl
    · exact .inl rfl
  rw [hb.1]
  have hk : 0 ≤ y3 * b ∧ y3 * b ≤ 2 := by
    rcases hb.2 with rfl | rfl
    · rw [Int.mul_zero]; omega
    · rw [Int.mul_one]; omega
  refine ⟨by rcases hb.2 with rfl | rfl <;> walk_at "cm", _, rfl, by omega, by omega, ?_, _, _, rfl, rfl, ?_, le_line (by decide), GhQ.self ?_⟩
  · rw [List.length_singleton]; exact smallE (by omega)
  · rw [rep_one_l, List.length_map, List.length_replicate]; exact smallE (by omega)
  · have := h _ 0 μ4 (few_ok (n := (y3 * b).toNat) hmute hline (by omega) hok (by omega) hrun hlk) (M4.mono (by omega)) (((F'.trans F2).trans F3).trans F4)
    unfold lDueD at this
    rw [List.map_append, List.map_replicate] at this
    rw [rep_one_l]
    exact this
end DL
set_option Elab.async false
set_option linter.all false
set_option maxRecDepth 100000
set_option maxHeartbeats 1000001
namespace DL
open PySem L2 TL
local macro_rules | `(tactic| walk_at "dd") => `(tactic| try simp only [dSeq, dAsg, dgName, dgTup, dgSub, dOp, dVar, dC, dAdd, dSub, dMul, dMod, dFDiv, dPow, dCmp, dNeg, dEqn, dIsN, dIx, dTup, dLst, dConsA, dNilA, dCB, dCall, dRet, dRetN, dDrop, dIfS, dNext, dBreak, dCont, dTest, dTru, dAndT, dOrT, dNotT, dAndV, dOrV, dNotV, dIf, dChain, dDGet, dDPut, dM1, dM0, dJoin, dSplit, dUpper, dBML, dAppend, dInsert, dPopAt, dLen, dInt, dStr, dTupOf, dListOf, dMax2, dSum, dAll, dSl, dPart, dNoPart, newLst, keyD, dFor, dLc, diSeq, diRng1, diRng2, diEnum, diEnumS, diStr,
  startD, setAll, wipeD, List.map_cons, List.map_nil, List.length_cons, List.length_nil, List.replicate, List.cons_append, List.nil_append, List.getElem?_cons_zero, List.getElem?_cons_succ, List.set_cons_zero, List.set_cons_succ, Nat.reduceAdd, Nat.reduceSub, Bool.false_eq_true, if_true, if_false, ite_true, ite_false, reduceIte])
local macro_rules | `(tactic| walk_at "cm") => `(tactic| first | exact .inl ⟨by omega, by omega⟩ | exact .inr ⟨by omega, by omega⟩ | exact ⟨by omega, by omega⟩ | omega | decide)
theorem iteFe {p : Prop} [Decidable p] {a b : Prop} (h : ¬ p) (hb : b) : if decide p = true then a else b := by rw [if_neg (by rw [decide_eq_true_eq]; exact h)]; exact hb
theorem iteTe {p : Prop} [Decidable p] {a b : Prop} (h : p) (ha : a) : if decide p = true then a else b := by rw [if_pos (decide_eq_true h)]; exact ha
def mutes : List Str := ["", "# so ~", "   ", " # kind"]
theorem mutes_ok : ∀ l ∈ mutes, Mute l ∧ LineOk l := fun l hl => by
  have h : (mutes.all fun l => (decide (9 ∉ TL.tl l) && (wordsOf l).isEmpty) && (decide (l.length ≤ 30) && decide (10 ∉ TL.tl l))) = true := by decide +kernel
  have := List.all_eq_true.mp h l hl
  rw [Bool.and_eq_true] at this
  exact ⟨mute_of this.1, line_fix this.2⟩
theorem run_more {xs ms : List Str} (h : ∀ l ∈ ms, Mute l) (d : Dr) : runM d (xs ++ ms) = runM d xs := by
  rw [runM_app2]
  cases e : runM d xs with
  | none => rfl
  | some d' =>
    have := run_mute (ls := ms) (r := []) h d'
    rw [List.append_nil] at this
    exact this
theorem rd__law_spread : ∀ ds μ Q, P__law_spread ds μ Q → td__law_spread { nx := fun _ μ' => GhQ Q .non μ', rt := GhQ Q } (startD N__law_spread ds) μ := by
  rintro ds μ Q ⟨m, dg, rest, n, ls, due, rfl, M, hn, ok, hd, h⟩
  unfold td__law_spread N__law_spread td__law_spread_2
  have few := ok.few
  walk_at "dd"
  by_cases z : due = 0
  · subst z
    refine iteTe rfl ⟨_, rfl, le_line (by decide), GhQ.self ?_⟩
    have := h ls (max 1 ls.length + 1) μ (.inl ⟨rfl, rfl, rfl⟩) ⟨by omega, ok.ok⟩ (M.mono (by omega)) (Fr.refl _)
    have e : ((if ((List.map D.str ls).length : Int) > 1 then ((List.map D.str ls).length : Int) else 1) + 1) = ((max 1 ls.length + 1 : Nat) : Int) := by
      rw [List.length_map]
      split <;> omega
    rw [e]
    exact this
  refine iteFe (by omega) ⟨m, dg, rest, n, 3, rfl, M, by omega, by decide, by decide, fun way μ1 w0 w1 M1 F1 => ⟨Nat.zero_le _, fun p hp => ⟨_, rfl, ?_⟩⟩⟩
  have pm := M1.neM hp
  have pd := M1.neD hp
  have hp0 : μ p = none := by rw [← F1 p pm pd]; exact hp
  let Pl : List Str → Nat → Prop := fun fs pl => ∃ l f1 f2, fs = f1 ++ l :: f2 ∧ f1.length + 1 = pl ∧ ls[due - 1]? = some l ∧ ∀ d, runM d f1 = runM d (ls.take (due - 1))
  let I : Nat → DSl → Mu → Prop := fun i ds ν => ∃ (q : Addr) (fs : List Str) (pl : Nat) (x6 x7 : Option D), ds = [some (.obj m), some (.lst (ls.map .str)), some (.int due), some (.int way), some (.obj q), some (.int pl), x6, x7] ∧ ν q = some (.lst (fs.map .str)) ∧ μ q = none ∧ q ≠ m ∧ q ≠ dg ∧
    (∀ a o, a ≠ m → a ≠ dg → μ a = some o → ν a = some o) ∧ MOk m dg rest (n + 1 + 3 * i) ν ∧ (∀ l ∈ fs, LineOk l) ∧ fs.length ≤ 3 * i ∧ (∀ d, runM d fs = runM d (ls.take i)) ∧ (due ≤ i → Pl fs pl)
  refine ⟨I, ⟨p, [], 0, none, none, rfl, put_same, hp0, pm, pd, fun a o h1 h2 e => ?_, M1.putO pm pd, of_nil, Nat.zero_le _, fun _ => rfl, fun q => absurd (Nat.le_zero.mp q) z⟩, fun _ _ _ _ _ => trivial, ?_, ?_⟩
  · rw [put_ne (fun q => by rw [q, hp0] at e; cases e), F1 a h1 h2]; exact e
  · rintro i d ds ν hdi ⟨q, fs, pl, x6, x7, rfl, hq, hq0, qm, qd, old, Mν, okf, lf, rf, pf⟩
    obtain ⟨y, hy, rfl⟩ := enumD_get hdi
    obtain ⟨line, hline, rfl⟩ := map_get hy
    have il : i < ls.length := (List.getElem?_eq_some_iff.mp hline).1
    have lok := ok.ok line (List.mem_of_getElem? hline)
    have e1 : ls.take (i + 1) = ls.take i ++ [line] := by rw [List.take_add_one, hline]; rfl
    -- what stands behind the lines that say nothing
    have tail : ∀ (q : Addr) (ms : List Str) (ν : Mu), ν q = some (.lst ((fs ++ ms).map .str)) → μ q = none → q ≠ m → q ≠ dg → (∀ a o, a ≠ m → a ≠ dg → μ a = some o → ν a = some o) → MOk m dg rest (n + 1 + 3 * (i + 1)) ν → (∀ l ∈ ms, Mute l ∧ LineOk l) → ms.length ≤ 2 →
        td__law_spread_1 { nx := I (i + 1), ct := I (i + 1), bk := fun _ _ => False, rt := fun _ _ => False } [some (.obj m), some (.lst (ls.map .str)), some (.int due), some (.int way), some (.obj q), some (.int pl), some (.int (0 + (i : Nat))), some (.str line)] ν := fun q ms ν hq hq0 qm qd old Mν hms lms => by
      unfold td__law_spread_1
      walk_at "dd"
      have lok2 : ∀ l ∈ fs ++ ms ++ [line], LineOk l := of_app (of_app okf fun l hl => (hms l hl).2) (of_cons lok of_nil)
      have em : (fs ++ ms).map D.str ++ [D.str line] = (fs ++ ms ++ [line]).map D.str := by rw [List.map_append (l₁ := fs ++ ms)]; rfl
      have rn : ∀ d, runM d (fs ++ ms) = runM d (ls.take i) := fun d => (run_more (fun l hl => (hms l hl).1) d).trans (rf d)
      have rn2 : ∀ d, runM d (fs ++ ms ++ [line]) = runM d (ls.take (i + 1)) := fun d => by rw [e1, runM_app2 (xs := fs ++ ms), runM_app2 (xs := ls.take i), rn]
      have old2 : ∀ (o2 : MO) a o, a ≠ m → a ≠ dg → μ a = some o → put ν q o2 a = some o := fun o2 a o h1 h2 e => by
        rw [put_ne (fun z => by rw [z, hq0] at e; cases e)]; exact old a o h1 h2 e
      have ll : (fs ++ ms ++ [line]).length ≤ 3 * (i + 1) := by rw [List.length_append, List.length_append, List.length_singleton]; omega
      refine ⟨⟨_, hq⟩, _, hq, small (by rw [List.length_map, List.length_append]; omega), ?_⟩
      rw [em]
      by_cases hdue : 0 + (i : Int) + 1 = due
      · refine iteTe hdue ⟨_, put_same, q, fs ++ ms ++ [line], (fs ++ ms ++ [line]).length, some (.int (0 + (i : Nat))), some (.str line), ?_, put_same, hq0, qm, qd, old2 _, Mν.putO qm qd, lok2, ll, rn2, fun _ => ⟨line, fs ++ ms, [], rfl, by rw [List.length_append (as := fs ++ ms), List.length_singleton], ?_, ?_⟩⟩
        · rw [List.length_map]
        · rw [show due - 1 = i by omega]; exact hline
        · rw [show due - 1 = i by omega]; exact rn
      · refine iteFe hdue ⟨q, fs ++ ms ++ [line], pl, some (.int (0 + (i : Nat))), some (.str line), rfl, put_same, hq0, qm, qd, old2 _, Mν.putO qm qd, lok2, ll, rn2, fun hle => ?_⟩
        obtain ⟨l, f1, f2, p1, p2, p3, p4⟩ := pf (by omega)
        exact ⟨l, f1, f2 ++ ms ++ [line], by rw [p1]; simp, p2, p3, p4⟩
    walk_at "dd"
    refine ⟨trivial, ?_⟩
    have Mi : MOk m dg rest (n + 1 + 3 * (i + 1)) ν := Mν.mono (by omega)
    by_cases hw : 0 < way
    · refine iteTe hw ⟨m, dg, rest, _, 3, rfl, Mν, by omega, by decide, by decide, fun r ν1 r0 r1 Mν1 Fν1 => ?_⟩
      have hq1 : ν1 q = some (.lst (fs.map .str)) := (Fν1 q qm qd).trans hq
      have old1 : ∀ a o, a ≠ m → a ≠ dg → μ a = some o → ν1 a = some o := fun a o h1 h2 e => (Fν1 a h1 h2).trans (old a o h1 h2 e)
      show if decide (r = 0) = true then _ else _
      by_cases hr : r = 0
      · refine iteTe hr ⟨le_line (by decide), m, dg, rest, _, 4, rfl, Mν1, by omega, by decide, by decide, fun r2 ν2 r20 r21 Mν2 Fν2 => ?_⟩
        obtain ⟨tx, hat, htx⟩ : ∃ tx, atI [D.str (Str.ofString ""), D.str (Str.ofString "# so ~"), D.str (Str.ofString "   "), D.str (Str.ofString " # kind")] r2 = some (.str tx) ∧ tx ∈ mutes := by
          obtain rfl | rfl | rfl | rfl : r2 = 0 ∨ r2 = 1 ∨ r2 = 2 ∨ r2 = 3 := by omega
          · exact ⟨_, atI_some (by decide) rfl, by decide +kernel⟩
          · exact ⟨_, atI_some (by decide) rfl, by decide +kernel⟩
          · exact ⟨_, atI_some (by decide) rfl, by decide +kernel⟩
          · exact ⟨_, atI_some (by decide) rfl, by decide +kernel⟩
        refine ⟨_, _, rfl, hat, le_line (by decide), m, dg, rest, _, 2, rfl, Mν2, by omega, by decide, by decide, fun r3 ν3 r30 r31 Mν3 Fν3 => ?_⟩
        have hq3 : ν3 q = some (.lst (fs.map .str)) := (Fν3 q qm qd).trans ((Fν2 q qm qd).trans hq1)
        have old3 : ∀ a o, a ≠ m → a ≠ dg → μ a = some o → ν3 a = some o := fun a o h1 h2 e => (Fν3 a h1 h2).trans ((Fν2 a h1 h2).trans (old1 a o h1 h2 e))
        refine ⟨_, rfl, by omega, by omega, by rw [List.length_singleton]; exact smallE (by omega), _, _, hq3, rfl, ?_, fun p hp => ?_⟩
        · rw [rep_one_l, List.length_map, List.length_replicate]; exact smallE (by omega)
        · have pm := Mν3.neM hp
          have pd := Mν3.neD hp
          have hp0 : μ p = none := by
            cases e : μ p with
            | none => rfl
            | some o => rw [old3 p o pm pd e] at hp; cases hp
          rw [rep_one_l]
          refine tail p (List.replicate (1 + r3).toNat tx) _ ?_ hp0 pm pd (fun a o h1 h2 e => ?_) ((Mν3.mono (by omega)).putO pm pd) (fun l hl => ?_) (by rw [List.length_replicate]; omega)
          · rw [put_same, List.map_append, List.map_replicate]
          · rw [put_ne (fun z => by rw [z, hp0] at e; cases e)]; exact old3 a o h1 h2 e
          · rw [List.eq_of_mem_replicate hl]; exact mutes_ok tx htx
      · refine iteFe hr ?_
        exact tail q [] ν1 (by rw [List.append_nil]; exact hq1) hq0 qm qd old1 (Mν1.mono (by omega)) (fun _ h => nomatch h) (Nat.zero_le _)
    · refine iteFe hw ?_
      exact tail q [] ν (by rw [List.append_nil]; exact hq) hq0 qm qd old Mi (fun _ h => nomatch h) (Nat.zero_le _)
  · rintro ds ν ⟨q, fs, pl, x6, x7, rfl, hq, hq0, qm, qd, old, Mν, okf, lf, rf, pf⟩
    walk_at "dd"
    rw [enumD_len, List.length_map] at *
    refine ⟨le_line (by decide), ?_⟩
    refine GhQ.refix (μ' := fun a => if a = m ∨ a = dg then ν a else μ a) (fun a o e => ?_) hq (by show (if q = m ∨ q = dg then ν q else μ q) = none; rw [if_neg (fun z => z.elim qm qd)]; exact hq0) (d' := lDueD fs (pl : Nat)) ⟨_, rfl, _, _, rfl, .inr ⟨rfl, rfl⟩, _, _, rfl, rfl, rfl⟩ (h fs pl _ (.inr ⟨z, ?_, ?_⟩) ⟨by omega, okf⟩ ?_ fun a h1 h2 => ?_)
    · have e' : (if a = m ∨ a = dg then ν a else μ a) = some o := e
      by_cases z : a = m ∨ a = dg
      · rw [if_pos z] at e'; exact e'
      · rw [if_neg z] at e'; exact old a o (fun y => z (.inl y)) (fun y => z (.inr y)) e'
    · intro d
      have := rf d
      rw [List.take_length] at this
      exact this
    · intro pre l post e1 e2
      obtain ⟨l', f1, f2, p1, p2, p3, p4⟩ := pf hd
      have el : l' = l := by
        rw [e1, List.getElem?_append_right (by omega), show due - 1 - pre.length = 0 by omega] at p3
        exact (Option.some.inj p3).symm
      have ep : ls.take (due - 1) = pre := by rw [e1, show due - 1 = pre.length by omega, List.take_left]
      rw [ep] at p4
      exact ⟨f1, f2, by rw [← el]; exact p1, p2, p4⟩
    · have M2 := Mν.mono (show n + 1 + 3 * ls.length ≤ n + 400 by omega)
      obtain ⟨x1, x2, c, d, t, x3, x4, x5⟩ := M2
      exact ⟨x1, x2, c, d, t, by show (if m = m ∨ m = dg then _ else _) = _; rw [if_pos (.inl rfl)]; exact x3, by show (if dg = m ∨ dg = dg then _ else _) = _; rw [if_pos (.inr rfl)]; exact x4, x5⟩
    · show (if a = m ∨ a = dg then ν a else μ a) = μ a
      rw [if_neg (fun z => z.elim h1 h2)]
end DL
set_option Elab.async false
set_option linter.all false
set_option maxRecDepth 100000
set_option maxHeartbeats 1000001
namespace DL
open PySem L2 TL
local macro_rules | `(tactic| walk_at "dd") => `(tactic| try simp only [dSeq, dAsg, dgName, dgTup, dgSub, dOp, dVar, dC, dAdd, dSub, dMul, dMod, dFDiv, dPow, dCmp, dNeg, dEqn, dIsN, dIx, dTup, dLst, dConsA, dNilA, dCB, dCall, dRet, dRetN, dDrop, dIfS, dNext, dBreak, dCont, dTest, dTru, dAndT, dOrT, dNotT, dAndV, dOrV, dNotV, dIf, dChain, dDGet, dDPut, dM1, dM0, dJoin, dSplit, dUpper, dBML, dAppend, dInsert, dPopAt, dLen, dInt, dStr, dTupOf, dListOf, dMax2, dSum, dAll, dSl, dPart, dNoPart, newLst, keyD, dFor, dLc, diSeq, diRng1, diRng2, diEnum, diEnumS, diStr,
  startD, setAll, wipeD, List.map_cons, List.map_nil, List.length_cons, List.length_nil, List.replicate, List.cons_append, List.nil_append, List.getElem?_cons_zero, List.getElem?_cons_succ, List.set_cons_zero, List.set_cons_succ, Nat.reduceAdd, Nat.reduceSub, Bool.false_eq_true, if_true, if_false, ite_true, ite_false, reduceIte])
local macro_rules | `(tactic| walk_at "cm") => `(tactic| first | exact .inl ⟨by omega, by omega⟩ | exact .inr ⟨by omega, by omega⟩ | exact ⟨by omega, by omega⟩ | omega | decide)
/-! ### the law -/
theorem text_of {cs ks : List Str} {f : Flt} {ss : List Sight} (gc : GoodNames cs) (gk : GoodNames ks) (g : GoodFleet cs ks f) (hs : ∀ s ∈ ss, GoodSight f.1 s) (hl : ss.length ≤ 60) : TextOk f ss where
  c1 := g.c0
  c6 := g.c6
  cd := by rw [g.cp]; exact List.Sublist.nodup (List.take_sublist _ _) gc.2.1
  cn := fun c hc => gc.2.2.1 c (by rw [g.cp] at hc; exact List.mem_of_mem_take hc)
  k1 := g.k0
  k6 := g.k6
  kd := by rw [g.kp]; exact List.Sublist.nodup (List.take_sublist _ _) gk.2.1
  kn := fun k hk => gk.2.2.1 k.1 (by
    have : k.1 ∈ f.2.map (·.1) := List.mem_map_of_mem hk
    rw [g.kp] at this
    exact List.mem_of_mem_take this)
  kg := g.kg
  sg := hs
  s6 := hl
theorem zzq_of {cs ks : List Str} {f : Flt} (gc : GoodNames cs) (g : GoodFleet cs ks f) : Str.ofString "zzq" ∉ f.1 := fun h => gc.2.2.2 (by rw [g.cp] at h; exact List.mem_of_mem_take h)
section
variable {f : Flt} {ss : List Sight}
theorem short_fleet (T : TextOk f ss) : ShortFleet f where
  c := Nat.le_trans T.c6 (by decide)
  cl := fun c hc => Nat.le_trans (T.cn c hc).2.1 (by decide)
  k := Nat.le_trans T.k6 (by decide)
  kl := fun k hk => by
    have g := T.kg k hk
    refine ⟨Nat.le_trans (T.kn k hk).2.1 (by decide), ⟨g.1, by have := g.2.1; omega⟩, Nat.le_trans g.2.2.2.1 (by decide), fun l hl => ?_⟩
    have gl := g.2.2.2.2 l hl
    exact ⟨Nat.le_trans (T.cn _ gl.1).2.1 (by decide), ⟨gl.2.1, by have := gl.2.2.1; omega⟩, ⟨gl.2.2.2.1, by have := gl.2.2.2.2; omega⟩⟩
theorem short_sight (T : TextOk f ss) : ∀ s ∈ ss, ShortSight s := fun s hs => by
  have g := T.sg s hs
  exact ⟨⟨g.1, by have := g.2.1; omega⟩, ⟨g.2.2.1, by have := g.2.2.2.1; omega⟩, Nat.le_trans g.2.2.2.2.1 (by decide), fun c hc => Nat.le_trans (T.cn c (g.2.2.2.2.2 c hc)).2.1 (by decide)⟩
end
theorem join_short {ls : List Str} {n : Nat} (h : LinesOk n ls) : (Txt.join "\n" ls).length ≤ 101 * n := by
  have := join_len (y := "\n") (c := 100) (by decide +kernel) (ws := ls) fun w hw => (h.ok w hw).1
  have := h.few
  omega
theorem read_none : readM (Txt.join "\n" []) = .inl 2 := by
  have e : readM (Txt.join "\n" []) = goM 1 dr0 [Str.empty] := by
    unfold readM
    rw [show Txt.split (Txt.join (Str.ofString "\n") []) (Str.ofString "\n") = [Str.empty] by decide +kernel]
    rfl
  have m : Mute Str.empty := mute_of (by decide +kernel)
  rw [e, goM_done (d' := dr0) (by rw [runM_cons (m dr0)]; rfl)]
  rfl
theorem read_spread {ls found : List Str} {due place : Nat} (hs : (due = 0 ∧ Lacking ls) ∨ BadAt ls due) (hp : (due = 0 ∧ found = ls ∧ place = max 1 ls.length + 1) ∨ (due ≠ 0 ∧ Padded ls due found place)) (ok : LinesOk 321 found) : readM (Txt.join "\n" found) = .inl place := by
  have o : ∀ l ∈ found, 10 ∉ TL.tl l := fun l hl => (ok.ok l hl).2
  rcases hp with ⟨h0, rfl, rfl⟩ | ⟨h0, h1, h2⟩
  · rcases hs with ⟨_, d, hd, hl⟩ | ⟨pre, l, post, d, _, h, _⟩
    · cases e : found with
      | nil => exact read_none
      | cons a b =>
        rw [e] at hd o
        rw [readM_lines (by simp) o, goM_done hd, if_pos hl]
        congr 1
        rw [List.length_cons]
        omega
    · omega
  · rcases hs with ⟨h, _⟩ | ⟨pre, l, post, d, e1, e2, e3, e4⟩
    · exact absurd h h0
    · obtain ⟨f1, f2, p1, p2, p3⟩ := h2 pre l post e1 e2
      rw [p1] at o
      rw [p1, readM_lines (by simp) o, goM_none ((p3 dr0).trans e3) e4]
      congr 1
      omega
theorem read_good {f : Flt} {ss : List Sight} (T : TextOk f ss) {ls : List Str} (hne : ls ≠ []) (o : ∀ l ∈ ls, 10 ∉ TL.tl l) (h : runM dr0 ls = some ⟨f.1, f.2, ss⟩) : readM (Txt.join "\n" ls) = .inr ⟨f.1, f.2, ss⟩ := by
  rw [readM_lines hne o, goM_done h, if_neg (by rw [lacks_full T]; decide)]
theorem joinL_end (S : List Nat) : ∀ {ps : List (List Nat)}, ps ≠ [] → joinL S (ps ++ [[]]) = joinL S ps ++ S
  | [], h => absurd rfl h
  | [p], _ => by show p ++ (S ++ []) = p ++ S; rw [List.append_nil]
  | p :: q :: r, _ => by
    show p ++ (S ++ joinL S ((q :: r) ++ [[]])) = (p ++ (S ++ joinL S (q :: r))) ++ S
    rw [joinL_end S (ps := q :: r) (by simp)]
    simp
theorem join_end {ls : List Str} (hne : ls ≠ []) : Txt.join "\n" ls ++ "\n" = Txt.join "\n" (ls ++ [Str.empty]) := by
  refine ext_tl ?_
  rw [tl_append, join_eq, join_eq, tl_join, tl_join, List.map_append]
  exact (joinL_end _ (by simpa using hne)).symm
theorem good_ne (f : Flt) (ss : List Sight) : linesOf f ss ≠ [] := by unfold linesOf headLines; simp
theorem lines_tail {n : Nat} {ls : List Str} (h : LinesOk n ls) {a b : Str} (ha : LineOk a) (hb : LineOk b) : LinesOk (n + 2) (ls ++ [a, b]) :=
  ⟨by rw [List.length_append]; exact Nat.add_le_add_right h.few 2, of_app h.ok (of_cons ha (of_cons hb of_nil))⟩
theorem bad_tail {ls more : List Str} {due : Nat} (h : BadAt ls due) : BadAt (ls ++ more) due := by
  obtain ⟨pre, l, post, d, e, a, b, c⟩ := h
  exact ⟨pre, l, post ++ more, d, by rw [e]; simp, a, b, c⟩
theorem lines_sum {n : Nat} {ls : List Str} (h : LinesOk n ls) : (ls.map (·.length)).sum + ls.length * (Str.ofString "\n").length ≤ 101 * n := by
  have e : (Str.ofString "\n").length = 1 := by decide +kernel
  have b : ∀ l : List Str, (∀ w ∈ l, w.length ≤ 100) → (l.map (·.length)).sum ≤ 100 * l.length := by
    intro l
    induction l with
    | nil => intro _; exact Nat.le_refl _
    | cons w l ih =>
      intro hw
      have h1 := ih fun v hv => hw v (List.mem_cons_of_mem _ hv)
      have h2 := hw w List.mem_cons_self
      rw [List.map_cons, List.sum_cons, List.length_cons]
      omega
  have := b ls fun w hw => (h.ok w hw).1
  have := h.few
  rw [e]
  omega
theorem one_int (n : Int) : pdM μ (.lst [.int n]) = some (.list [.int n]) := by simp [pdM, pd, pdL]
theorem eqv_one (n : Int) : PyData.eqv (.list [.int n]) (.list [.int n]) = true := by simp [PyData.eqv, PyData.eqvAll]
theorem law_turn {isa : Value → Value → Option Bool} (nb : isa (.type "int") (.type "bool") = some false) {m dg : Addr} {rest : List (Key × D)} {n : Nat} {x0 x2 x3 x6 x7 x8 : Option D} {ls : List Str} {due : Nat} {ν : Mu} {E : DEnds}
    (M : MOk m dg rest n ν) (hn : n < 2^27) (ok : LinesOk 107 ls) (hs : (due = 0 ∧ Lacking ls) ∨ BadAt ls due) (hd : due ≤ ls.length)
    (hnx : ∀ x4 x5 x7 x8 ν', MOk m dg rest (n + 400) ν' → Fr m dg ν ν' → E.nx [x0, some (.obj m), x2, x3, x4, x5, x6, x7, x8] ν') :
    (dSeq (dAsg (dCall P__law_spread (dConsA (dVar 1) (dConsA (dVar 4) (dConsA (dVar 5) dNilA)))) (dgTup [4, 5]))
    (dFor (diRng1 (dConsA (dC (.int 2)) dNilA)) (dgName 7) (dSeq (dAsg (dCall P__law_refused (dConsA (dM1 dJoin (dC (.str "\n")) (dVar 4)) dNilA)) (dgName 8))
    (dIfS (dOrT (dTest (dOp (dEqn true) (dVar 8) (dLst false (dConsA (dVar 5) dNilA)))) (dTru (dCB (dIsi isa) (dConsA (dOp dIx (dVar 8) (dC (.int 0))) (dConsA (dC (.ty "bool")) dNilA))))) (dRet (dC (.bl false))) dNext)))) E [x0, some (.obj m), x2, x3, some (.lst (ls.map .str)), some (.int due), x6, x7, x8] ν := by
  walk_at "dd"
  refine ⟨m, dg, rest, n, ls, due, rfl, M, by omega, ok, hd, fun found place ν1 hp okf M1 F1 => ?_⟩
  have rd := read_spread hs hp okf
  unfold lDueD
  walk_at "dd"
  refine ⟨trivial, by decide, fun i ds ν2 => ν2 = ν1 ∧ ∃ x7 x8, ds = [x0, some (.obj m), x2, x3, some (.lst (found.map .str)), some (.int place), x6, x7, x8], ⟨rfl, _, _, rfl⟩, fun _ _ _ _ _ => trivial, ?_, ?_⟩
  · rintro i d ds ν2 hdi ⟨rfl, x7, x8, rfl⟩
    walk_at "dd"
    refine ⟨⟨_, rfl⟩, found, rfl, Nat.le_trans (lines_sum okf) (by decide), .inr ⟨_, rfl, Nat.le_trans (join_short okf) (by decide), ?_⟩⟩
    rw [rd]
    refine ⟨le_line (by decide), _, _, one_int _, one_int _, shaped_ints [_], shaped_ints [_], ?_⟩
    rw [eqv_one]
    refine iteF ?_
    walk_at "dd"
    refine ⟨_, _, rfl, rfl, _, _, _, false, rfl, .ty _, .inl ⟨_, .int _, nb⟩, ?_⟩
    refine ⟨trivial, ?_⟩
    exact ⟨rfl, _, _, rfl⟩
  · rintro ds ν2 ⟨rfl, x7, x8, rfl⟩
    exact hnx _ _ _ _ _ M1 F1
theorem rd_law {isa : Value → Value → Option Bool} (nb : isa (.type "int") (.type "bool") = some false) : ∀ ds μ Q, P_law ds μ Q → td_law isa { nx := fun _ μ' => GhQ Q .non μ', rt := GhQ Q } (startD N_law ds) μ := by
  rintro ds μ Q ⟨ns, rfl, h63, h⟩
  unfold td_law N_law
  walk_at "dd"
  refine ⟨ns, rfl, h63, fun m dg cs ks μ1 hm hd gc gk M1 F1 => ?_⟩
  refine ⟨m, dg, cs, ks, 10, rfl, M1, by decide, gc.1, gk.1, fun s hs => (gc.2.2.1 s hs).asc, fun s hs => (gk.2.2.1 s hs).asc, fun f μ2 g M2 F2 => ?_⟩
  have T0 : TextOk f [] := text_of gc gk g (fun _ h => nomatch h) (Nat.zero_le _)
  refine ⟨m, dg, cs, ks, _, 310, f, 14, rfl, M2, by decide, g, gk.2.1, fun s hs => (T0.cn s hs).asc, by decide, by decide, fun ss μ3 hl hs M3 F3 => ?_⟩
  have h14 : ss.length ≤ 14 := hl
  have T : TextOk f ss := text_of gc gk g hs (by omega)
  have hz := zzq_of gc g
  refine ⟨f, ss, rfl, short_fleet T, by omega, short_sight T, ?_⟩
  have L2 := (good_few T h14).2
  have okg : LinesOk 107 (linesOf f ss) := ⟨by omega, good_lines T⟩
  refine ⟨m, dg, _, 2310, 10, rfl, M3, by decide, by decide, by decide, fun r μ4 r0 r1 M4 F4 => ?_⟩
  show if decide (r = 0) = true then _ else _
  have done : ∀ ν, SubM μ ν → GhQ Q (.bl true) ν := fun ν s => GhQ.sub s h
  have S4 : SubM μ μ4 := fun a o e => by
    have n1 : a ≠ m := fun z => by rw [z, hm] at e; cases e
    have n2 : a ≠ dg := fun z => by rw [z, hd] at e; cases e
    rw [F4 a n1 n2, F3 a n1 n2, F2 a n1 n2, F1 a n1 n2]; exact e
  by_cases hr : r = 0
  · refine iteTe hr ⟨m, dg, _, 2311, linesOf f ss, 1, rfl, M4, by decide, okg, List.length_pos_iff.mpr (good_ne f ss), fun found place μ5 hp okf M5 F5 => ?_⟩
    have P1 : Padded (linesOf f ss) 1 found place := by
      rcases hp with ⟨z, _⟩ | ⟨_, hp⟩
      · cases z
      · exact hp
    have S5 : SubM μ μ5 := S4.fr hm hd F5
    have fne : found ≠ [] := fun z => by
      have := (P1.1 dr0).trans (run_text T)
      rw [z] at this
      have e : (some dr0 : Option Dr) = some ⟨f.1, f.2, ss⟩ := this
      have := T.c1
      rw [← (Dr.mk.inj (Option.some.inj e)).1] at this
      simp at this
    have rg := read_good T fne (fun l hl => (okf.ok l hl).2) ((P1.1 dr0).trans (run_text T))
    have mE : Mute Str.empty := mute_of (by decide +kernel)
    have rg2 := read_good T (ls := linesOf f ss ++ [Str.empty]) (by simp) (of_app (fun l hl => (okg.ok l hl).2) (of_cons (by decide +kernel) of_nil)) (by
      rw [runM_app (d := dr0) (run_text T), runM_cons (mE _)]; rfl)
    unfold lDueD
    walk_at "dd"
    refine ⟨trivial, ⟨_, rfl⟩, found, rfl, Nat.le_trans (lines_sum okf) (by decide), .inr ⟨_, rfl, Nat.le_trans (join_short okf) (by decide), ?_⟩⟩
    rw [rg]
    refine iteT ⟨⟨_, rfl⟩, linesOf f ss, rfl, Nat.le_trans (lines_sum okg) (by decide), ?_, .inr ⟨_, rfl, ?_, ?_⟩⟩
    · have e : (Str.ofString "\n").length = 1 := by decide +kernel
      have := join_short okg
      rw [e]; exact smallE (by omega)
    · have e : (Str.ofString "\n").length = 1 := by decide +kernel
      have := join_short okg
      rw [Str.length_append, e]; omega
    · rw [join_end (good_ne f ss), rg2]
      exact done μ5 S5
  · refine iteFe hr ⟨by decide, fun i ds ν => ∃ x4 x5 x6 x7 x8, ds = [some (.scr (ns.map .int)), some (.obj m), some (fleetD f), some (.lst ((linesOf f ss).map .str)), x4, x5, x6, x7, x8] ∧ MOk m dg (restD cs ks) (2311 + 500 * i) ν ∧ SubM μ ν, ⟨_, _, _, _, _, rfl, M4, S4⟩, fun _ _ _ _ _ => trivial, ?_, ?_⟩
    · rintro i d ds ν hdi ⟨x4, x5, x6, x7, x8, rfl, Mν, Sν⟩
      have hi : i < 3 := (rngD_get hdi).1
      walk_at "dd"
      refine ⟨m, dg, _, _, f, ss, rfl, Mν, by omega, T, hz, h14, fun ls due ν1 hsp Mν1 Fν1 => ?_⟩
      have Sν1 := Sν.fr hm hd Fν1
      have ok1 := hsp.1
      have hdl : due ≤ ls.length := by
        rcases hsp.2 with ⟨z, _⟩ | ⟨pre, l, post, d, e, e2, _⟩
        · omega
        · rw [e, List.length_append, List.length_cons]; omega
      unfold lDueD
      walk_at "dd"
      refine ⟨trivial, ?_⟩
      by_cases hdue : (0 : Int) < due
      · refine iteTe hdue ⟨m, dg, _, _, 2, rfl, Mν1, by omega, by decide, by decide, fun r2 ν2 r20 r21 Mν2 Fν2 => ?_⟩
        have Sν2 := Sν1.fr hm hd Fν2
        show if decide (r2 = 1) = true then _ else _
        by_cases hr2 : r2 = 1
        · refine iteTe hr2 ⟨le_line (by decide), le_line (by decide), le_line (by decide), m, dg, _, _, 2, rfl, Mν2, by omega, by decide, by decide, fun r3 ν3 r30 r31 Mν3 Fν3 => ?_⟩
          have Sν3 := Sν2.fr hm hd Fν3
          obtain ⟨a, b, hat, ha, hb⟩ : ∃ a b, atI [D.lst [D.str (Str.ofString "no line"), D.str (Str.ofString "?")], D.lst [D.str (Str.ofString "colours # \t"), D.str (Str.ofString "5")]] r3 = some (.lst [.str a, .str b]) ∧ LineOk a ∧ LineOk b := by
            obtain rfl | rfl : r3 = 0 ∨ r3 = 1 := by omega
            · exact ⟨_, _, atI_some (by decide) rfl, line_fix (by decide +kernel), line_fix (by decide +kernel)⟩
            · exact ⟨_, _, atI_some (by decide) rfl, line_fix (by decide +kernel), line_fix (by decide +kernel)⟩
          refine ⟨_, _, rfl, hat, _, _, rfl, rfl, ?_, ?_⟩
          · have := ok1.few
            rw [List.length_map]; show _ + 2 ≤ _; exact smallE (by omega)
          · have e : ls.map D.str ++ [D.str a, D.str b] = (ls ++ [a, b]).map D.str := by rw [List.map_append]; rfl
            rw [e]
            refine law_turn nb Mν3 (by omega) (lines_tail ok1 ha hb) (.inr (bad_tail ?_)) (by rw [List.length_append]; omega) fun x4 x5 x7 x8 ν' M' F' => ⟨_, _, _, _, _, rfl, M'.mono (by omega), Sν3.fr hm hd F'⟩
            rcases hsp.2 with ⟨z, _⟩ | z
            · omega
            · exact z
        · refine iteFe hr2 ?_
          exact law_turn nb Mν2 (by omega) ⟨Nat.le_trans ok1.few (by decide), ok1.ok⟩ hsp.2 hdl fun x4 x5 x7 x8 ν' M' F' => ⟨_, _, _, _, _, rfl, M'.mono (by omega), Sν2.fr hm hd F'⟩
      · refine iteFe hdue ?_
        exact law_turn nb Mν1 (by omega) ⟨Nat.le_trans ok1.few (by decide), ok1.ok⟩ hsp.2 hdl fun x4 x5 x7 x8 ν' M' F' => ⟨_, _, _, _, _, rfl, M'.mono (by omega), Sν1.fr hm hd F'⟩
    · rintro ds ν ⟨x4, x5, x6, x7, x8, rfl, Mν, Sν⟩
      walk_at "dd"
      refine ⟨le_line (by decide), le_line (by decide), fun p hp => ⟨le_line (by decide), ?_⟩⟩
      have pm := Mν.neM hp
      have pd := Mν.neD hp
      refine ⟨m, dg, _, _, 6, rfl, Mν.putO pm pd, by decide, by decide, by decide, fun y μ5 y0 y1 M5 F5 => ?_⟩
      have hp5 : μ5 p = some (.dK []) := (F5 p pm pd).trans put_same
      have S5 : SubM μ μ5 := (Sν.trans (SubM.new hp)).fr hm hd F5
      obtain ⟨x, t, hat, hty, ht⟩ : ∃ x t, atI [D.non, D.int 5, D.lst [D.str (Str.ofString "colours a")], D.bl true, D.tup [D.str (Str.ofString "colours a")], D.obj p] y = some x ∧ TyD μ5 x (.type t) ∧ t ∈ ["NoneType", "int", "list", "bool", "tuple", "dict"] := by
        obtain rfl | rfl | rfl | rfl | rfl | rfl : y = 0 ∨ y = 1 ∨ y = 2 ∨ y = 3 ∨ y = 4 ∨ y = 5 := by omega
        · exact ⟨_, _, atI_some (by decide) rfl, .non, by simp⟩
        · exact ⟨_, _, atI_some (by decide) rfl, .int _, by simp⟩
        · exact ⟨_, _, atI_some (by decide) rfl, .lst _, by simp⟩
        · exact ⟨_, _, atI_some (by decide) rfl, .bl _, by simp⟩
        · exact ⟨_, _, atI_some (by decide) rfl, .tup _, by simp⟩
        · exact ⟨_, _, atI_some (by decide) rfl, .objD hp5, by simp⟩
      refine ⟨_, _, rfl, hat, .inl ⟨x, t, rfl, hty, ht, le_line (by decide), _, _, one_int 0, one_int 0, shaped_ints [0], shaped_ints [0], ?_⟩⟩
      rw [eqv_one]
      exact done μ5 S5
end DL
set_option Elab.async false
set_option linter.all false
set_option maxRecDepth 100000
set_option maxHeartbeats 4000001
namespace DL
open PySem L2
/-! ### what the top has written, by the heap alone -/
structure FnF (K : PySem.W.Frag) (x qual : Str) (st : Stmt) : Prop where
  ex : ∃ (f : Addr) (oc : Value) (od : Option Addr) (kV doc pm : Value) (an : Option Addr) (cdv ct : Value) (osl : Array (Option Value)), PySem.W.nsIn K mainGlobals x = some (some (.ref f)) ∧
    K.lookup f = some ⟨oc, od, .func (PySem.W.fnOf x qual (defArgs st) (defBody st) (defScope st) .none kV doc pm an cdv ct), osl⟩ ∧ PySem.W.codeIn K cdv qual = true ∧ PySem.W.keepIn K (.ref f) = true
structure MtF (K : PySem.W.Frag) (C : Addr) (x qual : Str) (st : Stmt) : Prop where
  ex : ∃ (f : Addr) (oc : Value) (od : Option Addr) (kV doc pm : Value) (an : Option Addr) (cdv ct : Value) (osl : Array (Option Value)), PySem.W.findIn K (.ref C) x = some (some (.ref f)) ∧ PySem.W.isFn K (.ref f) = true ∧
    K.lookup f = some ⟨oc, od, .func (PySem.W.fnOf x qual (defArgs st) (defBody st) (defScope st) .none kV doc pm an cdv ct), osl⟩ ∧ PySem.W.codeIn K cdv qual = true ∧ PySem.W.keepIn K (.ref f) = true
section
variable {K : PySem.W.Frag} {mg : Str → Option Value} {h : Heap} {x qual : Str} {st : Stmt} {C : Addr} {ps : List Str}
abbrev BindOk (x qual : Str) (st : Stmt) (ps : List Str) : Prop := ∀ (kV doc pm : Value) (an : Option Addr) (cdv ct : Value) (us : List Value), us.length = ps.length → bindArgs (PySem.W.fnOf x qual (defArgs st) (defBody st) (defScope st) .none kV doc pm an cdv ct) ⟨us, []⟩ = pure (ps.zip us)
theorem FnF.here (F : FnF K x qual st) (X : K.In h) (G : h.Ns mainGlobals mg) (hb : BindOk x qual st ps) : Here K mg x qual st ps := by
  obtain ⟨f, oc, od, kV, doc, pm, an, cdv, ct, osl, a, l, c, k⟩ := F.ex
  have Fu := fun_mk l c k
  exact ⟨f, _, PySem.W.mg_of X G a, Fu, Fu.binds hb⟩
theorem MtF.here (F : MtF K C x qual st) (hb : BindOk x qual st ps) : HereM K C x qual st ps := by
  obtain ⟨f, oc, od, kV, doc, pm, an, cdv, ct, osl, a, i, l, c, k⟩ := F.ex
  have Fu := fun_mk l c k
  exact ⟨f, _, ⟨a, i, k⟩, Fu, Fu.binds hb⟩
theorem MtF.hereI {y : Str} (F : MtF K C "__init__" qual st) (X : K.In h) (G : h.Ns mainGlobals mg) (n : PySem.W.nsIn K mainGlobals y = some (some (.ref C))) (mk : PySem.W.makesIn K C = true) (kc : PySem.W.keepIn K (.ref C) = true) (hb : BindOk "__init__" qual st ps) : HereI K mg y C qual st ps := by
  obtain ⟨f, oc, od, kV, doc, pm, an, cdv, ct, osl, a, i, l, c, k⟩ := F.ex
  have Fu := fun_mk l c k
  exact ⟨PySem.W.mg_of X G n, f, _, ⟨mk, a, i, kc⟩, Fu, Fu.binds hb⟩
end
theorem bind1 {a : Str} {R : List Value → List (Str × Value) → Prop} (h : ∀ x, R [x] [(a, x)]) : ∀ us : List Value, us.length = ([a] : List Str).length → R us (([a] : List Str).zip us)
  | [x], _ => h x
section
variable {K : PySem.W.Frag} {x qual : Str} {st : Stmt} {C f : Addr} {oc : Value} {od : Option Addr} {kV doc pm : Value} {an : Option Addr} {cdv ct : Value} {osl : Array (Option Value)}
theorem fnF (a : PySem.W.nsIn K mainGlobals x = some (some (.ref f))) (l : K.lookup f = some ⟨oc, od, .func (PySem.W.fnOf x qual (defArgs st) (defBody st) (defScope st) .none kV doc pm an cdv ct), osl⟩) (c : PySem.W.codeIn K cdv qual = true) (k : PySem.W.keepIn K (.ref f) = true) : FnF K x qual st := ⟨⟨_, _, _, _, _, _, _, _, _, _, a, l, c, k⟩⟩
theorem mtF (a : PySem.W.findIn K (.ref C) x = some (some (.ref f))) (i : PySem.W.isFn K (.ref f) = true) (l : K.lookup f = some ⟨oc, od, .func (PySem.W.fnOf x qual (defArgs st) (defBody st) (defScope st) .none kV doc pm an cdv ct), osl⟩) (c : PySem.W.codeIn K cdv qual = true) (k : PySem.W.keepIn K (.ref f) = true) : MtF K C x qual st := ⟨⟨_, _, _, _, _, _, _, _, _, _, a, i, l, c, k⟩⟩
theorem intF {i : Int} {t : Tok} (a : PySem.W.nsIn K mainGlobals x = some (some (.int i t))) : ∃ t, PySem.W.nsIn K mainGlobals x = some (some (.int i t)) := ⟨t, a⟩
theorem strF {i : Str} {t : Tok} (a : PySem.W.nsIn K mainGlobals x = some (some (.str i t))) : ∃ t, PySem.W.nsIn K mainGlobals x = some (some (.str i t)) := ⟨t, a⟩
theorem tupF {a : Addr} {od : Option Addr} {its : Array Value} {n : Nat} {sl : Array (Option Value)} {ts : List Str} (h : PySem.W.nsIn K mainGlobals x = some (some (.ref a))) (l : K.lookup a = some ⟨.type "tuple", od, .seq its n, sl⟩) (hs : its.size ≤ sizeLine) (hv : Vals (ts.map V.str) its.toList) : PySem.W.nsIn K mainGlobals x = some (some (.ref a)) ∧ ∀ G, Rp K G (.tup (ts.map .str)) (.ref a) :=
  ⟨h, fun G => ⟨a, ts.map V.str, rfl, .inr ⟨_, its, n, l, rfl, rfl, hs, hv⟩, rpl_strs ts⟩⟩
theorem excF {B : Addr} {nm q : Str} {N : Addr} {bs bm : List Value} {sn : List Str} {sub : List Value} {ab : Bool} {col : Option Bool} {dd : Option Addr} {k0 k1 k2 k3 k5 : Option Value} (l : K.lookup B = some (PySem.excClassObj nm q B N bs bm true sn sub ab col dd k0 k1 k2 k3 k5 "ValueError.__new__")) (r : PySem.HandSPX.refsVE bm = true) :
    ∃ nm q N bs bm sn sub ab col dd k0 k1 k2 k3 k5, K.lookup B = some (PySem.excClassObj nm q B N bs bm true sn sub ab col dd k0 k1 k2 k3 k5 "ValueError.__new__") ∧ PySem.HandSPX.refsVE bm = true := ⟨_, _, _, _, _, _, _, _, _, _, _, _, _, _, _, l, r⟩
end
/-- what an error of this class is -/
def isaK (K : PySem.W.Frag) (B : Addr) (t u : Value) : Option Bool := match t with
  | .ref C => if C = B then PySem.W.kitOne K t u else none
  | t => PySem.W.kitOne K t u
theorem isaK_ok {K : PySem.W.Frag} {B : Addr} (e : ExcC K B) : IsaOk K (isaK K B) where
  kit := fun t u b h => by
    unfold isaK at h
    split at h
    · split at h
      · exact h
      · cases h
    · exact h
  exc := fun C u b h => by
    have h' : (if C = B then PySem.W.kitOne K (.ref C) u else none) = some b := h
    split at h'
    · rename_i z; rw [z]; exact e
    · cases h'
theorem isaK_self {K : PySem.W.Frag} {B : Addr} {u : Value} : isaK K B (.ref B) u = PySem.W.kitOne K (.ref B) u := if_pos rfl

open BTX PySem.W PySem.Calls PyProof.Rows PySem.HandSPX in
structure K10F (prog : Program) (K : PySem.W.Frag) (c : Cl) (Draft a_ROW_WORDS fI : Addr) : Prop where
  f_is_name : FnF K "is_name" "is_name" (topS 20)
  f_number_of : FnF K "number_of" "number_of" (topS 21)
  f_colours_of : FnF K "colours_of" "colours_of" (topS 22)
  f_kind_of : FnF K "kind_of" "kind_of" (topS 23)
  f_lamp_of : FnF K "lamp_of" "lamp_of" (topS 24)
  f_sight_of : FnF K "sight_of" "sight_of" (topS 25)
  f_words_of : FnF K "words_of" "words_of" (topS 31)
  f__law_mixed : FnF K "_law_mixed" "_law_mixed" (topS 34)
  f__law_folded : FnF K "_law_folded" "_law_folded" (topS 35)
  f__law_draw : FnF K "_law_draw" "_law_draw" (topS 36)
  f__law_names : FnF K "_law_names" "_law_names" (topS 37)
  f__law_lamp : FnF K "_law_lamp" "_law_lamp" (topS 38)
  f__law_lamps : FnF K "_law_lamps" "_law_lamps" (topS 39)
  f__law_fleet : FnF K "_law_fleet" "_law_fleet" (topS 40)
  f__law_column : FnF K "_law_column" "_law_column" (topS 41)
  f__law_sights : FnF K "_law_sights" "_law_sights" (topS 42)
  f__law_begun : FnF K "_law_begun" "_law_begun" (topS 43)
  f__law_row : FnF K "_law_row" "_law_row" (topS 44)
  f__law_sight_row : FnF K "_law_sight_row" "_law_sight_row" (topS 45)
  f__law_lines : FnF K "_law_lines" "_law_lines" (topS 46)
  f__law_odd_first : FnF K "_law_odd_first" "_law_odd_first" (topS 48)
  f__law_odd_kind : FnF K "_law_odd_kind" "_law_odd_kind" (topS 49)
  f__law_odd_lamp : FnF K "_law_odd_lamp" "_law_odd_lamp" (topS 50)
  f__law_odd_sight : FnF K "_law_odd_sight" "_law_odd_sight" (topS 51)
  f__law_many : FnF K "_law_many" "_law_many" (topS 52)
  f__law_spoilt : FnF K "_law_spoilt" "_law_spoilt" (topS 53)
  f__law_spread : FnF K "_law_spread" "_law_spread" (topS 54)
  f_law : FnF K "law" "law" (topS 55)
  f_read : FnF K "read" "read" (topS 32)
  f__law_refused : FnF K "_law_refused" "_law_refused" (topS 47)
  m_Draft___init__ : MtF K Draft "__init__" "Draft.__init__" (inClass (topS 30) 0)
  m_Draft_lacks : MtF K Draft "lacks" "Draft.lacks" (inClass (topS 30) 2)
  m_Draft__may_begin_kind : MtF K Draft "_may_begin_kind" "Draft._may_begin_kind" (inClass (topS 30) 6)
  m_Draft__take_colours : MtF K Draft "_take_colours" "Draft._take_colours" (inClass (topS 30) 4)
  m_Draft__take_kind : MtF K Draft "_take_kind" "Draft._take_kind" (inClass (topS 30) 5)
  m_Draft__take_lamp : MtF K Draft "_take_lamp" "Draft._take_lamp" (inClass (topS 30) 7)
  m_Draft__take_sight : MtF K Draft "_take_sight" "Draft._take_sight" (inClass (topS 30) 8)
  m_Draft_take : MtF K Draft "take" "Draft.take" (inClass (topS 30) 1)
  m_Draft_told : MtF K Draft "told" "Draft.told" (inClass (topS 30) 3)
  c_LAST_MOMENT : ∃ t, PySem.W.nsIn K mainGlobals "LAST_MOMENT" = some (some (.int 99 t))
  c_LAST_POINT : ∃ t, PySem.W.nsIn K mainGlobals "LAST_POINT" = some (some (.int 31 t))
  c_LETTERS : ∃ t, PySem.W.nsIn K mainGlobals "LETTERS" = some (some (.str "abcdefghijklmnopqrstuvwxyz" t))
  c_LONGEST_COLUMN : ∃ t, PySem.W.nsIn K mainGlobals "LONGEST_COLUMN" = some (some (.int 6 t))
  c_LONGEST_NAME : ∃ t, PySem.W.nsIn K mainGlobals "LONGEST_NAME" = some (some (.int 6 t))
  c_MOST_COLOURS : ∃ t, PySem.W.nsIn K mainGlobals "MOST_COLOURS" = some (some (.int 6 t))
  c_MOST_KINDS : ∃ t, PySem.W.nsIn K mainGlobals "MOST_KINDS" = some (some (.int 6 t))
  c_MOST_LAMPS : ∃ t, PySem.W.nsIn K mainGlobals "MOST_LAMPS" = some (some (.int 6 t))
  c_MOST_SIGHTS : ∃ t, PySem.W.nsIn K mainGlobals "MOST_SIGHTS" = some (some (.int 60 t))
  c_MOST_TURN : ∃ t, PySem.W.nsIn K mainGlobals "MOST_TURN" = some (some (.int 16 t))
  c_ROW_WORDS : PySem.W.nsIn K mainGlobals "ROW_WORDS" = some (some (.ref a_ROW_WORDS)) ∧ ∀ G, Rp K G c_ROW_WORDS (.ref a_ROW_WORDS)
  z_all : PySem.W.nsIn K mainGlobals "all" = some none
  z_bool : PySem.W.nsIn K mainGlobals "bool" = some none
  z_enumerate : PySem.W.nsIn K mainGlobals "enumerate" = some none
  z_int : PySem.W.nsIn K mainGlobals "int" = some none
  z_isinstance : PySem.W.nsIn K mainGlobals "isinstance" = some none
  z_len : PySem.W.nsIn K mainGlobals "len" = some none
  z_list : PySem.W.nsIn K mainGlobals "list" = some none
  z_max : PySem.W.nsIn K mainGlobals "max" = some none
  z_range : PySem.W.nsIn K mainGlobals "range" = some none
  z_set : PySem.W.nsIn K mainGlobals "set" = some none
  z_str : PySem.W.nsIn K mainGlobals "str" = some none
  z_sum : PySem.W.nsIn K mainGlobals "sum" = some none
  z_tuple : PySem.W.nsIn K mainGlobals "tuple" = some none
  pg_Draft : PySem.W.plainGet K Draft Str.empty = true
  hd_Draft : PySem.W.hasDictIn K Draft = true
  po_Draft : PySem.W.plainOver K Draft = true
  sa_Draft : PySem.W.findIn K (.ref Draft) "__setattr__" = some (some (.builtin "object.__setattr__"))
  mk_Draft : PySem.W.makesIn K Draft = true
  kc_Draft : PySem.W.keepIn K (.ref Draft) = true
  at_Draft : PySem.W.nsIn K mainGlobals "Draft" = some (some (.ref Draft))
  n_Draft__colours : NoAttr K Draft "_colours"
  n_Draft__kinds : NoAttr K Draft "_kinds"
  n_Draft__sights : NoAttr K Draft "_sights"
  at_LightError : PySem.W.nsIn K mainGlobals "LightError" = some (some (.ref c.LightError))
  at_BadText : PySem.W.nsIn K mainGlobals "BadText" = some (some (.ref c.BadText))
  at_BadBoats : PySem.W.nsIn K mainGlobals "BadBoats" = some (some (.ref c.BadBoats))
  at_BadMany : PySem.W.nsIn K mainGlobals "BadMany" = some (some (.ref c.BadMany))
  at_BadMoment : PySem.W.nsIn K mainGlobals "BadMoment" = some (some (.ref c.BadMoment))
  at_BadPoint : PySem.W.nsIn K mainGlobals "BadPoint" = some (some (.ref c.BadPoint))
  at_BadSight : PySem.W.nsIn K mainGlobals "BadSight" = some (some (.ref c.BadSight))
  at_Full : PySem.W.nsIn K mainGlobals "Full" = some (some (.ref c.Full))
  at_NoFoe : PySem.W.nsIn K mainGlobals "NoFoe" = some (some (.ref c.NoFoe))
  at_NoKind : PySem.W.nsIn K mainGlobals "NoKind" = some (some (.ref c.NoKind))
  z_ValueError : PySem.W.nsIn K mainGlobals "ValueError" = some none
  z_super : PySem.W.nsIn K mainGlobals "super" = some none
  e_cls : ∃ nm q N bs bm sn sub ab col dd k0 k1 k2 k3 k5, K.lookup c.BadText = some (PySem.excClassObj nm q c.BadText N bs bm true sn sub ab col dd k0 k1 k2 k3 k5 "ValueError.__new__") ∧ refsVE bm = true
  e_sets : PySem.W.findIn K (.ref c.BadText) "__setattr__" = some (some (.builtin "object.__setattr__"))
  e_gets : PySem.W.findIn K (.ref c.BadText) "__getattribute__" = some (some (.builtin "BaseException.__getattribute__"))
  e_noGet : PySem.W.findIn K (.ref c.BadText) "__getattr__" = some none
  e_noLine : PySem.W.findIn K (.ref c.BadText) "line" = some none
  e_ini : PySem.W.findIn K (.ref c.BadText) "__init__" = some (some (.ref fI))
  e_iniTy : PySem.W.typeIn K (.ref fI) = some (.type "function")
  e_keep : PySem.W.keepIn K (.ref c.BadText) = true
  e_exc : PySem.W.subIn K (.ref c.BadText) (.type "BaseException") = some true
  e_ty : PySem.W.typeIn K (.ref c.BadText) = some (.type "type")
  e_dict : PySem.W.hasDictIn K c.BadText = true
  e_up : ks_superIn K c.BadText c.BadText "__init__" = some (some (.builtin "ValueError.__init__"))
  e_noAny : PySem.W.nsIn K cStatics "thirdparty.any" = some none
  e_val : PySem.W.subIn K (.ref c.BadText) (.type "ValueError") = some true
  e_self : PySem.W.mroIn K c.BadText (.ref c.BadText) = some true
  e_clsA : PySem.W.findIn K (.ref c.BadText) "__class__" = some (some (.builtin "object.__class__"))
  e_obj : PySem.W.mroIn K c.BadText (.type "object") = some true
  e_spec : PySem.W.specialIn K (.builtin "object.__class__") "__get__" = some (some (.builtin "getset_descriptor.__get__"))
  e_takes : PySem.W.takesIn K (.builtin "object.__class__") = some true
  e_catch : PySem.W.exmOne K (.ref c.BadText) (.ref c.LightError) = some true
  e_kself : PySem.W.kitOne K (.ref c.BadText) (.ref c.BadText) = some true
  e_kval : PySem.W.kitOne K (.ref c.BadText) (.type "ValueError") = some true
  e_kBadBoats : PySem.W.kitOne K (.ref c.BadText) (.ref c.BadBoats) = some false
  e_kBadMany : PySem.W.kitOne K (.ref c.BadText) (.ref c.BadMany) = some false
  e_kBadMoment : PySem.W.kitOne K (.ref c.BadText) (.ref c.BadMoment) = some false
  e_kBadPoint : PySem.W.kitOne K (.ref c.BadText) (.ref c.BadPoint) = some false
  e_kBadSight : PySem.W.kitOne K (.ref c.BadText) (.ref c.BadSight) = some false
  e_kFull : PySem.W.kitOne K (.ref c.BadText) (.ref c.Full) = some false
  e_kNoFoe : PySem.W.kitOne K (.ref c.BadText) (.ref c.NoFoe) = some false
  e_kNoKind : PySem.W.kitOne K (.ref c.BadText) (.ref c.NoKind) = some false
  k_yes : PySem.W.kitOne K (.type "str") (.type "str") = some true
  k_NoneType : PySem.W.kitOne K (.type "NoneType") (.type "str") = some false
  k_int : PySem.W.kitOne K (.type "int") (.type "str") = some false
  k_list : PySem.W.kitOne K (.type "list") (.type "str") = some false
  k_bool : PySem.W.kitOne K (.type "bool") (.type "str") = some false
  k_tuple : PySem.W.kitOne K (.type "tuple") (.type "str") = some false
  k_dict : PySem.W.kitOne K (.type "dict") (.type "str") = some false
  k_nb : PySem.W.kitOne K (.type "int") (.type "bool") = some false
  e_top : (prog.main.scope.names.lookup ("super" : Str)).isSome = false
  e_fn : ∃ (oc : Value) (od : Option Addr) (dT : Addr) (doc pm : Value) (an : Option Addr) (cda cc : Addr) (ct : Value) (osl : Array (Option Value)) (msg : Str) (j j' : Nat) (p1 p2 p3 a1 a2 a3 a4 a5 b1 b2 b3 b4 c1 c2 c3 c4 : Pos),
    K.lookup fI = some ⟨oc, od, .func (ksFn "__init__" "BadText.__init__" (bArgs p1 p2 p3 j') (bBody msg j a1 a2 a3 a4 a5 b1 b2 b3 b4 c1 c2 c3 c4) bScope (.ref dT) .none doc pm an (.ref cda) ct cc), osl⟩ ∧ codeIn K (.ref cda) "BadText.__init__" = true ∧
    (∃ (o2 : Value) (d2 : Option Addr) (vs : Array Value) (s2 : Array (Option Value)) (file : Str) (tf : Tok), K.lookup cda = some ⟨o2, d2, .fields vs, s2⟩ ∧ vs[2]? = some (.str file tf) ∧ ((prog.main.file : Str) == file) = true) ∧
    (∃ (o3 : Value) (d3 : Option Addr) (s3 : Array (Option Value)), K.lookup cc = some ⟨o3, d3, .cell (some (.ref c.BadText)), s3⟩) ∧ msg.length ≤ 200 ∧ (a3.endLine == a4.line) = true ∧ ∃ (oT : Obj) (d0 : Value) (m : Nat), K.lookup dT = some oT ∧ oT.data = .seq #[d0] m

open BTX PySem.W PySem.Calls PyProof.Rows PySem.HandSPX in
theorem iniF {prog : Program} {K : PySem.W.Frag} {fI B : Addr} {oc : Value} {od : Option Addr} {dT : Addr} {doc pm : Value} {an : Option Addr} {cda cc : Addr} {ct : Value} {osl : Array (Option Value)} {msg : Str} {j j2 : Nat} {p1 p2 p3 a1 a2 a3 a4 a5 b1 b2 b3 b4 c1 c2 c3 c4 : Pos} {o2 : Value} {d2 : Option Addr} {vs : Array Value} {s2 : Array (Option Value)} {file : Str} {tf : Tok} {o3 : Value} {d3 : Option Addr} {s3 : Array (Option Value)} {oT : Obj} {d0 : Value} {mm : Nat}
    (l : K.lookup fI = some ⟨oc, od, .func (ksFn "__init__" "BadText.__init__" (bArgs p1 p2 p3 j2) (bBody msg j a1 a2 a3 a4 a5 b1 b2 b3 b4 c1 c2 c3 c4) bScope (.ref dT) .none doc pm an (.ref cda) ct cc), osl⟩) (c : codeIn K (.ref cda) "BadText.__init__" = true)
    (l2 : K.lookup cda = some ⟨o2, d2, .fields vs, s2⟩) (v2 : vs[2]? = some (.str file tf)) (f2 : ((prog.main.file : Str) == file) = true) (l3 : K.lookup cc = some ⟨o3, d3, .cell (some (.ref B)), s3⟩) (m : msg.length ≤ 200) (e : (a3.endLine == a4.line) = true) (l4 : K.lookup dT = some oT) (d4 : oT.data = .seq #[d0] mm) :
    ∃ (oc : Value) (od : Option Addr) (dT : Addr) (doc pm : Value) (an : Option Addr) (cda cc : Addr) (ct : Value) (osl : Array (Option Value)) (msg : Str) (j j' : Nat) (p1 p2 p3 a1 a2 a3 a4 a5 b1 b2 b3 b4 c1 c2 c3 c4 : Pos),
    K.lookup fI = some ⟨oc, od, .func (ksFn "__init__" "BadText.__init__" (bArgs p1 p2 p3 j') (bBody msg j a1 a2 a3 a4 a5 b1 b2 b3 b4 c1 c2 c3 c4) bScope (.ref dT) .none doc pm an (.ref cda) ct cc), osl⟩ ∧ codeIn K (.ref cda) "BadText.__init__" = true ∧
    (∃ (o2 : Value) (d2 : Option Addr) (vs : Array Value) (s2 : Array (Option Value)) (file : Str) (tf : Tok), K.lookup cda = some ⟨o2, d2, .fields vs, s2⟩ ∧ vs[2]? = some (.str file tf) ∧ ((prog.main.file : Str) == file) = true) ∧
    (∃ (o3 : Value) (d3 : Option Addr) (s3 : Array (Option Value)), K.lookup cc = some ⟨o3, d3, .cell (some (.ref B)), s3⟩) ∧ msg.length ≤ 200 ∧ (a3.endLine == a4.line) = true ∧ ∃ (oT : Obj) (d0 : Value) (m : Nat), K.lookup dT = some oT ∧ oT.data = .seq #[d0] m :=
  ⟨_, _, _, _, _, _, _, _, _, _, _, _, _, _, _, _, _, _, _, _, _, _, _, _, _, _, _, _, _, l, c, ⟨_, _, _, _, _, _, l2, v2, f2⟩, ⟨_, _, _, l3⟩, m, e, ⟨_, _, _, l4, d4⟩⟩

theorem k10_tx {prog : Program} {K : PySem.W.Frag} {c : Cl} {Draft a_ROW_WORDS fI : Addr} {h : Heap} {mg : Str → Option Value} (X : K.In h) (G : h.Ns mainGlobals mg) (F : K10F prog K c Draft a_ROW_WORDS fI) : Tx K mg a_ROW_WORDS Draft where
  c_LAST_MOMENT := F.c_LAST_MOMENT.elim fun t h => ⟨t, PySem.W.mg_of X G h⟩
  c_LAST_POINT := F.c_LAST_POINT.elim fun t h => ⟨t, PySem.W.mg_of X G h⟩
  c_LETTERS := F.c_LETTERS.elim fun t h => ⟨t, PySem.W.mg_of X G h⟩
  c_LONGEST_COLUMN := F.c_LONGEST_COLUMN.elim fun t h => ⟨t, PySem.W.mg_of X G h⟩
  c_LONGEST_NAME := F.c_LONGEST_NAME.elim fun t h => ⟨t, PySem.W.mg_of X G h⟩
  c_MOST_COLOURS := F.c_MOST_COLOURS.elim fun t h => ⟨t, PySem.W.mg_of X G h⟩
  c_MOST_KINDS := F.c_MOST_KINDS.elim fun t h => ⟨t, PySem.W.mg_of X G h⟩
  c_MOST_LAMPS := F.c_MOST_LAMPS.elim fun t h => ⟨t, PySem.W.mg_of X G h⟩
  c_MOST_SIGHTS := F.c_MOST_SIGHTS.elim fun t h => ⟨t, PySem.W.mg_of X G h⟩
  c_MOST_TURN := F.c_MOST_TURN.elim fun t h => ⟨t, PySem.W.mg_of X G h⟩
  c_ROW_WORDS := ⟨PySem.W.mg_of X G F.c_ROW_WORDS.1, F.c_ROW_WORDS.2⟩
  b_all := PySem.W.mg_none_of X G F.z_all
  b_bool := PySem.W.mg_none_of X G F.z_bool
  b_enumerate := PySem.W.mg_none_of X G F.z_enumerate
  b_int := PySem.W.mg_none_of X G F.z_int
  b_isinstance := PySem.W.mg_none_of X G F.z_isinstance
  b_len := PySem.W.mg_none_of X G F.z_len
  b_list := PySem.W.mg_none_of X G F.z_list
  b_max := PySem.W.mg_none_of X G F.z_max
  b_range := PySem.W.mg_none_of X G F.z_range
  b_set := PySem.W.mg_none_of X G F.z_set
  b_str := PySem.W.mg_none_of X G F.z_str
  b_sum := PySem.W.mg_none_of X G F.z_sum
  b_tuple := PySem.W.mg_none_of X G F.z_tuple
  cl_Draft := ⟨F.pg_Draft, F.hd_Draft, F.po_Draft, F.sa_Draft⟩
  n_Draft__colours := F.n_Draft__colours
  n_Draft__kinds := F.n_Draft__kinds
  n_Draft__sights := F.n_Draft__sights
theorem k10_law {P : Program} {w : World} {K : PySem.W.Frag} {c : Cl} {Draft a_ROW_WORDS fI : Addr} {h : Heap} {mg : Str → Option Value} {fa : Addr} (X : K.In h) (G : h.Ns mainGlobals mg) (hfa : mg "law" = some (.ref fa)) (F : K10F P K c Draft a_ROW_WORDS fI) :
    ∃ fd : FuncData, (∀ (s : Shared) (u : Value), BindsTo s fd ⟨[u], []⟩ [("_law_script", u)]) ∧ ∀ base : Heap, K.In base → base.Ns mainGlobals mg → FnOk P w K mg base CX0 10 fa fd ["_law_script"] (spD K P_law) := by
  have T := k10_tx X G F
  have B : BTX.BadTxt P K mg "BadText" c.BadText fI := ⟨PySem.W.mg_of X G F.at_BadText, PySem.W.mg_none_of X G F.z_super, F.e_cls, F.e_sets, F.e_gets, F.e_noGet, F.e_noLine, F.e_ini, F.e_iniTy, F.e_keep, F.e_exc, F.e_ty, F.e_dict, F.e_up, F.e_noAny, F.e_val, F.e_self, F.e_top, by rw [show (Str.ofString "BadText" ++ Str.ofString ".__init__") = Str.ofString "BadText.__init__" by decide +kernel]; exact F.e_fn⟩
  have iok : IsaOk K (isaK K c.BadText) := isaK_ok ⟨F.e_gets, F.e_noGet, F.e_exc, F.e_dict, F.e_clsA, F.e_spec, F.e_takes, F.e_obj⟩
  have si : StrIsa (isaK K c.BadText) := ⟨F.k_yes, fun n hn => by
    simp only [List.mem_cons, List.not_mem_nil, or_false] at hn
    rcases hn with rfl | rfl | rfl | rfl | rfl | rfl
    · exact F.k_NoneType
    · exact F.k_int
    · exact F.k_list
    · exact F.k_bool
    · exact F.k_tuple
    · exact F.k_dict⟩
  have CA : ClAt K mg c := ⟨PySem.W.mg_of X G F.at_LightError, PySem.W.mg_of X G F.at_BadText, PySem.W.mg_of X G F.at_BadBoats, PySem.W.mg_of X G F.at_BadMany, PySem.W.mg_of X G F.at_BadMoment, PySem.W.mg_of X G F.at_BadPoint, PySem.W.mg_of X G F.at_BadSight, PySem.W.mg_of X G F.at_Full, PySem.W.mg_of X G F.at_NoFoe, PySem.W.mg_of X G F.at_NoKind, PySem.W.mg_none_of X G F.z_isinstance, PySem.W.mg_none_of X G F.z_ValueError⟩
  have ri : RefIsa (isaK K c.BadText) (fun C => PySem.W.exmOne K (.ref C) (.ref c.LightError)) (fun C => decide (C = c.BadText)) c := ⟨fun x hx => by
    rw [isaK_self]
    simp only [List.mem_cons, List.not_mem_nil, or_false] at hx
    rcases hx with rfl | rfl | rfl | rfl | rfl | rfl | rfl | rfl
    · exact F.e_kBadBoats
    · exact F.e_kBadMany
    · exact F.e_kBadMoment
    · exact F.e_kBadPoint
    · exact F.e_kBadSight
    · exact F.e_kFull
    · exact F.e_kNoFoe
    · exact F.e_kNoKind, isaK_self.trans F.e_kself, isaK_self.trans F.e_kval, F.e_catch, decide_eq_true rfl⟩
  obtain ⟨f, oc, od, kV, doc, pm, an, cdv, ct, osl, a, l, cc, k⟩ := F.f_law.ex
  have e := hfa.symm.trans (PySem.W.mg_of X G a)
  cases e
  refine ⟨_, fun s u => .of_eq (fd := PySem.W.fnOf "law" "law" (defArgs s_law) (defBody s_law) (defScope s_law) .none kV doc pm an cdv ct) rfl, fun base _ _ => ?_⟩
  have h_is_name : DefAt P w K mg base "is_name" 1 ps_is_name P_is_name := defAt (F.f_is_name.here X G (fun _ _ _ _ _ _ us hl => match us, hl with | [_], _ => rfl)) sc_is_name (by
      intro ds μ Q h
      first
        | (obtain ⟨_, rfl, _⟩ := h; rfl)
        | (obtain ⟨_, _, rfl, _⟩ := h; rfl)
        | (obtain ⟨_, _, _, rfl, _⟩ := h; rfl)
        | (obtain ⟨_, _, _, _, rfl, _⟩ := h; rfl)
        | (obtain ⟨_, _, _, _, _, rfl, _⟩ := h; rfl)
        | (obtain ⟨_, _, _, _, _, _, rfl, _⟩ := h; rfl)
        | (obtain ⟨_, _, _, _, _, _, _, rfl, _⟩ := h; rfl)
        | (obtain ⟨_, _, _, _, _, _, _, _, rfl, _⟩ := h; rfl)
        | (obtain ⟨_, _, _, _, _, _, _, _, _, rfl, _⟩ := h; rfl)) (tm_is_name T ) rd_is_name
  have h_number_of : DefAt P w K mg base "number_of" 1 ps_number_of P_number_of := defAt (F.f_number_of.here X G (fun _ _ _ _ _ _ us hl => match us, hl with | [_, _], _ => rfl)) sc_number_of (by
      intro ds μ Q h
      first
        | (obtain ⟨_, rfl, _⟩ := h; rfl)
        | (obtain ⟨_, _, rfl, _⟩ := h; rfl)
        | (obtain ⟨_, _, _, rfl, _⟩ := h; rfl)
        | (obtain ⟨_, _, _, _, rfl, _⟩ := h; rfl)
        | (obtain ⟨_, _, _, _, _, rfl, _⟩ := h; rfl)
        | (obtain ⟨_, _, _, _, _, _, rfl, _⟩ := h; rfl)
        | (obtain ⟨_, _, _, _, _, _, _, rfl, _⟩ := h; rfl)
        | (obtain ⟨_, _, _, _, _, _, _, _, rfl, _⟩ := h; rfl)
        | (obtain ⟨_, _, _, _, _, _, _, _, _, rfl, _⟩ := h; rfl)) (tm_number_of T ) rd_number_of
  have h_colours_of : DefAt P w K mg base "colours_of" 2 ps_colours_of P_colours_of := defAt (F.f_colours_of.here X G (fun _ _ _ _ _ _ us hl => match us, hl with | [_], _ => rfl)) sc_colours_of (by
      intro ds μ Q h
      first
        | (obtain ⟨_, rfl, _⟩ := h; rfl)
        | (obtain ⟨_, _, rfl, _⟩ := h; rfl)
        | (obtain ⟨_, _, _, rfl, _⟩ := h; rfl)
        | (obtain ⟨_, _, _, _, rfl, _⟩ := h; rfl)
        | (obtain ⟨_, _, _, _, _, rfl, _⟩ := h; rfl)
        | (obtain ⟨_, _, _, _, _, _, rfl, _⟩ := h; rfl)
        | (obtain ⟨_, _, _, _, _, _, _, rfl, _⟩ := h; rfl)
        | (obtain ⟨_, _, _, _, _, _, _, _, rfl, _⟩ := h; rfl)
        | (obtain ⟨_, _, _, _, _, _, _, _, _, rfl, _⟩ := h; rfl)) (tm_colours_of T h_is_name) rd_colours_of
  have h_kind_of : DefAt P w K mg base "kind_of" 2 ps_kind_of P_kind_of := defAt (F.f_kind_of.here X G (fun _ _ _ _ _ _ us hl => match us, hl with | [_], _ => rfl)) sc_kind_of (by
      intro ds μ Q h
      first
        | (obtain ⟨_, rfl, _⟩ := h; rfl)
        | (obtain ⟨_, _, rfl, _⟩ := h; rfl)
        | (obtain ⟨_, _, _, rfl, _⟩ := h; rfl)
        | (obtain ⟨_, _, _, _, rfl, _⟩ := h; rfl)
        | (obtain ⟨_, _, _, _, _, rfl, _⟩ := h; rfl)
        | (obtain ⟨_, _, _, _, _, _, rfl, _⟩ := h; rfl)
        | (obtain ⟨_, _, _, _, _, _, _, rfl, _⟩ := h; rfl)
        | (obtain ⟨_, _, _, _, _, _, _, _, rfl, _⟩ := h; rfl)
        | (obtain ⟨_, _, _, _, _, _, _, _, _, rfl, _⟩ := h; rfl)) (tm_kind_of T h_is_name h_number_of) rd_kind_of
  have h_lamp_of : DefAt P w K mg base "lamp_of" 2 ps_lamp_of P_lamp_of := defAt (F.f_lamp_of.here X G (fun _ _ _ _ _ _ us hl => match us, hl with | [_, _], _ => rfl)) sc_lamp_of (by
      intro ds μ Q h
      first
        | (obtain ⟨_, rfl, _⟩ := h; rfl)
        | (obtain ⟨_, _, rfl, _⟩ := h; rfl)
        | (obtain ⟨_, _, _, rfl, _⟩ := h; rfl)
        | (obtain ⟨_, _, _, _, rfl, _⟩ := h; rfl)
        | (obtain ⟨_, _, _, _, _, rfl, _⟩ := h; rfl)
        | (obtain ⟨_, _, _, _, _, _, rfl, _⟩ := h; rfl)
        | (obtain ⟨_, _, _, _, _, _, _, rfl, _⟩ := h; rfl)
        | (obtain ⟨_, _, _, _, _, _, _, _, rfl, _⟩ := h; rfl)
        | (obtain ⟨_, _, _, _, _, _, _, _, _, rfl, _⟩ := h; rfl)) (tm_lamp_of T h_number_of) rd_lamp_of
  have h_sight_of : DefAt P w K mg base "sight_of" 2 ps_sight_of P_sight_of := defAt (F.f_sight_of.here X G (fun _ _ _ _ _ _ us hl => match us, hl with | [_, _], _ => rfl)) sc_sight_of (by
      intro ds μ Q h
      first
        | (obtain ⟨_, rfl, _⟩ := h; rfl)
        | (obtain ⟨_, _, rfl, _⟩ := h; rfl)
        | (obtain ⟨_, _, _, rfl, _⟩ := h; rfl)
        | (obtain ⟨_, _, _, _, rfl, _⟩ := h; rfl)
        | (obtain ⟨_, _, _, _, _, rfl, _⟩ := h; rfl)
        | (obtain ⟨_, _, _, _, _, _, rfl, _⟩ := h; rfl)
        | (obtain ⟨_, _, _, _, _, _, _, rfl, _⟩ := h; rfl)
        | (obtain ⟨_, _, _, _, _, _, _, _, rfl, _⟩ := h; rfl)
        | (obtain ⟨_, _, _, _, _, _, _, _, _, rfl, _⟩ := h; rfl)) (tm_sight_of T h_number_of) rd_sight_of
  have h_words_of : DefAt P w K mg base "words_of" 1 ps_words_of P_words_of := defAt (F.f_words_of.here X G (fun _ _ _ _ _ _ us hl => match us, hl with | [_], _ => rfl)) sc_words_of (by
      intro ds μ Q h
      first
        | (obtain ⟨_, rfl, _⟩ := h; rfl)
        | (obtain ⟨_, _, rfl, _⟩ := h; rfl)
        | (obtain ⟨_, _, _, rfl, _⟩ := h; rfl)
        | (obtain ⟨_, _, _, _, rfl, _⟩ := h; rfl)
        | (obtain ⟨_, _, _, _, _, rfl, _⟩ := h; rfl)
        | (obtain ⟨_, _, _, _, _, _, rfl, _⟩ := h; rfl)
        | (obtain ⟨_, _, _, _, _, _, _, rfl, _⟩ := h; rfl)
        | (obtain ⟨_, _, _, _, _, _, _, _, rfl, _⟩ := h; rfl)
        | (obtain ⟨_, _, _, _, _, _, _, _, _, rfl, _⟩ := h; rfl)) (tm_words_of T ) rd_words_of
  have h_Draft : MakeAt P w K mg base "Draft" Draft 1 ps_Draft___init__ (P_Draft___init__ Draft) := makeAt (F.m_Draft___init__.hereI X G F.at_Draft F.mk_Draft F.kc_Draft (fun _ _ _ _ _ _ us hl => match us, hl with | [_], _ => rfl)) sc_Draft___init__ (by
      intro ds μ Q h
      first
        | (obtain ⟨_, rfl, _⟩ := h; rfl)
        | (obtain ⟨_, _, rfl, _⟩ := h; rfl)
        | (obtain ⟨_, _, _, rfl, _⟩ := h; rfl)
        | (obtain ⟨_, _, _, _, rfl, _⟩ := h; rfl)
        | (obtain ⟨_, _, _, _, _, rfl, _⟩ := h; rfl)
        | (obtain ⟨_, _, _, _, _, _, rfl, _⟩ := h; rfl)
        | (obtain ⟨_, _, _, _, _, _, _, rfl, _⟩ := h; rfl)
        | (obtain ⟨_, _, _, _, _, _, _, _, rfl, _⟩ := h; rfl)
        | (obtain ⟨_, _, _, _, _, _, _, _, _, rfl, _⟩ := h; rfl)) (tm_Draft___init__ T ) rd_Draft___init__
  have h_Draft_lacks : MethAt P w K mg base Draft "lacks" 1 ps_Draft_lacks (P_Draft_lacks Draft) := methAt (F.m_Draft_lacks.here (fun _ _ _ _ _ _ us hl => match us, hl with | [_], _ => rfl)) sc_Draft_lacks (by
      intro ds μ Q h
      first
        | (obtain ⟨_, rfl, _⟩ := h; rfl)
        | (obtain ⟨_, _, rfl, _⟩ := h; rfl)
        | (obtain ⟨_, _, _, rfl, _⟩ := h; rfl)
        | (obtain ⟨_, _, _, _, rfl, _⟩ := h; rfl)
        | (obtain ⟨_, _, _, _, _, rfl, _⟩ := h; rfl)
        | (obtain ⟨_, _, _, _, _, _, rfl, _⟩ := h; rfl)
        | (obtain ⟨_, _, _, _, _, _, _, rfl, _⟩ := h; rfl)
        | (obtain ⟨_, _, _, _, _, _, _, _, rfl, _⟩ := h; rfl)
        | (obtain ⟨_, _, _, _, _, _, _, _, _, rfl, _⟩ := h; rfl)) (tm_Draft_lacks T ) rd_Draft_lacks
  have h_Draft__may_begin_kind : MethAt P w K mg base Draft "_may_begin_kind" 2 ps_Draft__may_begin_kind (P_Draft__may_begin_kind Draft) := methAt (F.m_Draft__may_begin_kind.here (fun _ _ _ _ _ _ us hl => match us, hl with | [_], _ => rfl)) sc_Draft__may_begin_kind (by
      intro ds μ Q h
      first
        | (obtain ⟨_, rfl, _⟩ := h; rfl)
        | (obtain ⟨_, _, rfl, _⟩ := h; rfl)
        | (obtain ⟨_, _, _, rfl, _⟩ := h; rfl)
        | (obtain ⟨_, _, _, _, rfl, _⟩ := h; rfl)
        | (obtain ⟨_, _, _, _, _, rfl, _⟩ := h; rfl)
        | (obtain ⟨_, _, _, _, _, _, rfl, _⟩ := h; rfl)
        | (obtain ⟨_, _, _, _, _, _, _, rfl, _⟩ := h; rfl)
        | (obtain ⟨_, _, _, _, _, _, _, _, rfl, _⟩ := h; rfl)
        | (obtain ⟨_, _, _, _, _, _, _, _, _, rfl, _⟩ := h; rfl)) (tm_Draft__may_begin_kind T h_Draft_lacks) rd_Draft__may_begin_kind
  have h_Draft__take_colours : MethAt P w K mg base Draft "_take_colours" 3 ps_Draft__take_colours (P_Draft__take_colours Draft) := methAt (F.m_Draft__take_colours.here (fun _ _ _ _ _ _ us hl => match us, hl with | [_, _], _ => rfl)) sc_Draft__take_colours (by
      intro ds μ Q h
      first
        | (obtain ⟨_, rfl, _⟩ := h; rfl)
        | (obtain ⟨_, _, rfl, _⟩ := h; rfl)
        | (obtain ⟨_, _, _, rfl, _⟩ := h; rfl)
        | (obtain ⟨_, _, _, _, rfl, _⟩ := h; rfl)
        | (obtain ⟨_, _, _, _, _, rfl, _⟩ := h; rfl)
        | (obtain ⟨_, _, _, _, _, _, rfl, _⟩ := h; rfl)
        | (obtain ⟨_, _, _, _, _, _, _, rfl, _⟩ := h; rfl)
        | (obtain ⟨_, _, _, _, _, _, _, _, rfl, _⟩ := h; rfl)
        | (obtain ⟨_, _, _, _, _, _, _, _, _, rfl, _⟩ := h; rfl)) (tm_Draft__take_colours T h_colours_of) rd_Draft__take_colours
  have h_Draft__take_kind : MethAt P w K mg base Draft "_take_kind" 3 ps_Draft__take_kind (P_Draft__take_kind Draft) := methAt (F.m_Draft__take_kind.here (fun _ _ _ _ _ _ us hl => match us, hl with | [_, _], _ => rfl)) sc_Draft__take_kind (by
      intro ds μ Q h
      first
        | (obtain ⟨_, rfl, _⟩ := h; rfl)
        | (obtain ⟨_, _, rfl, _⟩ := h; rfl)
        | (obtain ⟨_, _, _, rfl, _⟩ := h; rfl)
        | (obtain ⟨_, _, _, _, rfl, _⟩ := h; rfl)
        | (obtain ⟨_, _, _, _, _, rfl, _⟩ := h; rfl)
        | (obtain ⟨_, _, _, _, _, _, rfl, _⟩ := h; rfl)
        | (obtain ⟨_, _, _, _, _, _, _, rfl, _⟩ := h; rfl)
        | (obtain ⟨_, _, _, _, _, _, _, _, rfl, _⟩ := h; rfl)
        | (obtain ⟨_, _, _, _, _, _, _, _, _, rfl, _⟩ := h; rfl)) (tm_Draft__take_kind T h_kind_of h_Draft__may_begin_kind) rd_Draft__take_kind
  have h_Draft__take_lamp : MethAt P w K mg base Draft "_take_lamp" 3 ps_Draft__take_lamp (P_Draft__take_lamp Draft) := methAt (F.m_Draft__take_lamp.here (fun _ _ _ _ _ _ us hl => match us, hl with | [_, _], _ => rfl)) sc_Draft__take_lamp (by
      intro ds μ Q h
      first
        | (obtain ⟨_, rfl, _⟩ := h; rfl)
        | (obtain ⟨_, _, rfl, _⟩ := h; rfl)
        | (obtain ⟨_, _, _, rfl, _⟩ := h; rfl)
        | (obtain ⟨_, _, _, _, rfl, _⟩ := h; rfl)
        | (obtain ⟨_, _, _, _, _, rfl, _⟩ := h; rfl)
        | (obtain ⟨_, _, _, _, _, _, rfl, _⟩ := h; rfl)
        | (obtain ⟨_, _, _, _, _, _, _, rfl, _⟩ := h; rfl)
        | (obtain ⟨_, _, _, _, _, _, _, _, rfl, _⟩ := h; rfl)
        | (obtain ⟨_, _, _, _, _, _, _, _, _, rfl, _⟩ := h; rfl)) (tm_Draft__take_lamp T h_lamp_of) rd_Draft__take_lamp
  have h_Draft__take_sight : MethAt P w K mg base Draft "_take_sight" 3 ps_Draft__take_sight (P_Draft__take_sight Draft) := methAt (F.m_Draft__take_sight.here (fun _ _ _ _ _ _ us hl => match us, hl with | [_, _], _ => rfl)) sc_Draft__take_sight (by
      intro ds μ Q h
      first
        | (obtain ⟨_, rfl, _⟩ := h; rfl)
        | (obtain ⟨_, _, rfl, _⟩ := h; rfl)
        | (obtain ⟨_, _, _, rfl, _⟩ := h; rfl)
        | (obtain ⟨_, _, _, _, rfl, _⟩ := h; rfl)
        | (obtain ⟨_, _, _, _, _, rfl, _⟩ := h; rfl)
        | (obtain ⟨_, _, _, _, _, _, rfl, _⟩ := h; rfl)
        | (obtain ⟨_, _, _, _, _, _, _, rfl, _⟩ := h; rfl)
        | (obtain ⟨_, _, _, _, _, _, _, _, rfl, _⟩ := h; rfl)
        | (obtain ⟨_, _, _, _, _, _, _, _, _, rfl, _⟩ := h; rfl)) (tm_Draft__take_sight T h_sight_of h_Draft_lacks) rd_Draft__take_sight
  have h_Draft_take : MethAt P w K mg base Draft "take" 4 ps_Draft_take (P_Draft_take Draft) := methAt (F.m_Draft_take.here (fun _ _ _ _ _ _ us hl => match us, hl with | [_, _], _ => rfl)) sc_Draft_take (by
      intro ds μ Q h
      first
        | (obtain ⟨_, rfl, _⟩ := h; rfl)
        | (obtain ⟨_, _, rfl, _⟩ := h; rfl)
        | (obtain ⟨_, _, _, rfl, _⟩ := h; rfl)
        | (obtain ⟨_, _, _, _, rfl, _⟩ := h; rfl)
        | (obtain ⟨_, _, _, _, _, rfl, _⟩ := h; rfl)
        | (obtain ⟨_, _, _, _, _, _, rfl, _⟩ := h; rfl)
        | (obtain ⟨_, _, _, _, _, _, _, rfl, _⟩ := h; rfl)
        | (obtain ⟨_, _, _, _, _, _, _, _, rfl, _⟩ := h; rfl)
        | (obtain ⟨_, _, _, _, _, _, _, _, _, rfl, _⟩ := h; rfl)) (tm_Draft_take T h_Draft__take_colours h_Draft__take_kind h_Draft__take_lamp h_Draft__take_sight) rd_Draft_take
  have h_Draft_told : MethAt P w K mg base Draft "told" 1 ps_Draft_told (P_Draft_told Draft) := methAt (F.m_Draft_told.here (fun _ _ _ _ _ _ us hl => match us, hl with | [_], _ => rfl)) sc_Draft_told (by
      intro ds μ Q h
      first
        | (obtain ⟨_, rfl, _⟩ := h; rfl)
        | (obtain ⟨_, _, rfl, _⟩ := h; rfl)
        | (obtain ⟨_, _, _, rfl, _⟩ := h; rfl)
        | (obtain ⟨_, _, _, _, rfl, _⟩ := h; rfl)
        | (obtain ⟨_, _, _, _, _, rfl, _⟩ := h; rfl)
        | (obtain ⟨_, _, _, _, _, _, rfl, _⟩ := h; rfl)
        | (obtain ⟨_, _, _, _, _, _, _, rfl, _⟩ := h; rfl)
        | (obtain ⟨_, _, _, _, _, _, _, _, rfl, _⟩ := h; rfl)
        | (obtain ⟨_, _, _, _, _, _, _, _, _, rfl, _⟩ := h; rfl)) (tm_Draft_told T ) rd_Draft_told
  have h__law_mixed : DefAt P w K mg base "_law_mixed" 1 ps__law_mixed P__law_mixed := defAt (F.f__law_mixed.here X G (fun _ _ _ _ _ _ us hl => match us, hl with | [_, _], _ => rfl)) sc__law_mixed (by
      intro ds μ Q h
      first
        | (obtain ⟨_, rfl, _⟩ := h; rfl)
        | (obtain ⟨_, _, rfl, _⟩ := h; rfl)
        | (obtain ⟨_, _, _, rfl, _⟩ := h; rfl)
        | (obtain ⟨_, _, _, _, rfl, _⟩ := h; rfl)
        | (obtain ⟨_, _, _, _, _, rfl, _⟩ := h; rfl)
        | (obtain ⟨_, _, _, _, _, _, rfl, _⟩ := h; rfl)
        | (obtain ⟨_, _, _, _, _, _, _, rfl, _⟩ := h; rfl)
        | (obtain ⟨_, _, _, _, _, _, _, _, rfl, _⟩ := h; rfl)
        | (obtain ⟨_, _, _, _, _, _, _, _, _, rfl, _⟩ := h; rfl)) (tm__law_mixed T ) rd__law_mixed
  have h__law_folded : DefAt P w K mg base "_law_folded" 1 ps__law_folded P__law_folded := defAt (F.f__law_folded.here X G (fun _ _ _ _ _ _ us hl => match us, hl with | [_], _ => rfl)) sc__law_folded (by
      intro ds μ Q h
      first
        | (obtain ⟨_, rfl, _⟩ := h; rfl)
        | (obtain ⟨_, _, rfl, _⟩ := h; rfl)
        | (obtain ⟨_, _, _, rfl, _⟩ := h; rfl)
        | (obtain ⟨_, _, _, _, rfl, _⟩ := h; rfl)
        | (obtain ⟨_, _, _, _, _, rfl, _⟩ := h; rfl)
        | (obtain ⟨_, _, _, _, _, _, rfl, _⟩ := h; rfl)
        | (obtain ⟨_, _, _, _, _, _, _, rfl, _⟩ := h; rfl)
        | (obtain ⟨_, _, _, _, _, _, _, _, rfl, _⟩ := h; rfl)
        | (obtain ⟨_, _, _, _, _, _, _, _, _, rfl, _⟩ := h; rfl)) (tm__law_folded T ) rd__law_folded
  have h__law_draw : DefAt P w K mg base "_law_draw" 2 ps__law_draw P__law_draw := defAt (F.f__law_draw.here X G (fun _ _ _ _ _ _ us hl => match us, hl with | [_, _], _ => rfl)) sc__law_draw (by
      intro ds μ Q h
      first
        | (obtain ⟨_, rfl, _⟩ := h; rfl)
        | (obtain ⟨_, _, rfl, _⟩ := h; rfl)
        | (obtain ⟨_, _, _, rfl, _⟩ := h; rfl)
        | (obtain ⟨_, _, _, _, rfl, _⟩ := h; rfl)
        | (obtain ⟨_, _, _, _, _, rfl, _⟩ := h; rfl)
        | (obtain ⟨_, _, _, _, _, _, rfl, _⟩ := h; rfl)
        | (obtain ⟨_, _, _, _, _, _, _, rfl, _⟩ := h; rfl)
        | (obtain ⟨_, _, _, _, _, _, _, _, rfl, _⟩ := h; rfl)
        | (obtain ⟨_, _, _, _, _, _, _, _, _, rfl, _⟩ := h; rfl)) (tm__law_draw T h__law_mixed) rd__law_draw
  have h__law_names : DefAt P w K mg base "_law_names" 1 ps__law_names P__law_names := defAt (F.f__law_names.here X G (fun _ _ _ _ _ _ us hl => match us, hl with | [_, _], _ => rfl)) sc__law_names (by
      intro ds μ Q h
      first
        | (obtain ⟨_, rfl, _⟩ := h; rfl)
        | (obtain ⟨_, _, rfl, _⟩ := h; rfl)
        | (obtain ⟨_, _, _, rfl, _⟩ := h; rfl)
        | (obtain ⟨_, _, _, _, rfl, _⟩ := h; rfl)
        | (obtain ⟨_, _, _, _, _, rfl, _⟩ := h; rfl)
        | (obtain ⟨_, _, _, _, _, _, rfl, _⟩ := h; rfl)
        | (obtain ⟨_, _, _, _, _, _, _, rfl, _⟩ := h; rfl)
        | (obtain ⟨_, _, _, _, _, _, _, _, rfl, _⟩ := h; rfl)
        | (obtain ⟨_, _, _, _, _, _, _, _, _, rfl, _⟩ := h; rfl)) (tm__law_names T ) rd__law_names
  have h__law_lamp : DefAt P w K mg base "_law_lamp" 3 ps__law_lamp P__law_lamp := defAt (F.f__law_lamp.here X G (fun _ _ _ _ _ _ us hl => match us, hl with | [_, _], _ => rfl)) sc__law_lamp (by
      intro ds μ Q h
      first
        | (obtain ⟨_, rfl, _⟩ := h; rfl)
        | (obtain ⟨_, _, rfl, _⟩ := h; rfl)
        | (obtain ⟨_, _, _, rfl, _⟩ := h; rfl)
        | (obtain ⟨_, _, _, _, rfl, _⟩ := h; rfl)
        | (obtain ⟨_, _, _, _, _, rfl, _⟩ := h; rfl)
        | (obtain ⟨_, _, _, _, _, _, rfl, _⟩ := h; rfl)
        | (obtain ⟨_, _, _, _, _, _, _, rfl, _⟩ := h; rfl)
        | (obtain ⟨_, _, _, _, _, _, _, _, rfl, _⟩ := h; rfl)
        | (obtain ⟨_, _, _, _, _, _, _, _, _, rfl, _⟩ := h; rfl)) (tm__law_lamp T h__law_draw) rd__law_lamp
  have h__law_lamps : DefAt P w K mg base "_law_lamps" 4 ps__law_lamps P__law_lamps := defAt (F.f__law_lamps.here X G (fun _ _ _ _ _ _ us hl => match us, hl with | [_, _, _], _ => rfl)) sc__law_lamps (by
      intro ds μ Q h
      first
        | (obtain ⟨_, rfl, _⟩ := h; rfl)
        | (obtain ⟨_, _, rfl, _⟩ := h; rfl)
        | (obtain ⟨_, _, _, rfl, _⟩ := h; rfl)
        | (obtain ⟨_, _, _, _, rfl, _⟩ := h; rfl)
        | (obtain ⟨_, _, _, _, _, rfl, _⟩ := h; rfl)
        | (obtain ⟨_, _, _, _, _, _, rfl, _⟩ := h; rfl)
        | (obtain ⟨_, _, _, _, _, _, _, rfl, _⟩ := h; rfl)
        | (obtain ⟨_, _, _, _, _, _, _, _, rfl, _⟩ := h; rfl)
        | (obtain ⟨_, _, _, _, _, _, _, _, _, rfl, _⟩ := h; rfl)) (tm__law_lamps T h__law_draw h__law_lamp) rd__law_lamps
  have h__law_fleet : DefAt P w K mg base "_law_fleet" 5 ps__law_fleet P__law_fleet := defAt (F.f__law_fleet.here X G (fun _ _ _ _ _ _ us hl => match us, hl with | [_], _ => rfl)) sc__law_fleet (by
      intro ds μ Q h
      first
        | (obtain ⟨_, rfl, _⟩ := h; rfl)
        | (obtain ⟨_, _, rfl, _⟩ := h; rfl)
        | (obtain ⟨_, _, _, rfl, _⟩ := h; rfl)
        | (obtain ⟨_, _, _, _, rfl, _⟩ := h; rfl)
        | (obtain ⟨_, _, _, _, _, rfl, _⟩ := h; rfl)
        | (obtain ⟨_, _, _, _, _, _, rfl, _⟩ := h; rfl)
        | (obtain ⟨_, _, _, _, _, _, _, rfl, _⟩ := h; rfl)
        | (obtain ⟨_, _, _, _, _, _, _, _, rfl, _⟩ := h; rfl)
        | (obtain ⟨_, _, _, _, _, _, _, _, _, rfl, _⟩ := h; rfl)) (tm__law_fleet T h__law_draw h__law_lamps) rd__law_fleet
  have h__law_column : DefAt P w K mg base "_law_column" 1 ps__law_column P__law_column := defAt (F.f__law_column.here X G (fun _ _ _ _ _ _ us hl => match us, hl with | [_, _, _], _ => rfl)) sc__law_column (by
      intro ds μ Q h
      first
        | (obtain ⟨_, rfl, _⟩ := h; rfl)
        | (obtain ⟨_, _, rfl, _⟩ := h; rfl)
        | (obtain ⟨_, _, _, rfl, _⟩ := h; rfl)
        | (obtain ⟨_, _, _, _, rfl, _⟩ := h; rfl)
        | (obtain ⟨_, _, _, _, _, rfl, _⟩ := h; rfl)
        | (obtain ⟨_, _, _, _, _, _, rfl, _⟩ := h; rfl)
        | (obtain ⟨_, _, _, _, _, _, _, rfl, _⟩ := h; rfl)
        | (obtain ⟨_, _, _, _, _, _, _, _, rfl, _⟩ := h; rfl)
        | (obtain ⟨_, _, _, _, _, _, _, _, _, rfl, _⟩ := h; rfl)) (tm__law_column T ) rd__law_column
  have h__law_sights : DefAt P w K mg base "_law_sights" 3 ps__law_sights P__law_sights := defAt (F.f__law_sights.here X G (fun _ _ _ _ _ _ us hl => match us, hl with | [_, _, _], _ => rfl)) sc__law_sights (by
      intro ds μ Q h
      first
        | (obtain ⟨_, rfl, _⟩ := h; rfl)
        | (obtain ⟨_, _, rfl, _⟩ := h; rfl)
        | (obtain ⟨_, _, _, rfl, _⟩ := h; rfl)
        | (obtain ⟨_, _, _, _, rfl, _⟩ := h; rfl)
        | (obtain ⟨_, _, _, _, _, rfl, _⟩ := h; rfl)
        | (obtain ⟨_, _, _, _, _, _, rfl, _⟩ := h; rfl)
        | (obtain ⟨_, _, _, _, _, _, _, rfl, _⟩ := h; rfl)
        | (obtain ⟨_, _, _, _, _, _, _, _, rfl, _⟩ := h; rfl)
        | (obtain ⟨_, _, _, _, _, _, _, _, _, rfl, _⟩ := h; rfl)) (tm__law_sights T h__law_draw h__law_column) rd__law_sights
  have h__law_begun : DefAt P w K mg base "_law_begun" 3 ps__law_begun P__law_begun := defAt (F.f__law_begun.here X G (fun _ _ _ _ _ _ us hl => match us, hl with | [_], _ => rfl)) sc__law_begun (by
      intro ds μ Q h
      first
        | (obtain ⟨_, rfl, _⟩ := h; rfl)
        | (obtain ⟨_, _, rfl, _⟩ := h; rfl)
        | (obtain ⟨_, _, _, rfl, _⟩ := h; rfl)
        | (obtain ⟨_, _, _, _, rfl, _⟩ := h; rfl)
        | (obtain ⟨_, _, _, _, _, rfl, _⟩ := h; rfl)
        | (obtain ⟨_, _, _, _, _, _, rfl, _⟩ := h; rfl)
        | (obtain ⟨_, _, _, _, _, _, _, rfl, _⟩ := h; rfl)
        | (obtain ⟨_, _, _, _, _, _, _, _, rfl, _⟩ := h; rfl)
        | (obtain ⟨_, _, _, _, _, _, _, _, _, rfl, _⟩ := h; rfl)) (tm__law_begun T h__law_folded h__law_draw h__law_names) rd__law_begun
  have h__law_row : DefAt P w K mg base "_law_row" 1 ps__law_row P__law_row := defAt (F.f__law_row.here X G (fun _ _ _ _ _ _ us hl => match us, hl with | [_], _ => rfl)) sc__law_row (by
      intro ds μ Q h
      first
        | (obtain ⟨_, rfl, _⟩ := h; rfl)
        | (obtain ⟨_, _, rfl, _⟩ := h; rfl)
        | (obtain ⟨_, _, _, rfl, _⟩ := h; rfl)
        | (obtain ⟨_, _, _, _, rfl, _⟩ := h; rfl)
        | (obtain ⟨_, _, _, _, _, rfl, _⟩ := h; rfl)
        | (obtain ⟨_, _, _, _, _, _, rfl, _⟩ := h; rfl)
        | (obtain ⟨_, _, _, _, _, _, _, rfl, _⟩ := h; rfl)
        | (obtain ⟨_, _, _, _, _, _, _, _, rfl, _⟩ := h; rfl)
        | (obtain ⟨_, _, _, _, _, _, _, _, _, rfl, _⟩ := h; rfl)) (tm__law_row T ) rd__law_row
  have h__law_sight_row : DefAt P w K mg base "_law_sight_row" 2 ps__law_sight_row P__law_sight_row := defAt (F.f__law_sight_row.here X G (fun _ _ _ _ _ _ us hl => match us, hl with | [_], _ => rfl)) sc__law_sight_row (by
      intro ds μ Q h
      first
        | (obtain ⟨_, rfl, _⟩ := h; rfl)
        | (obtain ⟨_, _, rfl, _⟩ := h; rfl)
        | (obtain ⟨_, _, _, rfl, _⟩ := h; rfl)
        | (obtain ⟨_, _, _, _, rfl, _⟩ := h; rfl)
        | (obtain ⟨_, _, _, _, _, rfl, _⟩ := h; rfl)
        | (obtain ⟨_, _, _, _, _, _, rfl, _⟩ := h; rfl)
        | (obtain ⟨_, _, _, _, _, _, _, rfl, _⟩ := h; rfl)
        | (obtain ⟨_, _, _, _, _, _, _, _, rfl, _⟩ := h; rfl)
        | (obtain ⟨_, _, _, _, _, _, _, _, _, rfl, _⟩ := h; rfl)) (tm__law_sight_row T h__law_row) rd__law_sight_row
  have h__law_lines : DefAt P w K mg base "_law_lines" 3 ps__law_lines P__law_lines := defAt (F.f__law_lines.here X G (fun _ _ _ _ _ _ us hl => match us, hl with | [_, _], _ => rfl)) sc__law_lines (by
      intro ds μ Q h
      first
        | (obtain ⟨_, rfl, _⟩ := h; rfl)
        | (obtain ⟨_, _, rfl, _⟩ := h; rfl)
        | (obtain ⟨_, _, _, rfl, _⟩ := h; rfl)
        | (obtain ⟨_, _, _, _, rfl, _⟩ := h; rfl)
        | (obtain ⟨_, _, _, _, _, rfl, _⟩ := h; rfl)
        | (obtain ⟨_, _, _, _, _, _, rfl, _⟩ := h; rfl)
        | (obtain ⟨_, _, _, _, _, _, _, rfl, _⟩ := h; rfl)
        | (obtain ⟨_, _, _, _, _, _, _, _, rfl, _⟩ := h; rfl)
        | (obtain ⟨_, _, _, _, _, _, _, _, _, rfl, _⟩ := h; rfl)) (tm__law_lines T h__law_row h__law_sight_row) rd__law_lines
  have h__law_odd_first : DefAt P w K mg base "_law_odd_first" 3 ps__law_odd_first P__law_odd_first := defAt (F.f__law_odd_first.here X G (fun _ _ _ _ _ _ us hl => match us, hl with | [_], _ => rfl)) sc__law_odd_first (by
      intro ds μ Q h
      first
        | (obtain ⟨_, rfl, _⟩ := h; rfl)
        | (obtain ⟨_, _, rfl, _⟩ := h; rfl)
        | (obtain ⟨_, _, _, rfl, _⟩ := h; rfl)
        | (obtain ⟨_, _, _, _, rfl, _⟩ := h; rfl)
        | (obtain ⟨_, _, _, _, _, rfl, _⟩ := h; rfl)
        | (obtain ⟨_, _, _, _, _, _, rfl, _⟩ := h; rfl)
        | (obtain ⟨_, _, _, _, _, _, _, rfl, _⟩ := h; rfl)
        | (obtain ⟨_, _, _, _, _, _, _, _, rfl, _⟩ := h; rfl)
        | (obtain ⟨_, _, _, _, _, _, _, _, _, rfl, _⟩ := h; rfl)) (tm__law_odd_first T h__law_draw) rd__law_odd_first
  have h__law_odd_kind : DefAt P w K mg base "_law_odd_kind" 3 ps__law_odd_kind P__law_odd_kind := defAt (F.f__law_odd_kind.here X G (fun _ _ _ _ _ _ us hl => match us, hl with | [_, _], _ => rfl)) sc__law_odd_kind (by
      intro ds μ Q h
      first
        | (obtain ⟨_, rfl, _⟩ := h; rfl)
        | (obtain ⟨_, _, rfl, _⟩ := h; rfl)
        | (obtain ⟨_, _, _, rfl, _⟩ := h; rfl)
        | (obtain ⟨_, _, _, _, rfl, _⟩ := h; rfl)
        | (obtain ⟨_, _, _, _, _, rfl, _⟩ := h; rfl)
        | (obtain ⟨_, _, _, _, _, _, rfl, _⟩ := h; rfl)
        | (obtain ⟨_, _, _, _, _, _, _, rfl, _⟩ := h; rfl)
        | (obtain ⟨_, _, _, _, _, _, _, _, rfl, _⟩ := h; rfl)
        | (obtain ⟨_, _, _, _, _, _, _, _, _, rfl, _⟩ := h; rfl)) (tm__law_odd_kind T h__law_draw) rd__law_odd_kind
  have h__law_odd_lamp : DefAt P w K mg base "_law_odd_lamp" 3 ps__law_odd_lamp P__law_odd_lamp := defAt (F.f__law_odd_lamp.here X G (fun _ _ _ _ _ _ us hl => match us, hl with | [_, _], _ => rfl)) sc__law_odd_lamp (by
      intro ds μ Q h
      first
        | (obtain ⟨_, rfl, _⟩ := h; rfl)
        | (obtain ⟨_, _, rfl, _⟩ := h; rfl)
        | (obtain ⟨_, _, _, rfl, _⟩ := h; rfl)
        | (obtain ⟨_, _, _, _, rfl, _⟩ := h; rfl)
        | (obtain ⟨_, _, _, _, _, rfl, _⟩ := h; rfl)
        | (obtain ⟨_, _, _, _, _, _, rfl, _⟩ := h; rfl)
        | (obtain ⟨_, _, _, _, _, _, _, rfl, _⟩ := h; rfl)
        | (obtain ⟨_, _, _, _, _, _, _, _, rfl, _⟩ := h; rfl)
        | (obtain ⟨_, _, _, _, _, _, _, _, _, rfl, _⟩ := h; rfl)) (tm__law_odd_lamp T h__law_draw) rd__law_odd_lamp
  have h__law_odd_sight : DefAt P w K mg base "_law_odd_sight" 3 ps__law_odd_sight P__law_odd_sight := defAt (F.f__law_odd_sight.here X G (fun _ _ _ _ _ _ us hl => match us, hl with | [_, _], _ => rfl)) sc__law_odd_sight (by
      intro ds μ Q h
      first
        | (obtain ⟨_, rfl, _⟩ := h; rfl)
        | (obtain ⟨_, _, rfl, _⟩ := h; rfl)
        | (obtain ⟨_, _, _, rfl, _⟩ := h; rfl)
        | (obtain ⟨_, _, _, _, rfl, _⟩ := h; rfl)
        | (obtain ⟨_, _, _, _, _, rfl, _⟩ := h; rfl)
        | (obtain ⟨_, _, _, _, _, _, rfl, _⟩ := h; rfl)
        | (obtain ⟨_, _, _, _, _, _, _, rfl, _⟩ := h; rfl)
        | (obtain ⟨_, _, _, _, _, _, _, _, rfl, _⟩ := h; rfl)
        | (obtain ⟨_, _, _, _, _, _, _, _, _, rfl, _⟩ := h; rfl)) (tm__law_odd_sight T h__law_draw) rd__law_odd_sight
  have h__law_many : DefAt P w K mg base "_law_many" 3 ps__law_many P__law_many := defAt (F.f__law_many.here X G (fun _ _ _ _ _ _ us hl => match us, hl with | [_, _, _, _], _ => rfl)) sc__law_many (by
      intro ds μ Q h
      first
        | (obtain ⟨_, rfl, _⟩ := h; rfl)
        | (obtain ⟨_, _, rfl, _⟩ := h; rfl)
        | (obtain ⟨_, _, _, rfl, _⟩ := h; rfl)
        | (obtain ⟨_, _, _, _, rfl, _⟩ := h; rfl)
        | (obtain ⟨_, _, _, _, _, rfl, _⟩ := h; rfl)
        | (obtain ⟨_, _, _, _, _, _, rfl, _⟩ := h; rfl)
        | (obtain ⟨_, _, _, _, _, _, _, rfl, _⟩ := h; rfl)
        | (obtain ⟨_, _, _, _, _, _, _, _, rfl, _⟩ := h; rfl)
        | (obtain ⟨_, _, _, _, _, _, _, _, _, rfl, _⟩ := h; rfl)) (tm__law_many T h__law_draw) rd__law_many
  have h__law_spoilt : DefAt P w K mg base "_law_spoilt" 4 ps__law_spoilt P__law_spoilt := defAt (F.f__law_spoilt.here X G (fun _ _ _ _ _ _ us hl => match us, hl with | [_, _, _], _ => rfl)) sc__law_spoilt (by
      intro ds μ Q h
      first
        | (obtain ⟨_, rfl, _⟩ := h; rfl)
        | (obtain ⟨_, _, rfl, _⟩ := h; rfl)
        | (obtain ⟨_, _, _, rfl, _⟩ := h; rfl)
        | (obtain ⟨_, _, _, _, rfl, _⟩ := h; rfl)
        | (obtain ⟨_, _, _, _, _, rfl, _⟩ := h; rfl)
        | (obtain ⟨_, _, _, _, _, _, rfl, _⟩ := h; rfl)
        | (obtain ⟨_, _, _, _, _, _, _, rfl, _⟩ := h; rfl)
        | (obtain ⟨_, _, _, _, _, _, _, _, rfl, _⟩ := h; rfl)
        | (obtain ⟨_, _, _, _, _, _, _, _, _, rfl, _⟩ := h; rfl)) (tm__law_spoilt T h__law_draw h__law_odd_first h__law_odd_kind h__law_odd_lamp h__law_odd_sight h__law_many) rd__law_spoilt
  have h__law_spread : DefAt P w K mg base "_law_spread" 3 ps__law_spread P__law_spread := defAt (F.f__law_spread.here X G (fun _ _ _ _ _ _ us hl => match us, hl with | [_, _, _], _ => rfl)) sc__law_spread (by
      intro ds μ Q h
      first
        | (obtain ⟨_, rfl, _⟩ := h; rfl)
        | (obtain ⟨_, _, rfl, _⟩ := h; rfl)
        | (obtain ⟨_, _, _, rfl, _⟩ := h; rfl)
        | (obtain ⟨_, _, _, _, rfl, _⟩ := h; rfl)
        | (obtain ⟨_, _, _, _, _, rfl, _⟩ := h; rfl)
        | (obtain ⟨_, _, _, _, _, _, rfl, _⟩ := h; rfl)
        | (obtain ⟨_, _, _, _, _, _, _, rfl, _⟩ := h; rfl)
        | (obtain ⟨_, _, _, _, _, _, _, _, rfl, _⟩ := h; rfl)
        | (obtain ⟨_, _, _, _, _, _, _, _, _, rfl, _⟩ := h; rfl)) (tm__law_spread T h__law_draw) rd__law_spread
  have h_read : DefAtX P w K mg base "read" 8 ps_read (P_read c.BadText) := defAtX (F.f_read.here X G (fun _ _ _ _ _ _ us hl => match us, hl with | [_], _ => rfl)) sc_read (by
      intro ds μ Q E h
      rcases h with ⟨_, _, rfl, _⟩ | ⟨_, rfl, _⟩ <;> rfl) (tm_read T T.b_isinstance iok B h_words_of h_Draft h_Draft_take h_Draft_lacks h_Draft_told) (rd_read si)
  have h__law_refused : DefAt P w K mg base "_law_refused" 9 ps__law_refused P__law_refused := defAt (F.f__law_refused.here X G (fun _ _ _ _ _ _ us hl => match us, hl with | [_], _ => rfl)) sc__law_refused (by
      intro ds μ Q h
      rcases h with ⟨_, _, rfl, _⟩ | ⟨_, rfl, _⟩ <;> rfl) (tm__law_refused (cat := fun C => PySem.W.exmOne K (.ref C) (.ref c.LightError)) (oks := fun C => decide (C = c.BadText)) CA iok (fun _ _ h => h) (fun C h => by rw [of_decide_eq_true h]; exact ⟨⟨F.e_gets, F.e_noGet, F.e_exc, F.e_dict⟩, F.e_noLine⟩) h_read) (rd__law_refused ri)
  exact okD (fun_mk l cc k) sc_law (by
      intro ds μ Q h
      obtain ⟨_, rfl, _⟩ := h
      rfl) (tm_law T iok h__law_begun h__law_fleet h__law_sights h__law_lines h__law_draw h__law_spread h__law_refused h__law_spoilt fa) (rd_law F.k_nb)
theorem k10_at {P : Program} {w : World} {K : PySem.W.Frag} {a1 a2 a3 a4 a5 a6 a7 a8 a9 a10 : Addr} {Draft a_ROW_WORDS fI : Addr} {h : Heap} {mg : Str → Option Value} {fa : Addr} (X : K.In h) (G : h.Ns mainGlobals mg) (hfa : mg "law" = some (.ref fa)) (F : K10F P K ⟨a1, a2, a3, a4, a5, a6, a7, a8, a9, a10⟩ Draft a_ROW_WORDS fI) :
    ∃ fd : FuncData, (∀ (s : Shared) (u : Value), BindsTo s fd ⟨[u], []⟩ [("_law_script", u)]) ∧ ∀ base : Heap, K.In base → base.Ns mainGlobals mg → FnOk P w K mg base CX0 10 fa fd ["_law_script"] (spD K P_law) := k10_law X G hfa F
theorem k10_start (K : PySem.W.Frag) (H : Hp) (a : Addr) (ns : List Int) (h1 : ns.length ≤ 63) (h2 : Only H) (h3 : SqL K H a (ns.map V.int)) : spD K P_law [.ref a] H (fun v _ => v = .bl true) fun _ _ _ => False :=
  ⟨H, fun _ => none, fun _ => none, [.scr (ns.map .int)], fun d _ => d = .bl true, ⟨.ref a, [], rfl, ⟨a, ns.map V.int, rfl, h3, rpl_ints ns⟩, rfl⟩, ⟨Ex.refl H, (fun _ _ h => by cases h), fun _ _ h => by cases h⟩, ⟨ns, rfl, h1, rfl⟩, fun v d G' μ' H' e w r q => by subst q; exact r⟩
end DL
open PySem PySem.W PyProof.Rows in
set_option maxRecDepth 100000 in
set_option maxHeartbeats 0 in
theorem PySem.Challenge.cw_lanternwatch_k10_lines_told_holds : PySem.Challenge.rw_lanternwatch_k10_lines_told.Holds := by
  w_on; o_law; k_head; (case hw => w_witness2)
  k_fill
  refine L2.walk_ofK (l := PySem.Challenge.rw_lanternwatch_k10_lines_told) (n := 63) (k := 10) (x := "_law_script") (CX := L2.CX0) (sp := fun K => DL.spD K DL.P_law) rfl (by decide) rfl ⟨rfl, by decide, by decide⟩ (fun w h Y => PySem.W.kIn_of Y) ?F ?S (fun _ _ _ _ z => z)
  case F =>
    intro w mg fa h KX G hmg
    refine' DL.k10_at KX G hmg ?FF
    case FF =>
      refine' { f_is_name := ?f_is_name, f_number_of := ?f_number_of, f_colours_of := ?f_colours_of, f_kind_of := ?f_kind_of, f_lamp_of := ?f_lamp_of, f_sight_of := ?f_sight_of, f_words_of := ?f_words_of, f__law_mixed := ?f__law_mixed, f__law_folded := ?f__law_folded, f__law_draw := ?f__law_draw, f__law_names := ?f__law_names, f__law_lamp := ?f__law_lamp, f__law_lamps := ?f__law_lamps, f__law_fleet := ?f__law_fleet, f__law_column := ?f__law_column, f__law_sights := ?f__law_sights, f__law_begun := ?f__law_begun, f__law_row := ?f__law_row, f__law_sight_row := ?f__law_sight_row, f__law_lines := ?f__law_lines, f__law_odd_first := ?f__law_odd_first, f__law_odd_kind := ?f__law_odd_kind, f__law_odd_lamp := ?f__law_odd_lamp, f__law_odd_sight := ?f__law_odd_sight, f__law_many := ?f__law_many, f__law_spoilt := ?f__law_spoilt, f__law_spread := ?f__law_spread, f_law := ?f_law, f_read := ?f_read, f__law_refused := ?f__law_refused, m_Draft___init__ := ?m_Draft___init__, m_Draft_lacks := ?m_Draft_lacks, m_Draft__may_begin_kind := ?m_Draft__may_begin_kind, m_Draft__take_colours := ?m_Draft__take_colours, m_Draft__take_kind := ?m_Draft__take_kind, m_Draft__take_lamp := ?m_Draft__take_lamp, m_Draft__take_sight := ?m_Draft__take_sight, m_Draft_take := ?m_Draft_take, m_Draft_told := ?m_Draft_told, c_LAST_MOMENT := ?c_LAST_MOMENT, c_LAST_POINT := ?c_LAST_POINT, c_LETTERS := ?c_LETTERS, c_LONGEST_COLUMN := ?c_LONGEST_COLUMN, c_LONGEST_NAME := ?c_LONGEST_NAME, c_MOST_COLOURS := ?c_MOST_COLOURS, c_MOST_KINDS := ?c_MOST_KINDS, c_MOST_LAMPS := ?c_MOST_LAMPS, c_MOST_SIGHTS := ?c_MOST_SIGHTS, c_MOST_TURN := ?c_MOST_TURN, c_ROW_WORDS := ?c_ROW_WORDS, z_all := ?z_all, z_bool := ?z_bool, z_enumerate := ?z_enumerate, z_int := ?z_int, z_isinstance := ?z_isinstance, z_len := ?z_len, z_list := ?z_list, z_max := ?z_max, z_range := ?z_range, z_set := ?z_set, z_str := ?z_str, z_sum := ?z_sum, z_tuple := ?z_tuple, pg_Draft := ?pg_Draft, hd_Draft := ?hd_Draft, po_Draft := ?po_Draft, sa_Draft := ?sa_Draft, mk_Draft := ?mk_Draft, kc_Draft := ?kc_Draft, at_Draft := ?at_Draft, n_Draft__colours := ?n_Draft__colours, n_Draft__kinds := ?n_Draft__kinds, n_Draft__sights := ?n_Draft__sights, at_LightError := ?at_LightError, at_BadText := ?at_BadText, at_BadBoats := ?at_BadBoats, at_BadMany := ?at_BadMany, at_BadMoment := ?at_BadMoment, at_BadPoint := ?at_BadPoint, at_BadSight := ?at_BadSight, at_Full := ?at_Full, at_NoFoe := ?at_NoFoe, at_NoKind := ?at_NoKind, z_ValueError := ?z_ValueError, z_super := ?z_super, e_cls := ?e_cls, e_sets := ?e_sets, e_gets := ?e_gets, e_noGet := ?e_noGet, e_noLine := ?e_noLine, e_ini := ?e_ini, e_iniTy := ?e_iniTy, e_keep := ?e_keep, e_exc := ?e_exc, e_ty := ?e_ty, e_dict := ?e_dict, e_up := ?e_up, e_noAny := ?e_noAny, e_val := ?e_val, e_self := ?e_self, e_clsA := ?e_clsA, e_obj := ?e_obj, e_spec := ?e_spec, e_takes := ?e_takes, e_catch := ?e_catch, e_kself := ?e_kself, e_kval := ?e_kval, e_kBadBoats := ?e_kBadBoats, e_kBadMany := ?e_kBadMany, e_kBadMoment := ?e_kBadMoment, e_kBadPoint := ?e_kBadPoint, e_kBadSight := ?e_kBadSight, e_kFull := ?e_kFull, e_kNoFoe := ?e_kNoFoe, e_kNoKind := ?e_kNoKind, k_yes := ?k_yes, k_NoneType := ?k_NoneType, k_int := ?k_int, k_list := ?k_list, k_bool := ?k_bool, k_tuple := ?k_tuple, k_dict := ?k_dict, k_nb := ?k_nb, e_top := ?e_top, e_fn := ?e_fn }
      (case at_Draft => k_is)
      (case at_LightError => k_is)
      (case at_BadText => k_is)
      (case at_BadBoats => k_is)
      (case at_BadMany => k_is)
      (case at_BadMoment => k_is)
      (case at_BadPoint => k_is)
      (case at_BadSight => k_is)
      (case at_Full => k_is)
      (case at_NoFoe => k_is)
      (case at_NoKind => k_is)
      (case e_ini => k_is)
      (case c_ROW_WORDS => (refine' DL.tupF (ts := DL.bars) ?a ?l ?s ?v; (case a => k_is); (case l => k_is); (case s => decide); (case v => exact .cons ⟨_, rfl⟩ (.cons ⟨_, rfl⟩ (.cons ⟨_, rfl⟩ (.cons ⟨_, rfl⟩ .nil))))))
      (case f_is_name => (refine' DL.fnF ?a ?l ?c ?k; (case a => k_is); (case l => k_is); (case c => k_is); (case k => k_is)))
      (case f_number_of => (refine' DL.fnF ?a ?l ?c ?k; (case a => k_is); (case l => k_is); (case c => k_is); (case k => k_is)))
      (case f_colours_of => (refine' DL.fnF ?a ?l ?c ?k; (case a => k_is); (case l => k_is); (case c => k_is); (case k => k_is)))
      (case f_kind_of => (refine' DL.fnF ?a ?l ?c ?k; (case a => k_is); (case l => k_is); (case c => k_is); (case k => k_is)))
      (case f_lamp_of => (refine' DL.fnF ?a ?l ?c ?k; (case a => k_is); (case l => k_is); (case c => k_is); (case k => k_is)))
      (case f_sight_of => (refine' DL.fnF ?a ?l ?c ?k; (case a => k_is); (case l => k_is); (case c => k_is); (case k => k_is)))
      (case f_words_of => (refine' DL.fnF ?a ?l ?c ?k; (case a => k_is); (case l => k_is); (case c => k_is); (case k => k_is)))
      (case f__law_mixed => (refine' DL.fnF ?a ?l ?c ?k; (case a => k_is); (case l => k_is); (case c => k_is); (case k => k_is)))
      (case f__law_folded => (refine' DL.fnF ?a ?l ?c ?k; (case a => k_is); (case l => k_is); (case c => k_is); (case k => k_is)))
      (case f__law_draw => (refine' DL.fnF ?a ?l ?c ?k; (case a => k_is); (case l => k_is); (case c => k_is); (case k => k_is)))
      (case f__law_names => (refine' DL.fnF ?a ?l ?c ?k; (case a => k_is); (case l => k_is); (case c => k_is); (case k => k_is)))
      (case f__law_lamp => (refine' DL.fnF ?a ?l ?c ?k; (case a => k_is); (case l => k_is); (case c => k_is); (case k => k_is)))
      (case f__law_lamps => (refine' DL.fnF ?a ?l ?c ?k; (case a => k_is); (case l => k_is); (case c => k_is); (case k => k_is)))
      (case f__law_fleet => (refine' DL.fnF ?a ?l ?c ?k; (case a => k_is); (case l => k_is); (case c => k_is); (case k => k_is)))
      (case f__law_column => (refine' DL.fnF ?a ?l ?c ?k; (case a => k_is); (case l => k_is); (case c => k_is); (case k => k_is)))
      (case f__law_sights => (refine' DL.fnF ?a ?l ?c ?k; (case a => k_is); (case l => k_is); (case c => k_is); (case k => k_is)))
      (case f__law_begun => (refine' DL.fnF ?a ?l ?c ?k; (case a => k_is); (case l => k_is); (case c => k_is); (case k => k_is)))
      (case f__law_row => (refine' DL.fnF ?a ?l ?c ?k; (case a => k_is); (case l => k_is); (case c => k_is); (case k => k_is)))
      (case f__law_sight_row => (refine' DL.fnF ?a ?l ?c ?k; (case a => k_is); (case l => k_is); (case c => k_is); (case k => k_is)))
      (case f__law_lines => (refine' DL.fnF ?a ?l ?c ?k; (case a => k_is); (case l => k_is); (case c => k_is); (case k => k_is)))
      (case f__law_odd_first => (refine' DL.fnF ?a ?l ?c ?k; (case a => k_is); (case l => k_is); (case c => k_is); (case k => k_is)))
      (case f__law_odd_kind => (refine' DL.fnF ?a ?l ?c ?k; (case a => k_is); (case l => k_is); (case c => k_is); (case k => k_is)))
      (case f__law_odd_lamp => (refine' DL.fnF ?a ?l ?c ?k; (case a => k_is); (case l => k_is); (case c => k_is); (case k => k_is)))
      (case f__law_odd_sight => (refine' DL.fnF ?a ?l ?c ?k; (case a => k_is); (case l => k_is); (case c => k_is); (case k => k_is)))
      (case f__law_many => (refine' DL.fnF ?a ?l ?c ?k; (case a => k_is); (case l => k_is); (case c => k_is); (case k => k_is)))
      (case f__law_spoilt => (refine' DL.fnF ?a ?l ?c ?k; (case a => k_is); (case l => k_is); (case c => k_is); (case k => k_is)))
      (case f__law_spread => (refine' DL.fnF ?a ?l ?c ?k; (case a => k_is); (case l => k_is); (case c => k_is); (case k => k_is)))
      (case f_law => (refine' DL.fnF ?a ?l ?c ?k; (case a => k_is); (case l => k_is); (case c => k_is); (case k => k_is)))
      (case f_read => (refine' DL.fnF ?a ?l ?c ?k; (case a => k_is); (case l => k_is); (case c => k_is); (case k => k_is)))
      (case f__law_refused => (refine' DL.fnF ?a ?l ?c ?k; (case a => k_is); (case l => k_is); (case c => k_is); (case k => k_is)))
      (case m_Draft___init__ => (refine' DL.mtF ?a ?i ?l ?c ?k; (case a => k_is); (case i => k_is); (case l => k_is); (case c => k_is); (case k => k_is)))
      (case m_Draft_lacks => (refine' DL.mtF ?a ?i ?l ?c ?k; (case a => k_is); (case i => k_is); (case l => k_is); (case c => k_is); (case k => k_is)))
      (case m_Draft__may_begin_kind => (refine' DL.mtF ?a ?i ?l ?c ?k; (case a => k_is); (case i => k_is); (case l => k_is); (case c => k_is); (case k => k_is)))
      (case m_Draft__take_colours => (refine' DL.mtF ?a ?i ?l ?c ?k; (case a => k_is); (case i => k_is); (case l => k_is); (case c => k_is); (case k => k_is)))
      (case m_Draft__take_kind => (refine' DL.mtF ?a ?i ?l ?c ?k; (case a => k_is); (case i => k_is); (case l => k_is); (case c => k_is); (case k => k_is)))
      (case m_Draft__take_lamp => (refine' DL.mtF ?a ?i ?l ?c ?k; (case a => k_is); (case i => k_is); (case l => k_is); (case c => k_is); (case k => k_is)))
      (case m_Draft__take_sight => (refine' DL.mtF ?a ?i ?l ?c ?k; (case a => k_is); (case i => k_is); (case l => k_is); (case c => k_is); (case k => k_is)))
      (case m_Draft_take => (refine' DL.mtF ?a ?i ?l ?c ?k; (case a => k_is); (case i => k_is); (case l => k_is); (case c => k_is); (case k => k_is)))
      (case m_Draft_told => (refine' DL.mtF ?a ?i ?l ?c ?k; (case a => k_is); (case i => k_is); (case l => k_is); (case c => k_is); (case k => k_is)))
      (case c_LAST_MOMENT => (refine' DL.intF ?a; (case a => k_is)))
      (case c_LAST_POINT => (refine' DL.intF ?a; (case a => k_is)))
      (case c_LETTERS => (refine' DL.strF ?a; (case a => k_is)))
      (case c_LONGEST_COLUMN => (refine' DL.intF ?a; (case a => k_is)))
      (case c_LONGEST_NAME => (refine' DL.intF ?a; (case a => k_is)))
      (case c_MOST_COLOURS => (refine' DL.intF ?a; (case a => k_is)))
      (case c_MOST_KINDS => (refine' DL.intF ?a; (case a => k_is)))
      (case c_MOST_LAMPS => (refine' DL.intF ?a; (case a => k_is)))
      (case c_MOST_SIGHTS => (refine' DL.intF ?a; (case a => k_is)))
      (case c_MOST_TURN => (refine' DL.intF ?a; (case a => k_is)))
      (case z_all => first | k_is | kernel_rfl | rfl)
      (case z_bool => first | k_is | kernel_rfl | rfl)
      (case z_enumerate => first | k_is | kernel_rfl | rfl)
      (case z_int => first | k_is | kernel_rfl | rfl)
      (case z_isinstance => first | k_is | kernel_rfl | rfl)
      (case z_len => first | k_is | kernel_rfl | rfl)
      (case z_list => first | k_is | kernel_rfl | rfl)
      (case z_max => first | k_is | kernel_rfl | rfl)
      (case z_range => first | k_is | kernel_rfl | rfl)
      (case z_set => first | k_is | kernel_rfl | rfl)
      (case z_str => first | k_is | kernel_rfl | rfl)
      (case z_sum => first | k_is | kernel_rfl | rfl)
      (case z_tuple => first | k_is | kernel_rfl | rfl)
      (case pg_Draft => first | k_is | kernel_rfl | rfl)
      (case hd_Draft => first | k_is | kernel_rfl | rfl)
      (case po_Draft => first | k_is | kernel_rfl | rfl)
      (case sa_Draft => first | k_is | kernel_rfl | rfl)
      (case mk_Draft => first | k_is | kernel_rfl | rfl)
      (case kc_Draft => first | k_is | kernel_rfl | rfl)
      (case n_Draft__colours => first | k_is | kernel_rfl | rfl)
      (case n_Draft__kinds => first | k_is | kernel_rfl | rfl)
      (case n_Draft__sights => first | k_is | kernel_rfl | rfl)
      (case z_ValueError => first | k_is | kernel_rfl | rfl)
      (case z_super => first | k_is | kernel_rfl | rfl)
      (case e_cls => (refine' DL.excF ?l ?r; (case l => k_is); (case r => rfl)))
      (case e_sets => first | k_is | kernel_rfl | rfl)
      (case e_gets => first | k_is | kernel_rfl | rfl)
      (case e_noGet => first | k_is | kernel_rfl | rfl)
      (case e_noLine => first | k_is | kernel_rfl | rfl)
      (case e_iniTy => first | k_is | kernel_rfl | rfl)
      (case e_keep => first | k_is | kernel_rfl | rfl)
      (case e_exc => first | k_is | kernel_rfl | rfl)
      (case e_ty => first | k_is | kernel_rfl | rfl)
      (case e_dict => first | k_is | kernel_rfl | rfl)
      (case e_up => first | k_is | kernel_rfl | rfl)
      (case e_noAny => first | k_is | kernel_rfl | rfl)
      (case e_val => first | k_is | kernel_rfl | rfl)
      (case e_self => first | k_is | kernel_rfl | rfl)
      (case e_clsA => first | k_is | kernel_rfl | rfl)
      (case e_obj => first | k_is | kernel_rfl | rfl)
      (case e_spec => first | k_is | kernel_rfl | rfl)
      (case e_takes => first | k_is | kernel_rfl | rfl)
      (case e_catch => first | k_is | kernel_rfl | rfl)
      (case e_kself => first | k_is | kernel_rfl | rfl)
      (case e_kval => first | k_is | kernel_rfl | rfl)
      (case e_kBadBoats => first | k_is | kernel_rfl | rfl)
      (case e_kBadMany => first | k_is | kernel_rfl | rfl)
      (case e_kBadMoment => first | k_is | kernel_rfl | rfl)
      (case e_kBadPoint => first | k_is | kernel_rfl | rfl)
      (case e_kBadSight => first | k_is | kernel_rfl | rfl)
      (case e_kFull => first | k_is | kernel_rfl | rfl)
      (case e_kNoFoe => first | k_is | kernel_rfl | rfl)
      (case e_kNoKind => first | k_is | kernel_rfl | rfl)
      (case k_yes => first | k_is | kernel_rfl | rfl)
      (case k_NoneType => first | k_is | kernel_rfl | rfl)
      (case k_int => first | k_is | kernel_rfl | rfl)
      (case k_list => first | k_is | kernel_rfl | rfl)
      (case k_bool => first | k_is | kernel_rfl | rfl)
      (case k_tuple => first | k_is | kernel_rfl | rfl)
      (case k_dict => first | k_is | kernel_rfl | rfl)
      (case k_nb => first | k_is | kernel_rfl | rfl)
      (case e_top => rfl)
      (case e_fn => (refine' DL.iniF ?l ?c ?l2 ?v2 ?f2 ?l3 ?m ?e ?l4 ?d4; (case l => k_is); (case c => k_is); (case l2 => k_is); (case v2 => rfl); (case f2 => rfl); (case l3 => k_is); (case m => decide +kernel); (case e => rfl); (case l4 => k_is); (case d4 => rfl)))
  case S => exact DL.k10_start
