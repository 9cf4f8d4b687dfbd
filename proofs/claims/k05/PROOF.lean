import PyProof.Rows.All
import Wide.All
import OpenK.AllK
import Wide.FinOn
import HandS.ForMost
import HandS.Exc
import HandS.TryOnly
import HandS.ExcOwn
import HandS.WordsExc
import HandS.IsInst
import HandS.Zip
import HandS.Sort
import HandS.Conv
import HandS.DictComp
import HandS.Walk
import HandS.Star
import HandS.SortInts
import KE.KExcSuper
import HandS.ExcIs
import HandS.ExcField
import HandS.SetFor
import HandS.Strs
import HandS.SetBool
import KE.SortData
import HandS.TupLe
import KE.KDictList
import HandS.RaiseMore
import HandS.FStr
import KE.RegKIsAll
import PySem.Challenge.RW_gongpath_k05_measures
set_option Elab.async false
set_option linter.all false
set_option maxRecDepth 100000
set_option maxHeartbeats 4000000
namespace G
open PySem PySem.Spec PyProof.Rows L2
def topS (i : Nat) : Stmt := PySem.Challenge.pw_gongpath_k05_measures.main.body.getD i (.Pass ⟨0, 0, 0, 0⟩)
abbrev s__law_mixed : Stmt := topS 44
theorem sc__law_mixed : FnScope ["_law_number", "_law_k"] ["_law_number", "_law_k"] (defScope s__law_mixed) := ⟨rfl, rfl, rfl, by decide +kernel, rfl, by decide +kernel, by decide +kernel⟩
abbrev s_is_number : Stmt := topS 9
theorem sc_is_number : FnScope ["value"] ["value"] (defScope s_is_number) := ⟨rfl, rfl, rfl, by decide +kernel, rfl, by decide +kernel, by decide +kernel⟩
abbrev s_is_player : Stmt := topS 10
theorem sc_is_player : FnScope ["value"] ["value"] (defScope s_is_player) := ⟨rfl, rfl, rfl, by decide +kernel, rfl, by decide +kernel, by decide +kernel⟩
abbrev s_is_place : Stmt := topS 11
theorem sc_is_place : FnScope ["value", "many"] ["value", "many"] (defScope s_is_place) := ⟨rfl, rfl, rfl, by decide +kernel, rfl, by decide +kernel, by decide +kernel⟩
/-- what of the built-ins stands free at the module's top -/
structure Bt (mg : Str → Option Value) : Prop where
  len_ : mg "len" = none
  isinstance_ : mg "isinstance" = none
  int_ : mg "int" = none
  bool_ : mg "bool" = none
  list_ : mg "list" = none
  tuple_ : mg "tuple" = none
  set_ : mg "set" = none
  all_ : mg "all" = none
  max_ : mg "max" = none
  min_ : mg "min" = none
  sum_ : mg "sum" = none
  range_ : mg "range" = none
  enumerate_ : mg "enumerate" = none
  ValueError_ : mg "ValueError" = none
  super_ : mg "super" = none
  sorted_ : mg "sorted" = none
  any_ : mg "any" = none
  reversed_ : mg "reversed" = none
/-- a def that may be called by its name -/
structure Cal (P : Program) (w : World) (K : PySem.W.Frag) (mg : Str → Option Value) (base : Heap) (k : Nat) (x : Str) (sp : Sp) : Prop where
  ex : ∃ (f : Addr) (fd : FuncData) (ps : List Str), FnOk P w K mg base (L2.CX P w) k f fd ps sp ∧ mg x = some (.ref f) ∧ PySem.W.keepIn K (.ref f) = true ∧ Binds K fd ps []
theorem pe_cal {X : Cx} {k j : Nat} {x : Str} {sp : Sp} {p pos : Pos} {e : Expr} {es : List Expr} {t : TA} (c : Cal X.prog X.w X.K X.mg X.base k x sp) (hr : Room j X.A) (hk : k ≤ j) (hg : Gl X x) (ha : PA X (e :: es) t)
    (hdb : (x == ("__debug__" : Str)) = false := by decide) (he : starEach (e :: es) X.env = (false, eval e X.env) :: starEach es X.env := by rfl) (hpl : (backTo pos (starEach es X.env)).any (·.1) = false := by rfl) :
    PE X (.Call (.Name x p) (e :: es) [] pos) (tCall sp [] E0 t) := by
  obtain ⟨f, fd, ps, F, hm, kp, b⟩ := c.ex
  exact pe_call F (hr.mono hk) hg hm kp b .nil passL ha hdb he hpl
section
variable {P : Program} {w : World} {K : PySem.W.Frag} {mg : Str → Option Value} {base : Heap}
def mixed (n k : Int) : Int :=
  ((n % 2147483647 + 7919 * k * k + 31 * k) * 48271 % 2147483647) * (69621 + 2 * k) % 2147483629
def spMixed : Sp := fun vs H Q _ => ∃ n k : Int, vs = [.int n, .int k] ∧ 0 ≤ k ∧ k ≤ 1000000 ∧ Q (.int (mixed n k)) H
theorem ok_mixed {f : Addr} {fd : FuncData} (F : Fun K "_law_mixed" "_law_mixed" s__law_mixed f fd) : FnOk P w K mg base (L2.CX P w) 1 f fd ["_law_number", "_law_k"] spMixed := by
  refine F.okX sc__law_mixed (fun vs H Q E h => ?_) (fun cdv A outer s H vs Q E hr h => ?_)
  · obtain ⟨n, k, rfl, _⟩ := h
    rfl
  · obtain ⟨n, k, rfl, h0, h1, q⟩ := h
    refine ⟨_, (pss_cons (ps_set (i := 0) sc__law_mixed.nd rfl (Or.inl rfl) (pe_op op_mod (pe_op op_mul (pe_op op_add (pe_op op_add (pe_op op_mod (pv 0) pe_int) (pe_op op_mul (pe_op op_mul pe_int (pv 1)) (pv 1))) (pe_op op_mul pe_int (pv 1))) pe_int) pe_int))
      (pss_one (ps_ret (pe_op op_mod (pe_op op_mul (pv 0) (pe_op op_add pe_int (pe_op op_mul pe_int (pv 1)))) pe_int)))), ?_⟩
    have hm : 0 ≤ n % 2147483647 := Int.emod_nonneg _ (by decide)
    have hm2 : n % 2147483647 < 2147483647 := Int.emod_lt_of_pos _ (by decide)
    refine ⟨_, rfl, _, _, rfl, rfl, (by show (0:Int) < 2147483647; decide), _, rfl, _, _, rfl, rfl, .inl ⟨by decide, by decide⟩, _, rfl, _, _, rfl, rfl, .inr ⟨by omega, by omega⟩, _, _, rfl, rfl, _, rfl, _, _, rfl, rfl, .inl ⟨by decide, by decide⟩, _, _, rfl, rfl, _, _, rfl, rfl, .inr ⟨by decide, by decide⟩, _, _, rfl, rfl, (by show (0:Int) < 2147483647; decide), ?_⟩
    refine ⟨_, rfl, _, rfl, _, _, rfl, rfl, .inl ⟨by decide, by decide⟩, _, _, rfl, rfl, _, _, rfl, rfl, .inr ⟨by omega, by omega⟩, _, _, rfl, rfl, (by show (0:Int) < 2147483629; decide), ?_⟩
    exact q
end
end G

namespace G
open PySem PySem.Spec PyProof.Rows L2
/-! ### data at a value -/
inductive Dx (K : PySem.W.Frag) (H : Hp) : V → PyData → Prop
  | of {v : V} {d : PyData} (h : Dp K H v d) : Dx K H v d
  | dict0 {a : Addr} (h : H a = some (.dK [])) : Dx K H (.ref a) (.dict [])
def tyName : PyData → String
  | .none => "NoneType" | .bool _ => "bool" | .int _ => "int" | .str _ => "str" | .list _ => "list" | .tuple _ => "tuple" | .dict _ => "dict"
theorem sql_ty {K : PySem.W.Frag} {H : Hp} {a : Addr} {xs : List V} (h : SqL K H a xs) : TyX K H (.ref a) (.type "list") := by
  rcases h with (h | ⟨o, h⟩) | ⟨o, _, _, h, c, _⟩
  · exact .base (.lst h)
  · exact .base (.frz h)
  · exact .kList h c
theorem sqt_ty {K : PySem.W.Frag} {H : Hp} {a : Addr} {xs : List V} (h : SqT K H a xs) : TyX K H (.ref a) (.type "tuple") := by
  rcases h with (h | ⟨o, h⟩) | ⟨o, _, _, h, c, _⟩
  · exact .base (.tup h)
  · exact .fTuple h
  · exact .kTuple h c
theorem Dx.ty {K : PySem.W.Frag} {H : Hp} {v : V} {d : PyData} (h : Dx K H v d) : TyX K H v (.type (tyName d)) := by
  cases h with
  | of h =>
    cases h with
    | non => exact .base .non
    | bl b => exact .base (.bl b)
    | int i => exact .base (.int i)
    | str x => exact .base (.str x)
    | lst h _ => exact sql_ty h
    | tup h _ => exact sqt_ty h
  | dict0 h => exact .base (.dK h)
/-- what was tracked stays: data stays -/
theorem same_sqt {K : PySem.W.Frag} {H H' : Hp} {a : Addr} {xs : List V} (e : Same H H') (h : SqT K H a xs) : SqT K H' a xs := by
  rcases h with (h | ⟨o, h⟩) | h
  · exact .inl (.inl (e _ _ h))
  · exact .inl (.inr ⟨o, e _ _ h⟩)
  · exact .inr h
mutual
theorem dp_mono {K : PySem.W.Frag} {H H' : Hp} (s : Same H H') : ∀ (d : PyData) (v : V), Dp K H v d → Dp K H' v d
  | .none, _, h => by cases h; exact .non
  | .bool b, _, h => by cases h; exact .bl b
  | .int i, _, h => by cases h; exact .int i
  | .str x, _, h => by cases h; exact .str x
  | .list ds, _, h => by
    cases h with
    | lst hs ha => exact .lst (s.seq hs) (dp_monoAll s ds _ ha)
  | .tuple ds, _, h => by
    cases h with
    | tup hs ha => exact .tup (same_sqt s hs) (dp_monoAll s ds _ ha)
  | .dict _, _, h => by cases h
theorem dp_monoAll {K : PySem.W.Frag} {H H' : Hp} (s : Same H H') : ∀ (ds : List PyData) (vs : List V), DpAll K H vs ds → DpAll K H' vs ds
  | [], _, h => by cases h; exact .nil
  | d :: ds, _, h => by
    cases h with
    | cons h1 h2 => exact .cons (dp_mono s d _ h1) (dp_monoAll s ds _ h2)
end
theorem Dx.mono {K : PySem.W.Frag} {H H' : Hp} {v : V} {d : PyData} (s : Same H H') (h : Dx K H v d) : Dx K H' v d := by
  cases h with
  | of h => exact .of (dp_mono s _ _ h)
  | dict0 h => exact .dict0 (s _ _ h)
theorem DpAll.len {K : PySem.W.Frag} {H : Hp} : ∀ {vs : List V} {ds : List PyData}, DpAll K H vs ds → vs.length = ds.length
  | [], [], _ => rfl
  | _ :: _, _ :: _, .cons _ h => congrArg (· + 1) (DpAll.len h)
theorem DpAll.get {K : PySem.W.Frag} {H : Hp} : ∀ {vs : List V} {ds : List PyData} {i : Nat} {v : V}, DpAll K H vs ds → vs[i]? = some v → ∃ d, ds[i]? = some d ∧ Dp K H v d
  | _ :: _, _ :: _, 0, _, .cons h _, e => by
    cases e
    exact ⟨_, rfl, h⟩
  | _ :: _, _ :: _, i + 1, _, .cons _ h, e => DpAll.get (i := i) h e
  | [], [], _, _, .nil, e => by cases e
/-- isinstance of built-in kinds -/
def isTy (d : PyData) (T : String) : Bool := (kitB (tyName d) T).getD false
theorem kit_int (d : PyData) : kitB (tyName d) "int" = some (isTy d "int") := by unfold isTy; cases d <;> (dsimp only [tyName]; decide +kernel)
theorem kit_bool (d : PyData) : kitB (tyName d) "bool" = some (isTy d "bool") := by unfold isTy; cases d <;> (dsimp only [tyName]; decide +kernel)
theorem kit_list (d : PyData) : kitB (tyName d) "list" = some (isTy d "list") := by unfold isTy; cases d <;> (dsimp only [tyName]; decide +kernel)
theorem kit_tuple (d : PyData) : kitB (tyName d) "tuple" = some (isTy d "tuple") := by unfold isTy; cases d <;> (dsimp only [tyName]; decide +kernel)
theorem rd_isi {K : PySem.W.Frag} {H : Hp} {x : V} {d : PyData} {T : String} {b : Bool} {Q : VK} (h : Dx K H x d) (e : kitB (tyName d) T = some b) (q : Q (.bl b) H) : rIsi K [x, .ty T] H Q :=
  ⟨x, .ty T, _, _, b, rfl, .ty T, h.ty, kit_ty e, q⟩
/-! ### the checks, over data -/
def isNum : PyData → Bool | .int _ => true | _ => false
theorem isNum_ty (d : PyData) : (isTy d "int" && !isTy d "bool") = isNum d := by unfold isTy; cases d <;> (dsimp only [tyName, isNum]; decide +kernel)
def isPlayer : PyData → Bool | .int i => decide (i = 0) || decide (i = 1) | _ => false
def isPlace (d : PyData) (many : Int) : Bool := match d with | .int i => decide (0 ≤ i) && decide (i < many) | _ => false
section
variable {P : Program} {w : World} {K : PySem.W.Frag} {mg : Str → Option Value} {base : Heap}
def spIsNumber (K : PySem.W.Frag) : Sp := fun vs H Q _ => ∃ v d, vs = [v] ∧ Dx K H v d ∧ Q (.bl (isNum d)) H
theorem ok_is_number {f : Addr} {fd : FuncData} (B : Bt mg) (F : Fun K "is_number" "is_number" s_is_number f fd) : FnOk P w K mg base (L2.CX P w) 1 f fd ["value"] (spIsNumber K) := by
  refine F.okX sc_is_number (fun vs H Q E h => ?_) (fun cdv A outer s H vs Q E hr h => ?_)
  · obtain ⟨n, k, rfl, _⟩ := h
    rfl
  · obtain ⟨v, d, rfl, hd, q⟩ := h
    refine ⟨_, (pss_one (ps_ret (pe_and (pe_callB call_isi (by rfl) B.isinstance_ (by decide +kernel) (pa_cons (pv 0) (pa_cons (pe_bltn (v := .ty "int") (u := .type "int") (by rfl) B.int_ (by decide +kernel) rfl) pa_nil))) (pe_one (pe_not (pe_callB call_isi (by rfl) B.isinstance_ (by decide +kernel) (pa_cons (pv 0) (pa_cons (pe_bltn (v := .ty "bool") (u := .type "bool") (by rfl) B.bool_ (by decide +kernel) rfl) pa_nil)))))))), ?_⟩
    refine ⟨_, rfl, _, _, _, _, _, rfl, .ty _, hd.ty, kit_ty (kit_int d), _, rfl, ?_⟩
    rw [← isNum_ty d] at q
    cases e : isTy d "int" with
    | false =>
      rw [e] at q
      exact iteF q
    | true =>
      rw [e] at q
      refine iteT ⟨_, rfl, _, _, _, _, _, rfl, .ty _, hd.ty, kit_ty (kit_bool d), _, rfl, ?_⟩
      exact q
def spIsPlayer (K : PySem.W.Frag) : Sp := fun vs H Q _ => ∃ v d, vs = [v] ∧ Dx K H v d ∧ ∀ H', Same H H' → Q (.bl (isPlayer d)) H'
theorem same_upd {H : Hp} {p : Addr} {o : HO} (h : H p = none) : Same H (upd H p o) := fun b x e => by
  rw [upd_ne (ne_of_none e h)]
  exact e
theorem num_int {K : PySem.W.Frag} {H : Hp} {v : V} {d : PyData} (h : Dx K H v d) (e : isNum d = true) : ∃ i, d = .int i ∧ v = .int i := by
  cases h with
  | of h =>
    cases h with
    | int i => exact ⟨i, rfl, rfl⟩
    | _ => cases e
  | dict0 h => cases e
theorem ok_is_player {f : Addr} {fd : FuncData} (F : Fun K "is_player" "is_player" s_is_player f fd) (C_is_number : Cal P w K mg base 1 "is_number" (spIsNumber K)) : FnOk P w K mg base (L2.CX P w) 2 f fd ["value"] (spIsPlayer K) := by
  refine F.okX sc_is_player (fun vs H Q E h => ?_) (fun cdv A outer s H vs Q E hr h => ?_)
  · obtain ⟨n, k, rfl, _⟩ := h
    rfl
  · obtain ⟨v, d, rfl, hd, q⟩ := h
    refine ⟨_, (pss_one (ps_ret (pe_and (pe_cal C_is_number hr (by decide) (by rfl) (pa_cons (pv 0) pa_nil)) (pe_one (pe_cmpR op_in_seq (pv 0) (pe_tup (pa_cons pe_int (pa_cons pe_int pa_nil))) (by rfl)))))), ?_⟩
    refine ⟨_, rfl, _, _, rfl, hd, _, rfl, ?_⟩
    cases e : isNum d with
    | false =>
      refine iteF ?_
      have e2 : isPlayer d = false := by cases d <;> first | rfl | cases e
      rw [e2] at q
      exact q _ (Same.refl _)
    | true =>
      obtain ⟨i, rfl, rfl⟩ := num_int hd e
      refine iteT ⟨_, rfl, (by show 2 ≤ sizeLine; decide), fun p hp => ⟨p, _, rfl, .inr (SqT.of upd_same), rfl, rfl, ?_⟩⟩
      have e2 : inV (.int i) [.int 0, .int 1] = isPlayer (.int i) := by
        show ((0 : Int) == i || ((1 : Int) == i || false)) = (decide (i = 0) || decide (i = 1))
        rw [Bool.or_false]
        by_cases h0 : i = 0
        · subst h0; rfl
        · by_cases h1 : i = 1
          · subst h1; rfl
          · rw [decide_eq_false h0, decide_eq_false h1, beq_eq_false_iff_ne.mpr (Ne.symm h0), beq_eq_false_iff_ne.mpr (Ne.symm h1)]
      show Q (.bl (inV (.int i) [.int 0, .int 1])) _
      rw [e2]
      exact q _ (same_upd hp)
def spIsPlace (K : PySem.W.Frag) : Sp := fun vs H Q _ => ∃ (v : V) (d : PyData) (m : Int), vs = [v, .int m] ∧ Dx K H v d ∧ Q (.bl (isPlace d m)) H
theorem ok_is_place {f : Addr} {fd : FuncData} (F : Fun K "is_place" "is_place" s_is_place f fd) (C_is_number : Cal P w K mg base 1 "is_number" (spIsNumber K)) : FnOk P w K mg base (L2.CX P w) 2 f fd ["value", "many"] (spIsPlace K) := by
  refine F.okX sc_is_place (fun vs H Q E h => ?_) (fun cdv A outer s H vs Q E hr h => ?_)
  · obtain ⟨v, d, m, rfl, _⟩ := h
    rfl
  · obtain ⟨v, d, m, rfl, hd, q⟩ := h
    refine ⟨_, (pss_one (ps_ret (pe_and (pe_cal C_is_number hr (by decide) (by rfl) (pa_cons (pv 0) pa_nil)) (pe_one (pe_chain op_le op_lt pe_int (pv 0) (pv 1)))))), ?_⟩
    refine ⟨_, rfl, _, _, rfl, hd, _, rfl, ?_⟩
    cases e : isNum d with
    | false =>
      refine iteF ?_
      have e2 : isPlace d m = false := by cases d <;> first | rfl | cases e
      rw [e2] at q
      exact q
    | true =>
      obtain ⟨i, rfl, rfl⟩ := num_int hd e
      refine iteT ⟨_, rfl, 0, i, rfl, rfl, _, rfl, ?_⟩
      by_cases h0 : (0 : Int) ≤ i
      · rw [decide_eq_true h0]
        refine iteT ⟨_, rfl, i, m, rfl, rfl, ?_⟩
        have e2 : isPlace (.int i) m = decide (i < m) := by
          show (decide (0 ≤ i) && decide (i < m)) = _
          rw [decide_eq_true h0, Bool.true_and]
        rw [e2] at q
        exact q
      · rw [decide_eq_false h0]
        refine iteF ?_
        have e2 : isPlace (.int i) m = false := by
          show (decide (0 ≤ i) && decide (i < m)) = _
          rw [decide_eq_false h0, Bool.false_and]
        rw [e2] at q
        exact q
end
end G

namespace PySem
namespace BadX
open PySem.W PySem.Calls PyProof.Rows PySem.HandSPX
/-! ### the text of __init__: super().__init__(f't1{at}t2'); self.at = at -/
def iA (p1 p2 : Pos) : Arguments := { posonlyargs := [], args := [{ arg := "self", annotation := none, pos := p1 }, { arg := "at", annotation := none, pos := p2 }], vararg := none, kwonlyargs := [], kw_defaults := [], kwarg := none, defaults := [] }
structure Ps where
  a : Pos
  b : Pos
  c : Pos
  d : Pos
  e : Pos
  f : Pos
  g : Pos
  h : Pos
  i : Pos
  j : Pos
  k : Pos
  l : Pos
  m : Pos
  n : Pos
def iB (t1 t2 : Str) (p : Ps) : List Stmt := [
  .Expr (.Call (.Attribute (.Call (.Name "super" p.a) [] [] p.b) "__init__" p.c) [.JoinedStr [.Constant (.str t1) 0 p.d, .FormattedValue (.Name "at" p.e) (-1) none p.f, .Constant (.str t2) 0 p.g] p.h] [] p.i) p.j,
  .Assign [.Attribute (.Name "self" p.k) "at" p.l] (.Name "at" p.m) p.n]
def callE (t1 t2 : Str) (p : Ps) : Expr := .Call (.Attribute (.Call (.Name "super" p.a) [] [] p.b) "__init__" p.c) [.JoinedStr [.Constant (.str t1) 0 p.d, .FormattedValue (.Name "at" p.e) (-1) none p.f, .Constant (.str t2) 0 p.g] p.h] [] p.i
def iS : Scope := { kind := .function, names := [(PySem.Str.ofString "self", .local), (PySem.Str.ofString "at", .local), (PySem.Str.ofString "__class__", .free), (PySem.Str.ofString "super", .globalImplicit)], isGenerator := false, isCoroutine := false, more := [] }
/-- what the written part says of the class at C, and of its __init__, at fI -/
structure BadTxt (prog : Program) (K : Frag) (mg : Str → Option Value) (x qual t1 t2 : Str) (C fI : Addr) : Prop where
  gC : mg x = some (.ref C)
  cls : ∃ nm q N bs bm sn sub ab col dd k0 k1 k2 k3 k5, K.lookup C = some (excClassObj nm q C N bs bm true sn sub ab col dd k0 k1 k2 k3 k5 "ValueError.__new__") ∧ refsVE bm = true ∧ alongIn K "__init__" bm = some (some (.builtin "ValueError.__init__"))
  sa : findIn K (.ref C) "__setattr__" = some (some (.builtin "object.__setattr__"))
  noN : findIn K (.ref C) "at" = some none
  iC : findIn K (.ref C) "__init__" = some (some (.ref fI))
  tC : typeIn K (.ref fI) = some (.type "function")
  kC : keepIn K (.ref C) = true
  exC : subIn K (.ref C) (.type "BaseException") = some true
  veC : subIn K (.ref C) (.type "ValueError") = some true
  tyC : typeIn K (.ref C) = some (.type "type")
  moC : mroIn K C (.ref C) = some true
  opq : nsIn K cStatics "thirdparty.any" = some none
  msu : mg "super" = none
  htop : (prog.main.scope.names.lookup ("super" : Str)).isSome = false
  fn : ∃ (oc : Value) (od : Option Addr) (doc pm : Value) (an : Option Addr) (ct : Value) (osl : Array (Option Value)) (p1 p2 : Pos) (p : Ps) (cc cda : Addr) (ccl cl : Value) (cdd cld : Option Addr) (ccs csl : Array (Option Value)) (vs : Array Value) (file : Str) (tf : Tok),
    K.lookup fI = some ⟨oc, od, .func (ksFn "__init__" qual (iA p1 p2) (iB t1 t2 p) iS .none .none doc pm an (.ref cda) ct cc), osl⟩ ∧ codeIn K (.ref cda) qual = true ∧
    K.lookup cda = some ⟨ccl, cdd, .fields vs, ccs⟩ ∧ vs[2]? = some (.str file tf) ∧ ((prog.main.file : Str) == file) = true ∧ K.lookup cc = some ⟨cl, cld, .cell (some (.ref C)), csl⟩ ∧
    (∀ L : Addr, ∃ pl : Sem Bool, eval (callE t1 t2 p) (ksEnv qual iS L fI (.ref cda) cc) = (do
      let ov ← attributeBase (.Call (.Name "super" p.a) [] [] p.b) "__init__" (ksEnv qual iS L fI (.ref cda) cc) (eval (.Call (.Name "super" p.a) [] [] p.b) (ksEnv qual iS L fI (.ref cda) cc))
      standAt p.c.atName
      let (f, first) ← holding [ov] (getMethod ov "__init__" pl)
      callWith p.i f first (backTo p.i (starEach [.JoinedStr [.Constant (.str t1) 0 p.d, .FormattedValue (.Name "at" p.e) (-1) none p.f, .Constant (.str t2) 0 p.g] p.h] (ksEnv qual iS L fI (.ref cda) cc))) []))
  z1 : t1.length ≤ 1000
  z2 : t2.length ≤ 1000
theorem one_size (v : Value) : [v].length ≤ sizeLine := by
  rw [sizeLine_eq]
  exact (by decide : 1 ≤ 16777216)
/-- what __init__ leaves of a fresh exception at x -/
structure InitEnd (h h' : Heap) (x C dx t1 : Addr) (v : Value) : Prop where
  keep : ∀ b o, b ≠ x → h.get? b = some o → h'.get? b = some o
  obj : h'.get? x = some { cls := .ref C, dict := some dx, data := .fields #[.ref t1, .none, .none, .none, .bool false, .none] }
  dbig : h.objs.size ≤ dx
  dne : dx ≠ x
  ns : h'.Ns1 dx (fun y => if y = "at" then some v else none)
/-- what may be told: None, or a small number -/
def Small (v : Value) : Prop := v = .none ∨ ∃ (i : Nat) (t : Tok), v = .int (i : Int) t ∧ i < 64
section
variable {prog : Program} {w : World} {A : Around} {E : Value → Shared → Prop} {R : Result → Shared → Prop} {s : Shared} {K : Frag} {mg : Str → Option Value} {x qual t1 t2 : Str} {C fI : Addr} {base : Heap}
theorem len_app (a b : Str) : (a ++ b).length = a.length + b.length := Str.length_append a b
theorem int_small : ∀ i : Nat, i < 64 → (Str.ofString (toString (i : Int))).length ≤ 1000 ∧ ((i : Int)).natAbs.log2 < 1920 := by decide +kernel
theorem int_text_len {i : Nat} (h : i < 64) : (Str.ofString (toString (i : Int))).length ≤ 100000 := Nat.le_trans (int_small i h).1 (by decide)
theorem int_log {i : Nat} (h : i < 64) : ((i : Int)).natAbs.log2 < 1920 := (int_small i h).2
/-- {at} in the middle -/
theorem joined_at {env : Env} {pd pe pf pg ph : Pos} {v : Value} {Q : Value → Shared → Prop} (hv : Small v) (z1 : t1.length ≤ 1000) (z2 : t2.length ≤ 1000)
    (hat : ∀ {Q : Value → Shared → Prop} {s' : Shared}, s'.heap = s.heap → Q v s' → wpAny (model prog w) A (eval (.Name "at" pe) env) Q E s')
    (h : ∀ y k, Q (.str y k) { s with toks := k + 1 }) :
    wpAny (model prog w) A (eval (.JoinedStr [.Constant (.str t1) 0 pd, .FormattedValue (.Name "at" pe) (-1) none pf, .Constant (.str t2) 0 pg] ph) env) Q E s := by
  have e0 : evalEach [.Constant (.str t1) 0 pd, .FormattedValue (.Name "at" pe) (-1) none pf, .Constant (.str t2) 0 pg] env = [eval (.Constant (.str t1) 0 pd) env, eval (.FormattedValue (.Name "at" pe) (-1) none pf) env, eval (.Constant (.str t2) 0 pg) env] := by
    first | rfl | simp [evalEach]
  refine wpAny_JoinedStr ?_
  rw [e0]
  have a0 : (Str.empty ++ t1).length ≤ 1000 := by
    rw [len_app]
    show 0 + t1.length ≤ 1000
    omega
  refine Calls.Constant_str ⟨t1, _, rfl, Nat.le_trans a0 (by decide), ?_⟩
  refine wpAny_FormattedValue_plain (hat rfl ?_)
  have fin : ∀ (y : Str) (s' : Shared), s' = { s with toks := s'.toks } → y.length ≤ 100000 → Joins (model prog w) A E [eval (.Constant (.str t2) 0 pg) env] (Str.empty ++ t1 ++ y) (fun out s₁ => out.length ≤ sizeLine ∧ Q (.str out s₁.toks) { s₁ with toks := s₁.toks + 1 }) s' := fun y s' es hy => by
    have a2 : (Str.empty ++ t1 ++ y ++ t2).length ≤ sizeLine := by
      rw [len_app, len_app]
      exact Nat.le_trans (by omega : _ ≤ 200000) (by decide)
    refine Calls.Constant_str ⟨t2, _, rfl, a2, ?_⟩
    refine ⟨a2, ?_⟩
    rw [es]
    exact h _ _
  have a1 : ∀ y : Str, y.length ≤ 100000 → (Str.empty ++ t1 ++ y).length ≤ sizeLine := fun y hy => by
    rw [len_app]
    exact Nat.le_trans (by omega : _ ≤ 200000) (by decide)
  rcases hv with rfl | ⟨i, t, rfl, hi⟩
  · exact wpAny_formatField_none ⟨_, _, rfl, a1 _ (by decide), fin _ _ rfl (by decide)⟩
  · exact wpAny_formatField_int (int_log hi) ⟨_, _, rfl, a1 _ (int_text_len hi), fin _ _ rfl (int_text_len hi)⟩
theorem mw_with {M : Model} {i : String} {u y : Addr} {pos : Pos} {env : Env} {e : Expr} {rest : List Expr} {Q : Value → Shared → Prop}
    (h : wpAny M A (spliced (backTo pos (starEach (e :: rest) env))) (fun vs s₁ => KxsAt i u y s₁.heap ∧ wpAny M A (call (.ref u) vs) Q E s₁) E s)
    (he : starEach (e :: rest) env = (false, eval e env) :: starEach rest env := by rfl) (hplain : (backTo pos (starEach rest env)).any (·.1) = false := by rfl) :
    wpAny M A (callWith pos (.ref u) [] (backTo pos (starEach (e :: rest) env)) []) Q E s := by
  rw [he] at h ⊢
  refine kxs_callWith (i := i) (x := y) (by show (false || (backTo pos (starEach rest env)).any (·.1)) = false; rw [hplain]; rfl) ?_
  exact evalArgs_plain h
/-- the call of the bound ValueError.__init__ -/
theorem call_mw {u e t0 : Addr} {rest : List Value} {nm q : Str} {N : Addr} {bs bm : List Value} {hdct : Bool} {sn : List Str} {sub : List Value} {ab : Bool} {col : Option Bool} {dd : Option Addr} {k0 k1 k2 k3 k5 : Option Value} {Q : Value → Shared → Prop}
    (hC : s.heap.get? C = some (excClassObj nm q C N bs bm hdct sn sub ab col dd k0 k1 k2 k3 k5 "ValueError.__new__")) (he : s.heap.get? e = some (excO C t0)) (hu : s.heap.get? u = some (kxs_mw "ValueError.__init__" e)) (hrest : rest.length ≤ sizeLine)
    (hq : ∀ h' t1, (∀ b o, b ≠ e → s.heap.get? b = some o → h'.get? b = some o) → h'.get? e = some (excO C t1) → Q .none { s with heap := h' }) :
    wpAny (model prog w) A (call (.ref u) rest) Q E s := by
  obtain ⟨hh, g, d, tk, os⟩ := s
  refine wpAny_call (codeAny_of_tree ?_)
  show wpAny _ A.in1 (callAny (.ref u) ⟨rest, []⟩) _ _ _
  simp only [callAny]
  refine wpAny_bind (wpAny_load hu ?_)
  simp only [kxs_mw, show (Value.type "method-wrapper" == Value.type "method" || Value.type "method-wrapper" == Value.type "builtin_function_or_method" || Value.type "method-wrapper" == Value.type "method-wrapper") = true by decide, if_true]
  refine KFB.if_so (by decide) ?_
  refine wpAny_bind (check_bound_init F.excBase_ValueError.toExcCallFacts hC he rfl ?_)
  refine wpAny_bind (wpAny_pure (wpAny_pure ?_))
  refine ⟨plainId_quiet F.excBase_ValueError.init.plain _, codeAny_builtin F.excBase_ValueError.initEntry ?_⟩
  rw [Around.under_plainId F.excBase_ValueError.init.plain _]
  refine exc_init_tree (cls := .ref C) (t0 := t0) (dv := none) (c2 := .none) (c3 := .none) (b4 := .bool false) he hrest fun h' k e' _ => ?_
  exact hq h' _ k e'
theorem bad_init (T : BadTxt prog K mg x qual t1 t2 C fI) {x0 t0 : Addr} {v : Value} (M : L2.Mod K mg base) (kb : ∀ b o, base.get? b = some o → s.heap.get? b = some o) (hlim : s.heap.NoLimit) (hx : s.heap.get? x0 = some (excO C t0)) (hnx : K.lookup x0 = none) (hroom : A.depth < recursionLimit) (hv : Small v)
    (hq : ∀ h' tk dx t1, InitEnd s.heap h' x0 C dx t1 v → R (.ok (.ret .none)) { s with heap := h', toks := tk }) :
    codeAny (model prog w) A (.call (.ref fI) ⟨[.ref x0, v], []⟩) R s := by
  obtain ⟨oc, od, doc, pm, an, ct, osl, p1, p2, p, cc, cda, ccl, cl, cdd, cld, ccs, csl, vs, file, tf, ho, hcd, hcode, hvs, hfile, hcell, hev⟩ := T.fn
  obtain ⟨pl, hev⟩ := hev s.heap.objs.size
  obtain ⟨nm, q, N, bs, bm, sn, sub, ab, col, dd, k0, k1, k2, k3, k5, hC, hbm, hal⟩ := T.cls
  have X : K.In s.heap := M.kin.keeps kb
  have hcl : clsIn K C = some { name := nm, bases := bs, mro := .ref C :: bm, ns := N, qualname := q, hasDict := true, slotNames := sn, subclasses := sub, abstract := ab, collection := col, hasDel := false } := by unfold clsIn; rw [hC] <;> rfl
  refine ks_codeAny_call_defAt (fd := ksFn "__init__" qual (iA p1 p2) (iB t1 t2 p) iS .none .none doc pm an (.ref cda) ct cc) (body := iB t1 t2 p) (binds := [("self", .ref x0), ("at", v)]) hroom (X _ _ ho) rfl hlim (codeRec_of X hcd) rfl (BindsTo.of_eq (by first | rfl | with_unfolding_all rfl)) (by show ∀ y ∈ iS.names, y.2 ≠ .cell; decide) (by intro y hy; rcases List.mem_cons.mp hy with rfl | hy; rfl; rcases List.mem_cons.mp hy with rfl | hy; rfl; cases hy) (fun h₀ hns hk₁ => ?_)
  have hns' : h₀.Ns s.heap.objs.size (fun y => ([("self", Value.ref x0), ("at", v)] : List (Str × Value)).reverse.lookup y) := hns
  have X₀ : K.In h₀ := X.keeps hk₁
  have hx₀ := hk₁ _ _ hx
  have hxL : x0 ≠ s.heap.objs.size := Nat.ne_of_lt (Heap.lt_size hx)
  obtain ⟨mb, hb1, hb2⟩ := M.blt
  have hxC : x0 ≠ C := fun z => by
    rw [z, hC] at hnx
    cases hnx
  show _root_.PySem.wpAt (model prog w) (A.deeper (ksEnv qual iS s.heap.objs.size fI (.ref cda) cc)) (.func (iB t1 t2 p) (ksEnv qual iS s.heap.objs.size fI (.ref cda) cc)) (execs (iB t1 t2 p) (ksEnv qual iS s.heap.objs.size fI (.ref cda) cc)) _ _ _
  refine ks_wpAt_execs_cons (ks_wpAt_Expr_any (ks_wpAt_MethodCall (pl := pl) ?_ hev))
  refine ks_wpAt_super_base (env := ksEnv qual iS s.heap.objs.size fI (.ref cda) cc) rfl rfl (by decide) rfl (X₀ _ _ ho) rfl rfl rfl (X₀ _ _ hcode) rfl hvs hfile T.htop ?_
  refine ks_loadName_global rfl rfl (loadGlobal_builtin (env := ksEnv qual iS s.heap.objs.size fI (.ref cda) cc) (M.glob.keeps fun b o e => hk₁ b o (kb b o e)) T.msu (hb1.keeps fun b o e => hk₁ b o (kb b o e)) ((hb2 _ (by decide)).trans PyProof.Rows.Boot.«super») ⟨rfl, ?_⟩)
  refine wpAny_loadName_free rfl rfl rfl ⟨_, X₀ _ _ hcell, rfl⟩ ?_
  refine wpAny_loadName_local rfl rfl hns' (v := .ref x0) (by first | rfl | kernel_rfl) ?_
  have hD1 : h₀.get? C = some (excClassObj nm q C N bs bm true sn sub ab col dd k0 k1 k2 k3 k5 "ValueError.__new__") := X₀ _ _ hC
  refine ks_wpAny_isType_cls hD1 rfl ⟨rfl, ?_⟩
  refine ks_wpAny_call_super hD1 rfl hx₀ rfl (fun c e => by cases e) (looks_mroIn X₀ T.moC) (fun h₁ e₁ k₁ => ?_)
  have X₁ : K.In h₁ := X₀.keeps k₁
  have hx₁ := k₁ _ _ hx₀
  have I₁ : InstAt h₁ x0 (excO C t0) C none := ⟨hx₁, rfl, rfl, trivial⟩
  refine kxs_getMethod kxs_ValueError e₁ (looks_opaque X₁ T.opq) (l₀ := .ref C :: bm) ((looks_clsIn X₁ hcl).andThen .now) (l := bm) (by simp [List.dropWhile_cons]) X₁ hal (I₁.type.andThen (looks_subIn X₁ T.veC)) hxC (by decide) ?_
  have k₂ : ∀ b o, h₁.get? b = some o → (h₁.push (kxs_mw "ValueError.__init__" x0)).get? b = some o := fun b o e => Heap.get?_push_of_some _ e
  have eu : (h₁.push (kxs_mw "ValueError.__init__" x0)).get? h₁.objs.size = some (kxs_mw "ValueError.__init__" x0) := Heap.get?_push_at rfl rfl
  have hns₂ := hns'.keeps fun b o e => k₂ b o (k₁ b o e)
  show wpAny _ _ (callWith p.i (.ref h₁.objs.size) [] (backTo p.i (starEach [.JoinedStr [.Constant (.str t1) 0 p.d, .FormattedValue (.Name "at" p.e) (-1) none p.f, .Constant (.str t2) 0 p.g] p.h] (ksEnv qual iS s.heap.objs.size fI (.ref cda) cc))) []) _ _ _
  refine mw_with (i := "ValueError.__init__") (y := x0) (PyProof.Rows.args_cons ?_ rfl)
  refine joined_at hv T.z1 T.z2 (fun {Q' s'} es hq' => ?_) (fun y k => PyProof.Rows.args_nil ⟨eu, ?_⟩)
  · refine wpAny_Name (wpAny_loadName_local (m := fun y => ([("self", Value.ref x0), ("at", v)] : List (Str × Value)).reverse.lookup y) rfl rfl ?_ (by first | rfl | kernel_rfl) hq') (by decide)
    rw [es]
    exact hns₂
  refine call_mw (C := C) (e := x0) (t0 := t0) (k₂ _ _ (X₁ _ _ hC)) (k₂ _ _ hx₁) eu (one_size _) fun h₃ t3 k₃ hx₃ => ?_
  have kk : ∀ b o, b ≠ x0 → s.heap.get? b = some o → h₃.get? b = some o := fun b o hb e => k₃ b o hb (k₂ b o (k₁ b o (hk₁ b o e)))
  have X₃ : K.In h₃ := fun b o e => kk b o (fun z => by rw [z, hnx] at e; cases e) (X b o e)
  have hns₃ : h₃.Ns s.heap.objs.size (fun y => ([("self", Value.ref x0), ("at", v)] : List (Str × Value)).reverse.lookup y) := by
    obtain ⟨oL, es, ep, hL, r⟩ := hns₂
    exact ⟨oL, es, ep, k₃ _ _ hxL.symm hL, r⟩
  refine ks_wpAt_execs_cons (ks_wpAt_Assign_Attr (wpAt_of_wpAny ?_))
  refine wpAny_Name (wpAny_loadName_local rfl rfl hns₃ (v := v) (by first | rfl | kernel_rfl) ?_) (by decide)
  refine wpAny_Name (wpAny_loadName_local rfl rfl hns₃ (v := .ref x0) (by first | rfl | kernel_rfl) ?_) (by decide)
  refine set_plain X₃ (ox := excO C t3) (od := none) ⟨hx₃, rfl, rfl, trivial⟩ T.sa ?_
  refine exc_osa X₃ hx₃ hcl (show refsVE (.ref C :: bm) = true from hbm) rfl T.noN (fun h₄ tk₄ dx k₄ dn dne hx₄ hn₄ => ?_)
  refine wpAt_of_wpAny (wpAny_execs_nil ?_)
  have z3 : s.heap.objs.size ≤ h₃.objs.size := by
    obtain ⟨oL, es, ep, hL, r⟩ := hns₃
    exact Nat.le_of_lt (Heap.lt_size hL)
  exact hq h₄ tk₄ dx t3 ⟨fun b o hb e => k₄ b o hb (kk b o hb e), hx₄, Nat.le_trans z3 dn, dne, hn₄⟩
/-- a made one -/
structure OwnMade (h h' : Heap) (e C d : Addr) (v : Value) : Prop where
  keep : ∀ b o, h.get? b = some o → h'.get? b = some o
  new : h.objs.size ≤ e
  obj : ∃ oe vs, h'.get? e = some oe ∧ oe.cls = .ref C ∧ oe.dict = some d ∧ oe.data = .fields vs ∧ vs[1]? = some .none
  dbig : h.objs.size ≤ d
  dne : d ≠ e
  ns : h'.Ns1 d (fun y => if y = "at" then some v else none)
theorem bad_made (T : BadTxt prog K mg x qual t1 t2 C fI) {v : Value} (M : L2.Mod K mg base) (kb : ∀ b o, base.get? b = some o → s.heap.get? b = some o) (hlim : s.heap.NoLimit) (hroom : A.depth + 1 < recursionLimit) (hv : Small v)
    (hq : ∀ h' tk e d, OwnMade s.heap h' e C d v → R (.ok (.ret (.ref e))) { s with heap := h', toks := tk }) :
    codeAny (model prog w) A (.call (.ref C) ⟨[v], []⟩) R s := by
  obtain ⟨nm, q, N, bs, bm, sn, sub, ab, col, dd, k0, k1, k2, k3, k5, hC, hbm, hal⟩ := T.cls
  have X : K.In s.heap := M.kin.keeps kb
  obtain ⟨hp, g, dr, tk, os⟩ := s
  have k : ∀ b o, hp.get? b = some o → ((hp.push (kdv_tup [v])).push (excO C hp.objs.size)).get? b = some o := fun b o e => Heap.get?_push_of_some _ (Heap.get?_push_of_some _ e)
  have hget : ((hp.push (kdv_tup [v])).push (excO C hp.objs.size)).get? (hp.objs.size + 1) = some (excO C hp.objs.size) := by heap_get
  have hnx : K.lookup (hp.objs.size + 1) = none := by
    cases e : K.lookup (hp.objs.size + 1) with
    | none => rfl
    | some o =>
      have z : hp.get? (hp.objs.size + 1) = some o := X _ _ e
      exact absurd (Nat.lt_of_succ_lt (Heap.lt_size z)) (Nat.lt_irrefl _)
  refine call_own F.excBase_ValueError (fun X => refsVE_contains X bm hbm) (X _ _ hC) (looks_findIn X T.iC) (fun self => bind_fn X self T.tC) (one_size v) ?_
  refine bad_init (s := ⟨(hp.push (kdv_tup [v])).push (excO C hp.objs.size), g, dr, tk, os⟩) T M (fun b o e => k b o (kb b o e)) (hlim.keeps k) hget hnx ?_ hv fun h' tk' dx t3 ⟨k', hx, dn, dne, hns⟩ => ?_
  · show A.depth + 1 < recursionLimit
    exact hroom
  · have old : ∀ b o, hp.get? b = some o → h'.get? b = some o := fun b o e => k' b o (Nat.ne_of_lt (Nat.lt_succ_of_lt (Heap.lt_size e))) (k b o e)
    have z : hp.objs.size + 1 + 1 ≤ dx := by
      first
        | (simpa only [Heap.size_push] using dn)
        | exact dn
        | (have q := dn; rw [Heap.size_push, Heap.size_push] at q; exact q)
    exact ⟨rfl, hq h' tk' (hp.objs.size + 1) dx ⟨old, Nat.le_succ _, ⟨_, _, hx, rfl, rfl, rfl, rfl⟩, Nat.le_trans (Nat.le_trans (Nat.le_succ _) (Nat.le_succ _)) z, dne, hns⟩⟩
end
end BadX
end PySem
namespace L2
open PySem PySem.Spec PyProof.Rows
theorem relO_bad {v : V} {v' : Value} (r : RelV v v') (f : Str) : RelO (List.lookup f [(("at" : Str), v)]) (if f = "at" then some v' else none) := by
  by_cases hw : f = "at"
  · subst hw
    rw [if_pos rfl]
    have q : List.lookup ("at" : Str) [(("at" : Str), v)] = some v := by simp [List.lookup]
    rw [q]
    exact r
  · rw [if_neg hw]
    have qw : (f == ("at" : Str)) = false := by simpa using hw
    have q2 : List.lookup f [(("at" : Str), v)] = none := by simp [List.lookup, qw]
    rw [q2]
    trivial
def SmallV (v : V) : Prop := v = .non ∨ ∃ i : Nat, v = .int (i : Int) ∧ i < 64
theorem SmallV.rel {v : V} {u : Value} (h : SmallV v) (r : RelV v u) : PySem.BadX.Small u := by
  rcases h with rfl | ⟨i, rfl, hi⟩
  · exact .inl r
  · obtain ⟨t, rfl⟩ := r
    exact .inr ⟨i, t, rfl, hi⟩
section
variable {X : Cx} {C fI : Addr} {cx qual t1 t2 : Str}
/-- C(e) -/
def tMkBad (C : Addr) (ta : TA) : St → Hp → XK → Prop := fun σ H Q => ta σ H fun vs H1 => ∃ v, vs = [v] ∧ SmallV v ∧ ∀ d, H1 d = none → Q (.ref C) (some d) (upd H1 d (.xd [(("at" : Str), v)]))
theorem pmk_bad {a : Expr} {ta : TA} {p pos : Pos} {k : Nat} (T : PySem.BadX.BadTxt X.prog X.K X.mg cx qual t1 t2 C fI) (hr : Room k X.A) (hk : 1 ≤ k) (ha : PA X [a] ta) (hg : Gl X cx := by rfl) (hdb : (cx == ("__debug__" : Str)) = false := by decide)
    (he : starEach (a :: []) X.env = (false, eval a X.env) :: starEach [] X.env := by rfl) (hpl : (backTo pos (starEach [] X.env)).any (·.1) = false := by rfl) :
    PMk X (.Call (.Name cx p) [a] [] pos) (tMkBad C ta) := by
  intro pins s σ H Q I h
  refine wpAny_Call_Name_kw (ld_glob I hg T.gC ?_ hdb)
  refine PySem.W.callWith_K (h₀ := X.base) I.ok.mod.kin T.kC (thn (ha.run pos pins s σ H _ I h) fun us s1 hh => ?_) he hpl
  obtain ⟨vs, H1, I1, r1, v, ev, hsm, q1⟩ := hh
  subst ev
  refine ⟨I1.kIn, ?_⟩
  cases r1 with
  | cons rv rn =>
    rename_i v' us'
    cases rn
    show wpAny _ _ (call (.ref C) [v']) _ _ _
    have hlim := I1.nolimit
    have hbk := I1.bk
    obtain ⟨hp, g, dr, tk, os⟩ := s1
    refine wpAny_call (PySem.BadX.bad_made T I1.ok.mod hbk hlim (by have := hr.dp; omega) (hsm.rel rv) fun h' tk' e d M => ?_)
    show MkP X pins σ Q (.ref e) ⟨h', g, dr, tk', os⟩
    obtain ⟨oe, fv, hoe, hc, hd, hdat, h1⟩ := M.obj
    have hns := M.ns
    obtain ⟨G', g1, g2⟩ := restrict h' fun b => decide (b ≠ e)
    have gk : ∀ b, b ≠ e → G'.get? b = h'.get? b := fun b hb => g1 b (decide_eq_true hb)
    have ge : G'.get? e = none := g2 e (by simp)
    have old : ∀ b o, hp.get? b = some o → G'.get? b = some o := fun b o q => (gk b (Nat.ne_of_lt (Nat.lt_of_lt_of_le (Heap.lt_size q) M.new))).trans (M.keep b o q)
    have ob : ObjOk X.prog X.w (upd H1 d (.xd [(("at" : Str), v)])) G' d (.xd [(("at" : Str), v)]) :=
      ⟨_, hns.at (fun o q => (gk d M.dne).trans q), fun f => relO_bad rv f⟩
    have J : Inv X pins σ (upd H1 d (.xd [(("at" : Str), v)])) ⟨G', g, dr, tk', os⟩ := I1.laid (t' := tk') old M.dbig ob
    refine ⟨e, oe, fv, ⟨G', g, dr, tk', os⟩, _, .ref C, some d, rfl, J, fun b o q => ?_, ge, hoe, ⟨hc, hd⟩, hdat, h1, ?_, rfl, I1.bare, raises_own T.exC T.tyC, q1 d (I1.hok.fresh M.dbig)⟩
    · by_cases hb : b = e
      · have q' : G'.get? b = some o := q
        rw [hb, ge] at q'; cases q'
      · exact (gk b hb).symm.trans q
    · rw [upd_ne (Ne.symm M.dne)]
      exact I1.hok.fresh M.new
/-- raise C(e) -/
def tRaiseBad (C : Addr) (W : WX) (ta : TA) : TS := fun _ σ H => tMkBad C ta σ H fun cls d H' => W cls d σ H'
theorem ps_raiseBad {a : Expr} {ta : TA} {W : WX} {p pos pos2 : Pos} {k : Nat} (hc : X.calm = true) (T : PySem.BadX.BadTxt X.prog X.K X.mg cx qual t1 t2 C fI) (hr : Room k X.A) (hk : 1 ≤ k) (tk : Takes X W) (ha : PA X [a] ta) (hg : Gl X cx := by rfl) (hdb : (cx == ("__debug__" : Str)) = false := by decide)
    (he : starEach (a :: []) X.env = (false, eval a X.env) :: starEach [] X.env := by rfl) (hpl : (backTo pos (starEach [] X.env)).any (·.1) = false := by rfl) :
    PS X (.Raise (some (.Call (.Name cx p) [a] [] pos)) none pos2) (tRaiseBad C W ta) := ps_raise hc tk (pmk_bad T hr hk ha hg hdb he hpl)
end
end L2

namespace L2
open PySem PySem.Spec PyProof.Rows
/-! ### a caught exception that stays: tracked behind its suite -/
/-- at a: an exception of the class cls, its own dict d -/
def exH (a : Addr) (cls : Value) (d : Option Addr) : HO := .ext fun h => ∃ oe : Obj, h.get? a = some oe ∧ Zc cls d oe ∧ ∃ vs, oe.data = .fields vs
theorem exH_ok {P : Program} {w : World} {H : Hp} {h : Heap} {a : Addr} {cls : Value} {d : Option Addr} {oe : Obj} {vs : Array Value} (e : h.get? a = some oe) (z : Zc cls d oe) (hd : oe.data = .fields vs) : ObjOk P w H h a (exH a cls d) :=
  ⟨⟨oe, e, z, vs, hd⟩, ⟨_, e⟩, fun h1 h2 z k => by
    obtain ⟨o, q, z1, z2⟩ := z
    exact ⟨o, k _ q, z1, z2⟩⟩
theorem exH_at {P : Program} {w : World} {H : Hp} {h : Heap} {a : Addr} {cls : Value} {d : Option Addr} (hok : HOk P w H h) (he : H a = some (exH a cls d)) : ∃ oe : Obj, h.get? a = some oe ∧ Zc cls d oe ∧ ∃ vs, oe.data = .fields vs := by
  have x : ObjOk P w H h a (.ext fun h => ∃ oe : Obj, h.get? a = some oe ∧ Zc cls d oe ∧ ∃ vs, oe.data = .fields vs) := hok a _ he
  exact x.1
section
variable {X : Cx} {pins : List (Addr × Obj)} {σ : St} {H : Hp} {s : Shared}
theorem Inv.unsuiteP {a : Addr} {q : Addr × Obj} {pn' : List (Addr × Obj)} (I : Inv (X.suite a (q :: (X.pn ++ pins))) pn' σ H s) (ok : X.Ok) : Inv X (q :: pins) σ H s :=
  ⟨ok, I.os, I.bare, I.base, I.loc, I.cell, I.free, I.freeC, fun p hp => by
    refine I.pin p (List.mem_append_left _ ?_)
    rcases List.mem_append.mp hp with h | h
    · exact List.mem_cons_of_mem _ (List.mem_append_left _ h)
    · rcases List.mem_cons.mp h with e | h
      · rw [e]; exact List.mem_cons_self
      · exact List.mem_cons_of_mem _ (List.mem_append_right _ h), I.hok, I.len⟩
/-- a pinned exception, made behind the entry, is tracked -/
theorem Inv.track {a : Addr} {oe : Obj} {cls : Value} {d : Option Addr} {vs : Array Value} (I : Inv X ((a, oe) :: pins) σ H s) (hz : Zc cls d oe) (hd : oe.data = .fields vs) (hnew : X.s_0.heap.get? a = none) (hc : ∀ x c, X.env.cells.lookup x = some c → c ≠ a) (hp : ∀ p ∈ X.pn ++ pins, p.1 ≠ a) :
    Inv X pins σ (upd H a (exH a cls d)) s := by
  obtain ⟨ea, na, nL, nF, _⟩ := I.pin (a, oe) (List.mem_append_right _ List.mem_cons_self)
  have ea' : s.heap.get? a = some oe := ea
  have na' : H a = none := na
  have nL' : a ≠ X.env.locals := nL
  have nw : ∀ {b : Addr} {o : Obj}, X.s_0.heap.get? b = some o → b ≠ a := fun {b o} e z => by rw [z, hnew] at e; cases e
  refine ⟨I.ok, I.os, I.bare, ⟨I.base.keep, I.base.slot, fun b o e n hx => ?_, I.base.there, fun b xs e => ?_, fun b o v e => ?_, fun b ps e => ?_⟩, I.loc, I.cell, ?_, fun x c e => ?_, fun p hp' => ?_, fun b o e => ?_, I.len⟩
  · rw [upd_ne (nw e)]
    exact I.base.free b o e n hx
  · have q := I.base.tups b xs e
    rw [upd_ne (ne_of_none q na')]
    exact q
  · have q := I.base.frzs b o v e
    rw [upd_ne (ne_of_none q na')]
    exact q
  · obtain ⟨more, q⟩ := I.base.tbls b ps e
    exact ⟨more, by rw [upd_ne (ne_of_none q na')]; exact q⟩
  · rw [upd_ne nL'.symm]
    exact I.free
  · rw [upd_ne (hc x c e)]
    exact I.freeC x c e
  · obtain ⟨e1, e2, e3, e4, e5⟩ := I.pin p (by
      rcases List.mem_append.mp hp' with h | h
      · exact List.mem_append_left _ h
      · exact List.mem_append_right _ (List.mem_cons_of_mem _ h))
    exact ⟨e1, by rw [upd_ne (hp p hp')]; exact e2, e3, e4, e5⟩
  · by_cases hb : b = a
    · subst hb
      rw [upd_same] at e
      cases e
      exact exH_ok ea' hz hd
    · rw [upd_ne hb] at e
      exact (I.hok b o e).stay (fun _ _ _ q => q) (fun c q => by rw [upd_ne (ne_of_none q na')]; exact q) fun c xs q => by rw [upd_ne (ne_of_none q na')]; exact q
end
section
variable {X : Cx} {pins : List (Addr × Obj)} {σ : St} {H : Hp} {s : Shared}
theorem Inv.unpin {q : Addr × Obj} (I : Inv X (q :: pins) σ H s) : Inv X pins σ H s :=
  ⟨I.ok, I.os, I.bare, I.base, I.loc, I.cell, I.free, I.freeC, fun p hp => I.pin p (by
    rcases List.mem_append.mp hp with h | h
    · exact List.mem_append_left _ h
    · exact List.mem_append_right _ (List.mem_cons_of_mem _ h)), I.hok, I.len⟩
end
/-- what the clause 'except x as n' wishes; behind a suite that runs through the exception is tracked -/
def wAsT (K : PySem.W.Frag) (c : Value) (i : Nat) (ts : Addr → Value → Option Addr → TS) (Wout : WX) (D : Ends) : WX := fun cls d σ H =>
  ∃ b, PySem.W.exmOne K cls c = some b ∧ (b = true → ∀ a, H a = none → ts a cls d { nx := fun σ' H' => D.nx (σ'.set i none) (upd H' a (exH a cls d)), rt := D.rt, bk := fun σ' H' => D.bk (σ'.set i none) H', ct := fun σ' H' => D.ct (σ'.set i none) H' } (σ.set i (some (.ref a))) H) ∧
    (b = false → Wout cls d σ H)
section
variable {X : Cx} {x n : Str} {c : Value} {i : Nat} {body suite : List Stmt} {b₀ : Stmt} {np pos pos' : Pos} {tb : WX → TS} {ts : Addr → Value → Option Addr → TS} {Wout : WX}
theorem ps_try_asT (hexn : X.ex = []) (hs : X.stack = X.env :: X.outer) (hf : X.env.frame = some X.env.locals) (hN : X.N.Nodup) (hi : X.N[i]? = some n) (hln : X.env.kindOf n = some .local) (hc : Names X x c) (tk : Takes X Wout)
    (hb : ∀ (W : WX) (pn : List (Addr × Obj)) (xe : Value → Shared → Prop), Takes (X.tr pn xe) W → PassesOwn (model X.prog X.w) X.A X.env xe → PSs (X.tr pn xe) body (tb W))
    (hsu : ∀ (a : Addr) (oe : Obj) (cls : Value) (d : Option Addr) (pn : List (Addr × Obj)), Zc cls d oe → (∃ vs, oe.data = .fields vs) → PSs (X.suite a ((a, oe) :: pn)) (b₀ :: suite) (ts a cls d)) :
    PS X (.Try body [.ExceptHandler (some (.Name x np)) (some n) (b₀ :: suite) pos'] [] [] pos) (fun D σ H => tb (wAsT X.K c i ts Wout D) D σ H) := by
  refine ⟨fun pins s σ H D I h => ?_⟩
  have ok := I.ok
  have hfr : X.A.frames = some (X.env :: X.outer) := by rw [ok.frames, hs]
  have hloc : Loc X.env.scope n := .inl hln
  refine wpAny_Try_except ?_
  refine wpAny_mono ((hb (wAsT X.K c i ts Wout D) (X.pn ++ pins) (fun e s₁ => wpAny (model X.prog X.w) X.A (noteFrame e X.env) (fun _ s₂ => wpAny (model X.prog X.w) X.A (setFlight e none) (fun _ s₃ =>
    wpAny (model X.prog X.w) X.A (handleBy e X.env [.ExceptHandler (some (.Name x np)) (some n) (b₀ :: suite) pos']) (SP X pins D) X.xe s₃) X.xe s₂) X.xe s₁) (fun u s' xx => ?_) PassesOwn.looking).run [] s σ H D (I.toTry _) h) (fun f s1 hsp => ?_) (fun e s1 he => he)
  · -- the catch
    obtain ⟨a, B, sI, pins', σ', H', cls, d, rfl, J', nb, up, sky, na, os, ag, b, hb1, hyes, hno⟩ := xx
    have J : Inv X pins σ' H' sI := J'.ofTry ok
    have sky' : Sky B (X.env :: X.outer) a (Zc cls d) X.env.locals s'.heap := by rw [← hs]; exact sky
    show wpAny (model X.prog X.w) X.A (noteFrame (.ref a) X.env) _ _ _
    refine Sky.land Zc.steady hfr hf sky' fun h3 fl3 up3 => ?_
    have J3 : Inv X pins σ' H' { s' with heap := h3 } := J.landed nb fl3.1 (up.trans up3) os ag
    obtain ⟨oe3, vs3, he3, hz3, hd3⟩ := fl3.there
    have notFr : ∀ {h : Heap} {o : Obj} {vs : Array Value}, h.FunFrames B (X.env :: X.outer) → h.get? a = some o → o.data = .fields vs → a ∉ frs (X.env :: X.outer) := fun {h o vs} ff e dd hm => by
      obtain ⟨_, o', e', hnf⟩ := ff.mem hm
      rw [e] at e'; cases e'
      exact hnf _ dd
    have nfr := notFr fl3.2.2.1 he3 hd3
    have nL : a ≠ X.env.locals := fun z => nfr (List.mem_filterMap.mpr ⟨X.env, List.mem_cons_self, by rw [hf, z]⟩)
    have nF : a ∉ X.fs := fun hm => by
      obtain ⟨e, he, q⟩ := List.mem_filterMap.mp hm
      exact nfr (List.mem_filterMap.mpr ⟨e, List.mem_cons_of_mem _ he, q⟩)
    have S3 := J3.suite he3 hd3 na nL nF
    refine wpAny_handleBy_cons (codeAny_handlers_test ?_) (by intro q; cases q)
    have LT : PySem.W.Looks (model X.prog X.w) h3 (typeOf (.ref a)) cls := fun A Q E s k q => wpAny_typeOf_ref (k _ _ he3) (by rw [hz3.1]; exact q)
    have LM := PySem.W.exm_one (M := model X.prog X.w) (J3.kIn) LT hb1
    have test : ∀ {Q : Value → Shared → Prop} {E : Value → Shared → Prop}, Q c { s' with heap := h3 } → wpAny (model X.prog X.w) (X.A.mark (some (.ref a))) (eval (.Name x np) X.env) Q E { s' with heap := h3 } := fun {Q E} q => by
      obtain ⟨hg, hdbg, hm | ⟨hm, hv, hnn⟩⟩ := hc
      · exact ld_glob (X := X.suite a ((a, oe3) :: (X.pn ++ pins))) S3 hg hm q hdbg
      · exact ld_blt (X := X.suite a ((a, oe3) :: (X.pn ++ pins))) S3 hg hm hv q hnn hdbg
    refine test (LM.here ?_)
    cases b with
    | true =>
      refine codeAny_handlers_suite_as ?_
      refine HandSPX.lands_againZ fl3 fun h4 fl4 up4 => ?_
      have J4 : Inv X pins σ' H' { s' with heap := h4 } := J.landed nb fl4.1 ((up.trans up3).trans up4) os ag
      obtain ⟨oe4, vs4, he4, hz4, hd4⟩ := fl4.there
      have S4 := J4.suite he4 hd4 na nL nF
      refine store_ok (X := X.suite a ((a, oe4) :: (X.pn ++ pins))) (v := .ref a) S4 hN hi hloc rfl (fun s5 S5 => ?_) (.inr hln)
      refine wpAny_mono ((hsu a oe4 cls d (X.pn ++ pins) hz4 ⟨_, hd4⟩).run [] s5 _ H' _ S5 (hyes rfl a na)) (fun f s6 hsp => ?_) (fun _ _ z => False.elim z)
      have hn0 : X.s_0.heap.get? a = none := by
        cases e0 : X.s_0.heap.get? a with
        | none => rfl
        | some o0 =>
          obtain ⟨o1, e1⟩ := J.base.there a o0 e0 (fun hx => by rw [hexn] at hx; cases hx)
          have z := nb a o1 e1 (by rw [hs]; exact nfr)
          rw [fl3.2.1] at z
          cases z
      have hpn : ∀ p ∈ X.pn ++ pins, p.1 ≠ a := fun p hp z => by
        obtain ⟨e1, _, n1, n2, _⟩ := J.pin p hp
        have z2 := nb p.1 p.2 e1 (by rw [z, hs]; exact nfr)
        rw [z, fl3.2.1] at z2
        cases z2
      have end_ : ∀ {σ6 : St} {H6 : Hp} {Q : Shared → Prop}, Inv (X.suite a ((a, oe4) :: (X.pn ++ pins))) [] σ6 H6 s6 → (∀ s7, Inv X ((a, oe4) :: pins) (σ6.set i none) H6 s7 → Q s7) →
          wpAny (model X.prog X.w) X.A (do bindName X.env n .none; unbindBehindTheSuite X.env n pos') (fun _ s7 => Q s7) X.xe s6 := fun {σ6 H6 Q} S6 hq => gone_ok (S6.unsuiteP ok) hN hi hln hq
      cases f with
      | next =>
        obtain ⟨σ6, H6, S6, q6⟩ := hsp
        refine end_ S6 fun s7 J7 => ⟨_, _, J7.track hz4 hd4 hn0 (fun y cc ey z => ?_) hpn, q6⟩
        obtain ⟨w', oc, q1, q2⟩ := J7.cell y cc ey
        obtain ⟨e7, _⟩ := J7.pin (a, oe4) (List.mem_append_right _ List.mem_cons_self)
        have e7' : s7.heap.get? a = some oe4 := e7
        rw [z, e7'] at q1
        cases q1
        rw [hd4] at q2
        cases q2
      | brk =>
        obtain ⟨σ6, H6, S6, q6⟩ := hsp
        exact end_ S6 fun s7 J7 => ⟨_, _, J7.unpin, q6⟩
      | cont =>
        obtain ⟨σ6, H6, S6, q6⟩ := hsp
        exact end_ S6 fun s7 J7 => ⟨_, _, J7.unpin, q6⟩
      | ret u =>
        obtain ⟨v6, σ6, H6, S6, r6, q6⟩ := hsp
        exact end_ S6 fun s7 J7 => ⟨_, _, _, J7.unpin, r6, q6⟩
    | false =>
      show wpAny _ X.A (handleBy (.ref a) X.env []) _ _ _
      refine wpAny_handleBy_nil ?_
      obtain ⟨k1, k2, k3, oe, vs, T, oT, ts', he, hz, hd, h1, hr⟩ := id fl3
      unfold PySem.passOn
      refine wpAny_bind (wpAny_field he hd h1 ?_)
      rw [if_neg (show ¬ ((Value.ref T == Value.none) = true) from by simp)]
      have fin : wpAny (model X.prog X.w) X.A (setFlight (.ref a) X.env.frame) (fun _ s4 => wpAny (model X.prog X.w) X.A (throw (.ref a) : Sem Flow) (SP X pins D) X.xe s4) X.xe { s' with heap := h3 } := by
        rw [hf]
        refine HandSPX.setFlight_upZ fl3 fun h4 hh4 up4 => wpAny_throw (tk _ _ ?_)
        exact ⟨a, B, sI, pins, σ', H', cls, d, rfl, J, nb, (up.trans up3).trans up4, .inr (.inr (by rw [hs]; exact hh4)), na, os, ag, hno rfl⟩
      first
        | exact wpAny_bind (wpAny_pure (wpAny_bind fin))
        | exact wpAny_bind fin
  · cases f with
    | next =>
      obtain ⟨σ', H', J', q⟩ := hsp
      exact wpAny_execs_nil ⟨σ', H', J'.ofTry ok, q⟩
    | brk =>
      obtain ⟨σ', H', J', q⟩ := hsp
      exact ⟨σ', H', J'.ofTry ok, q⟩
    | cont =>
      obtain ⟨σ', H', J', q⟩ := hsp
      exact ⟨σ', H', J'.ofTry ok, q⟩
    | ret u =>
      obtain ⟨v, σ', H', J', r, q⟩ := hsp
      exact ⟨v, σ', H', J'.ofTry ok, r, q⟩
end
end L2

namespace PySem.BadX
open PySem PySem.Spec PySem.Calls PyProof.Rows PySem.W
section
variable {prog : Program} {w : World} {A : Around} {E : Value → Shared → Prop} {s : Shared} {K : Frag} {x D : Addr} {ox : Obj} {od : Option Obj}
/-- the class of an exception's object, asked as an attribute: whatever its own dict holds -/
theorem class_found (hd : hasDictIn K D = true) (ha : findIn K (.ref D) "__class__" = some (some (.builtin "object.__class__")))
    (hn : specialIn K (.builtin "object.__class__") "__get__" = some (some (.builtin "getset_descriptor.__get__"))) (ht : takesIn K (.builtin "object.__class__") = some true) :
    findObj K D od "__class__" = some (.bind (.builtin "getset_descriptor.__get__") (.builtin "object.__class__")) := by
  obtain ⟨cd, hc, _⟩ := any_some hd
  simp [findObj, hc, ha, hn, ht]
theorem class_asked {Q : Option Value → Shared → Prop} (C : L2.ExcC K D) (X : K.In s.heap) (I : InstAt s.heap x ox D od) (h : Q (some (.ref D)) { s with toks := s.toks + 1 }) : wpAny (model prog w) A (getAttr? (.ref x) "__class__") Q E s := by
  obtain ⟨hga, hgt, hsub, hdct, ha, hn, htk, hm⟩ := C
  obtain ⟨hp, g, dr, t, os⟩ := s
  have LT := I.type (M := model prog w)
  have LG := looks_findIn (M := model prog w) X hga
  have LH := looks_findIn (M := model prog w) X hgt
  have LF := looks_find (M := model prog w) X I (class_found (od := od) hdct ha hn htk)
  have LS : Looks (model prog w) hp (isInstance (.ref x) (.type "BaseException")) true := LT.andThen (looks_subIn X hsub)
  have no1 : (onTheHeap (Value.ref D) && Value.builtin "BaseException.__getattribute__" == Value.builtin "object.__getattribute__") = false := by
    rw [show (Value.builtin "BaseException.__getattribute__" == Value.builtin "object.__getattribute__") = false by decide +kernel]; rfl
  unfold getAttr? getAttrBy? getAttrBy
  refine wpAny_bind (wpAny_mkText (wpAny_bind (wpAny_attempt (wpAny_holding (wpAny_bind (LT.at (wpAny_bind (LG.at ?_))))))))
  refine (show wpAny _ _ (if (onTheHeap (Value.ref D) && Value.builtin "BaseException.__getattribute__" == Value.builtin "object.__getattribute__") = true then _ else _) _ _ _ from ?_)
  rw [no1, if_neg Bool.false_ne_true]
  unfold getAttrByItsOwn hookBefore
  refine wpAny_bind ?_
  rw [if_pos (show onTheHeap (Value.ref D) = true from rfl)]
  refine LH.at (wpAny_bind (wpAny_attempt (wpAny_holding ?_)))
  unfold callGetattribute
  rw [show (false && onTheHeap (Value.builtin "BaseException.__getattribute__")) = false from rfl, if_neg Bool.false_ne_true]
  unfold boundAndCalled
  rw [PySem.F.excAttr_ValueError.ga.bind (.ref x)]
  refine wpAny_bind (wpAny_pure ?_)
  refine (show wpAny _ _ (call (.builtin "BaseException.__getattribute__") [.ref x, .str "__class__" t]) _ _ _ from ?_)
  refine wpAny_call (codeAny_call_builtin PySem.F.excAttr_ValueError.ga.plain PySem.F.entry_bexc_ga (@check_slot (model prog w) _ _ ⟨hp, g, dr, t + 1, os⟩ "BaseException.__getattribute__" "BaseException" "__getattribute__" (.ref x) [.str "__class__" t] [] _ (by decide +kernel) (by decide +kernel) LS (PySem.F.args_bexc_ga (.ref x) (.str "__class__" t)) ?_))
  unfold Builtin.«object.__getattribute__»
  refine wpAny_bind (wpAny_of_eq (a := ((Value.ref x : Value), [Value.str "__class__" t])) (by first | rfl | (simp only [slotArgs]; rfl)) (wpAny_bind (wpAny_pure (wpAny_bind (LT.at (wpAny_bind (LF.at ?_)))))))
  refine (show wpAny _ _ (holding [Value.builtin "object.__class__"] (call (.builtin "getset_descriptor.__get__") [.builtin "object.__class__", .ref x, .ref D]) >>= ret) _ _ _ from ?_)
  refine wpAny_bind (wpAny_holding (wpAny_call (class_get (s := ⟨hp, g, dr, t + 1, os⟩) (ox := ox) (od := od) X I hm (wpAny_pure ?_))))
  refine (show wpAny _ _ (handedOut (.ref D)) _ _ _ from ?_)
  rw [handedOut_of (v := .ref D) rfl]
  first
    | exact wpAny_pure (wpAny_pure h)
    | exact wpAny_pure h
    | exact wpAny_pure (wpAny_bind (wpAny_pure (wpAny_pure h)))
theorem cls_obj (hd : hasDictIn K D = true) : ∃ c d cd sl, K.lookup D = some ⟨c, d, .cls cd, sl⟩ := by
  obtain ⟨cdD, hcD, _⟩ := any_some hd
  unfold clsIn at hcD
  split at hcD
  · rename_i c d cd sl ho
    exact ⟨c, d, cd, sl, ho⟩
  · cases hcD
theorem kitx_bad (C : L2.ExcC K D) : KitX K (.ref x) (.ref D) (fun h => InstAt h x ox D od) where
  ty := fun _ _ _ I => I.type
  it := fun _ _ X _ => by
    obtain ⟨c, d, cd, sl, ho⟩ := cls_obj C.hd
    intro A' Q' E' s' k q
    unfold isType loadHead
    exact wpAny_bind (wpAny_loadPart (k _ _ (X _ _ ho)) (wpAny_pure q))
  ne := fun h tp dd its n sl X htp => by
    obtain ⟨c, d, cd, sl, ho⟩ := cls_obj C.hd
    refine Bool.eq_false_iff.mpr fun q => ?_
    have e : D = tp := Value.ref.inj (beq_iff_eq.mp q)
    subst e
    have z := (X _ _ ho).symm.trans htp
    cases z
  ca := fun X I k => class_asked C X I k
end
end PySem.BadX
namespace L2
open PySem PySem.Spec PyProof.Rows
/-- a tracked exception's own dict, if it has one -/
def DictOk (H : Hp) : Option Addr → Prop
  | none => True
  | some dd => ∃ fs, H dd = some (.xd fs)
theorem inst_bad {X : Cx} {pins : List (Addr × Obj)} {σ : St} {H : Hp} {s : Shared} {a D : Addr} {d : Option Addr} (I : Inv X pins σ H s) (e : H a = some (exH a (.ref D) d)) (hd : DictOk H d) : ∃ ox od, PySem.W.InstAt s.heap a ox D od := by
  obtain ⟨oe, h1, h2, vs, h3⟩ := exH_at I.hok e
  obtain ⟨oc, odd, oda, osl⟩ := oe
  obtain ⟨z1, z2⟩ := h2
  dsimp only at z1 z2 h3
  subst z1 z2 h3
  cases odd with
  | none => exact ⟨_, none, h1, rfl, rfl, trivial⟩
  | some dd =>
    obtain ⟨fs, hf⟩ := hd
    have hx : ObjOk X.prog X.w H s.heap dd (.xd fs) := I.hok dd _ hf
    obtain ⟨mA, hns, hr⟩ := hx
    obtain ⟨od, ho, hl⟩ := lookIn_ns hns
    exact ⟨_, some od, h1, rfl, rfl, ho⟩
/-- isinstance(e, c), e a tracked exception -/
def rIsX (K : PySem.W.Frag) : List V → Hp → VK → Prop := fun xs H Q => ∃ (a D : Addr) (d : Option Addr) (c : V) (cv : Value) (b : Bool), xs = [.ref a, c] ∧ ExcC K D ∧ H a = some (exH a (.ref D) d) ∧ DictOk H d ∧ ClsV c cv ∧ PySem.W.kitOne K (.ref D) cv = some b ∧ Q (.bl b) H
/-- isinstance(x, c), x a plain value or a tracked exception -/
def rIsXV (K : PySem.W.Frag) : List V → Hp → VK → Prop := fun xs H Q => rIsX K xs H Q ∨ rIsi K xs H Q
section
variable {X : Cx}
theorem call_isX : CallR X (.builtin "isinstance") (rIsX X.K) := by
  intro pins s σ H xs us Q I r h
  obtain ⟨a, D, d, c, cv, b, rfl, C, ea, hd, k, e, q⟩ := h
  obtain ⟨u1, u2, rfl, r1, r2⟩ := vals2 r
  cases r1
  have ec := k.eq r2
  subst ec
  obtain ⟨ox, od, J⟩ := inst_bad I ea hd
  exact PySem.W.kia_one (PySem.BadX.kitx_bad C) I.kIn J e (fun z => nomatch z) fun tk => ⟨.bl b, H, I.kept (t' := tk) fun _ _ z => z, rfl, q⟩
theorem call_isXV : CallR X (.builtin "isinstance") (rIsXV X.K) := by
  intro pins s σ H xs us Q I r h
  rcases h with h | h
  · exact call_isX pins s σ H xs us Q I r h
  · exact call_isi pins s σ H xs us Q I r h
/-- e.f, e a tracked exception -/
def tXa (K : PySem.W.Frag) (f : Str) (te : TE) : TE := fun σ H Q => te σ H fun x H1 => ∃ (a D dd : Addr) (fs : List (Str × V)) (v : V), x = .ref a ∧ XfC K D ∧ PySem.W.findIn K (.ref D) f = some none ∧ H1 a = some (exH a (.ref D) (some dd)) ∧ H1 dd = some (.xd fs) ∧ fs.lookup f = some v ∧ Q v H1
theorem pe_xa {e : Expr} {te : TE} {pos : Pos} {n : Str} (he : PE X e te) (hb : attributeBase e n X.env (eval e X.env) = eval e X.env := by rfl) : PE X (.Attribute e n pos) (tXa X.K n te) := by
  refine ⟨fun pins s σ H Q I h => ?_⟩
  refine attr_of hb (thn (he.run pins s σ H _ I h) fun u s1 hh => ?_)
  obtain ⟨x, H1, I1, rx, a, D, dd, fs, v, rfl, T, hno, ea, ed, l, q⟩ := hh
  obtain rfl : u = Value.ref a := rx
  obtain ⟨oe, h1, h2, vs, h3⟩ := exH_at I1.hok ea
  have hx : ObjOk X.prog X.w H1 s1.heap dd (.xd fs) := I1.hok dd _ ed
  obtain ⟨mA, hns, hr⟩ := hx
  obtain ⟨od, ho, hl⟩ := lookIn_ns hns
  obtain ⟨u, hu, ru⟩ := RelO.some_of (v := v) (o := mA n) (by rw [← l]; exact hr n)
  have J : PySem.W.InstAt s1.heap a oe D (some od) := ⟨h1, h2.1, by unfold PySem.W.notCls; rw [h3] <;> rfl, by rw [h2.2]; exact ho⟩
  exact HandSPX.exc_get I1.kIn J T.ga T.gg T.exC (PySem.W.findObj_own T.hdC hno rfl (by rw [hl, hu])) (handed_of ru) ⟨v, H1, I1.tok _, ru, q⟩
end
end L2

namespace G
open PySem PySem.Spec PyProof.Rows L2
abbrev s_is_places : Stmt := topS 12
theorem sc_is_places : FnScope ["value", "many", "item"] ["value", "many"] (defScope s_is_places) := ⟨rfl, rfl, rfl, by decide +kernel, rfl, by decide +kernel, by decide +kernel⟩
abbrev s_is_ways : Stmt := topS 13
theorem sc_is_ways : FnScope ["value", "many"] ["value", "many"] (defScope s_is_ways) := ⟨rfl, rfl, rfl, by decide +kernel, rfl, by decide +kernel, by decide +kernel⟩
abbrev s_is_row : Stmt := topS 14
theorem sc_is_row : FnScope ["value", "many", "player", "number", "ways"] ["value", "many"] (defScope s_is_row) := ⟨rfl, rfl, rfl, by decide +kernel, rfl, by decide +kernel, by decide +kernel⟩
abbrev s_check_game : Stmt := topS 15
theorem sc_check_game : FnScope ["game", "place", "row"] ["game"] (defScope s_check_game) := ⟨rfl, rfl, rfl, by decide +kernel, rfl, by decide +kernel, by decide +kernel⟩
/-! ### helpers: comprehensions that keep all, enumerate -/
theorem lc_pure {K : PySem.W.Frag} {a : Addr} {xs : List V} {g : TG} {te : TE} {vs : List Nat} {σ : L2.St} {H1 : Hp} {D : Addr} {Qd : Hp → Prop} (ys : List V) (hl : ys.length = xs.length) (hS : SqL K H1 a xs) (nD : H1 D = none) (hz : xs.length ≤ 1000)
    (hs : ∀ (i : Nat) (x y : V) (H : Hp) (Q : VK), xs[i]? = some x → ys[i]? = some y → Same H1 H → (∀ H', Same H H' → Q y H') → g x (wipe σ vs) H fun σ2 H2 => wipe σ2 vs = wipe σ vs ∧ te σ2 H2 Q)
    (hd : ∀ H, Same H1 H → H D = some (.lst ys) → Qd H) :
    ∃ W : Nat → Nat → Hp → Prop, (∃ m, W 0 m (upd H1 D (.lst []))) ∧ ∀ i m H, W i m H →
      ((Itl K a).stop i H ∧ Qd H) ∨ ((Itl K a).go i H ∧ ∃ Nx : Hp → Prop, (∀ H', Nx H' → ∃ m', m' < m ∧ W (i + 1) m' H') ∧ ∀ x H', (Itl K a).yld i H x H' → g x (wipe σ vs) H' fun σ2 H2 => wipe σ2 vs = wipe σ vs ∧ tYes σ2 H2 fun b H3 =>
        if b = true then te σ2 H3 fun y H4 => ∃ acc, H4 D = some (.lst acc) ∧ acc.length < sizeLine ∧ Nx (upd H4 D (.lst (acc ++ [y]))) else Nx H3) := by
  refine lc_list (K := K) (a := a) (xs := xs) (fun i H => Same H1 H ∧ H D = some (.lst (ys.take i))) ⟨same_upd nD, by rw [upd_same]; rfl⟩ (fun i H _ p => p.1.seq hS) (fun i x H hi p => ?_) (fun H p => hd H p.1 ?_)
  · have hlt : i < ys.length := by rw [hl]; exact (List.getElem?_eq_some_iff.mp hi).1
    refine hs i x ys[i] H _ hi (List.getElem?_eq_getElem hlt) p.1 (fun H' s => ⟨_, s _ _ p.2, ?_, fun b o e => ?_, ?_⟩)
    · rw [List.length_take]
      exact small1000 (Nat.le_trans (Nat.min_le_right _ _) (by omega))
    · rw [upd_ne (ne_of_none e nD)]
      exact s _ _ (p.1 _ _ e)
    · rw [upd_same, List.take_add_one, List.getElem?_eq_getElem hlt]
      rfl
  · have q := p.2
    rw [← hl, List.take_length] at q
    exact q
theorem for_enum {K : PySem.W.Frag} {a : Addr} {xs : List V} {g : TG} {tb : TS} {D : Ends} {σ : L2.St} {H : Hp} (Pv : Nat → L2.St → Hp → Prop) (h0 : Pv 0 σ H) (hl : ∀ i σ H, i ≤ xs.length → Pv i σ H → SqL K H a xs)
    (hs : ∀ i x T σ H, xs[i]? = some x → Pv i σ H → H T = none → g (.ref T) σ (upd H T (.tup [.int (i : Nat), x])) fun σ2 H2 => tb { D with nx := Pv (i + 1), ct := Pv (i + 1), bk := D.nx } σ2 H2) (hd : ∀ σ H, Pv xs.length σ H → D.nx σ H) :
    ∃ W : Nat → Nat → L2.St → Hp → Prop, (∃ m, W 0 m σ H) ∧ ∀ i m σ H, W i m σ H →
      ((Ite K a).stop i H ∧ D.nx σ H) ∨ ((Ite K a).go i H ∧ ∃ N : L2.St → Hp → Prop, (∀ σ' H', N σ' H' → ∃ m', m' < m ∧ W (i + 1) m' σ' H') ∧ ∀ x H', (Ite K a).yld i H x H' → g x σ H' fun σ2 H2 => tb { D with nx := N, ct := N, bk := D.nx } σ2 H2) := by
  refine ⟨fun i m σ H => m = xs.length - i ∧ i ≤ xs.length ∧ Pv i σ H, ⟨xs.length, by simp, Nat.zero_le _, h0⟩, fun i m σ H h => ?_⟩
  obtain ⟨rfl, hi, p⟩ := h
  have q := hl i σ H hi p
  by_cases hlt : i < xs.length
  · refine .inr ⟨⟨xs, xs[i], q, by simp [hlt]⟩, Pv (i + 1), fun σ' H' p' => ⟨xs.length - (i + 1), by omega, rfl, hlt, p'⟩, fun v H' y => ?_⟩
    obtain ⟨T, x, rfl, nT, rfl, y⟩ := y
    exact hs i x T σ H (y xs q) p nT
  · obtain rfl : i = xs.length := by omega
    exact .inl ⟨⟨xs, q, Nat.le_refl _⟩, hd σ H p⟩
/-! ### len(set(xs)) of ints -/
def uniqN (ns : List Int) : Nat := (PyProof.Rows.firstMet (fun i => ns.getD i 0) ns.length).length
theorem uniq_le (f : Nat → Int) : ∀ n, (PyProof.Rows.firstMet f n).length = n → PyProof.Rows.firstMet f n = (List.range n).map f ∧ ((List.range n).map f).Nodup
  | 0, _ => ⟨rfl, List.nodup_nil⟩
  | n + 1, h => by
    have hle := PyProof.Rows.firstMet_length_le f n
    rw [PyProof.Rows.firstMet_succ] at h ⊢
    have hd : PyProof.Rows.step_dedup (PyProof.Rows.firstMet f n) (f n) = if (PyProof.Rows.firstMet f n).any (· == f n) then PyProof.Rows.firstMet f n else PyProof.Rows.firstMet f n ++ [f n] := rfl
    rw [hd] at h ⊢
    cases ha : (PyProof.Rows.firstMet f n).any (· == f n) with
    | true =>
      rw [ha, if_pos rfl] at h
      omega
    | false =>
      rw [ha, if_neg Bool.false_ne_true, List.length_append, List.length_singleton] at h
      obtain ⟨e1, e2⟩ := uniq_le f n (by omega)
      rw [if_neg Bool.false_ne_true, List.range_succ, List.map_append, e1]
      refine ⟨rfl, List.nodup_append.mpr ⟨e2, by simp, fun x hx y hy => ?_⟩⟩
      rw [e1] at ha
      have hy' : y = f n := by simpa using hy
      intro z
      have : (List.map f (List.range n)).any (· == f n) = true := List.any_eq_true.mpr ⟨x, hx, by rw [z, hy']; exact beq_self_eq_true _⟩
      rw [ha] at this
      cases this
theorem uniq_iff (ns : List Int) : uniqN ns = ns.length ↔ ns.Nodup := by
  have e : (List.range ns.length).map (fun i => ns.getD i 0) = ns := by
    apply List.ext_getElem?
    intro i
    by_cases h : i < ns.length
    · simp [h]
    · simp [h]
  constructor
  · intro h
    have q := (uniq_le (fun i => ns.getD i 0) ns.length h).2
    rw [e] at q
    exact q
  · intro h
    unfold uniqN
    rw [RZ.firstMet_nodup h ns.length (Nat.le_refl _), List.take_length]
def tLenSetU (K : PySem.W.Frag) (ta : TE) : TE := fun σ H Q => ta σ H fun x H1 => ∃ (l : Addr) (ns : List Int), x = .ref l ∧ SqL K H1 l (ns.map V.int) ∧ ns.length ≤ 4000 ∧ Q (.int (uniqN ns : Nat)) H1
theorem pe_lenset {X : Cx} {a : Expr} {ta : TE} {p p2 q pos : Pos} (hg : Gl X "len") (hm : X.mg "len" = none) (hg2 : Gl X "set") (hm2 : X.mg "set" = none) (ha : PE X a ta) (hc : X.calm = true := by rfl)
    (na : starEach [a] X.env = (false, eval a X.env) :: starEach [] X.env := by rfl) : PE X (.Call (.Name "len" p) [.Call (.Name "set" p2) [a] [] q] [] pos) (tLenSetU X.K ta) := by
  refine ⟨fun pins s σ H Q I h => Call_ (ld_blt I hg hm boot_len (PyProof.Rows.callWith_builtin1 (PyProof.Rows.args_cons (Call_ (ld_blt I hg2 hm2 boot_set (PyProof.Rows.callWith_type1 (PyProof.Rows.args_cons (thn (ha.run pins s σ H _ I h) fun v s1 hv => PyProof.Rows.args_nil ?_) na) na rfl))) rfl) rfl rfl))⟩
  obtain ⟨x, H1, I1, r1, l, ns, rfl, hq, hl, q1⟩ := hv
  cases r1
  obtain ⟨its, r, pl, hz⟩ := I1.list hq
  have hlen : its.toArray.size = ns.length := by rw [List.size_toArray, ← r.length, List.length_map]
  refine call_set_list (I1.ok.hd hc) pl.isList (by simpa using RZ.intsAre_vals r) (by rw [hlen]; unfold scanBound; omega) fun h' tk hS hk => PyProof.Rows.args_nil ?_
  rw [hlen] at hS
  obtain ⟨o, es, ep, t, ho, hex, hd, _, _, _, hf, hn⟩ := hS
  have I2 : Inv X pins σ H1 { s1 with heap := h', toks := tk } := I1.kept fun b o e => hk b o (Heap.lt_size e) e
  have hu : (PyProof.Rows.firstMet (fun i => ns.getD i 0) ns.length).length ≤ ns.length := PyProof.Rows.firstMet_length_le _ _
  exact call_len_set ho hex hd hf (by rw [hn]; omega) ⟨.int (uniqN ns : Nat), H1, I2.tok _, ⟨_, by rw [hn]; rfl⟩, q1⟩
end G

namespace G
open PySem PySem.Spec PyProof.Rows L2
def toI : PyData → Int | .int i => i | _ => 0
def isPlaces (d : PyData) (m : Int) : Bool := match d with
  | .list ds => ds.all (fun e => isPlace e m) && decide ((ds.map toI).Nodup)
  | _ => false
def isWays (d : PyData) (m : Int) : Bool := match d with
  | .list ds => !ds.isEmpty && isPlaces (.list ds) m
  | _ => false
theorem list_or (d : PyData) : (∃ ds, d = .list ds) ∨ (isTy d "list" = false ∧ ∀ m, isPlaces d m = false) := by
  cases d with
  | list ds => exact .inl ⟨ds, rfl⟩
  | _ => exact .inr ⟨by unfold isTy; dsimp only [tyName]; decide +kernel, fun _ => rfl⟩
theorem isTy_list (ds : List PyData) : isTy (.list ds) "list" = true := by unfold isTy; dsimp only [tyName]; decide +kernel
theorem isTy_tuple (ds : List PyData) : isTy (.tuple ds) "tuple" = true := by unfold isTy; dsimp only [tyName]; decide +kernel
theorem place_int {d : PyData} {m : Int} (h : isPlace d m = true) : ∃ i, d = .int i ∧ 0 ≤ i ∧ i < m := by
  cases d with
  | int i =>
    have h' : (decide (0 ≤ i) && decide (i < m)) = true := h
    rw [Bool.and_eq_true, decide_eq_true_eq, decide_eq_true_eq] at h'
    exact ⟨i, rfl, h'.1, h'.2⟩
  | _ => cases h
theorem dp_ints {K : PySem.W.Frag} {H : Hp} {m : Int} : ∀ {ds : List PyData} {xs : List V}, DpAll K H xs ds → ds.all (fun e => isPlace e m) = true → xs = (ds.map toI).map V.int
  | [], _, .nil, _ => rfl
  | d :: ds, _, .cons h hs, e => by
    rw [List.all_cons, Bool.and_eq_true] at e
    obtain ⟨i, rfl, _⟩ := place_int e.1
    cases h
    rw [dp_ints hs e.2]
    rfl
theorem DpAll.getD {K : PySem.W.Frag} {H : Hp} {vs : List V} {ds : List PyData} {i : Nat} {v : V} {d : PyData} (h : DpAll K H vs ds) (e : vs[i]? = some v) (e2 : ds[i]? = some d) : Dp K H v d := by
  obtain ⟨d', q, r⟩ := DpAll.get h e
  rw [e2] at q
  cases q
  exact r
section
variable {P : Program} {w : World} {K : PySem.W.Frag} {mg : Str → Option Value} {base : Heap}
def spIsPlaces (K : PySem.W.Frag) : Sp := fun vs H Q _ => ∃ (v : V) (d : PyData) (m : Int), vs = [v, .int m] ∧ Dx K H v d ∧ (∀ ds, d = .list ds → ds.length ≤ 1000) ∧ ∀ H', Same H H' → Q (.bl (isPlaces d m)) H'
theorem ok_is_places {f : Addr} {fd : FuncData} (B : Bt mg) (F : Fun K "is_places" "is_places" s_is_places f fd) (C_is_place : Cal P w K mg base 2 "is_place" (spIsPlace K)) : FnOk P w K mg base (L2.CX P w) 3 f fd ["value", "many"] (spIsPlaces K) := by
  refine F.okX sc_is_places (fun vs H Q E h => ?_) (fun cdv A outer s H vs Q E hr h => ?_)
  · obtain ⟨v, d, m, rfl, _⟩ := h
    rfl
  · obtain ⟨v, d, m, rfl, hd, hz, q⟩ := h
    refine ⟨_, (pss_cons (ps_if (pt_not (pt_val (pe_callB call_isi (by rfl) B.isinstance_ (by decide +kernel) (pa_cons (pv 0) (pa_cons (pe_bltn (v := .ty "list") (u := .type "list") (by rfl) B.list_ (by decide +kernel) rfl) pa_nil))))) (pss_one (ps_ret pe_bl)) pss_nil)
      (pss_cons (ps_if (pt_not (pt_val (pe_callB (cr_all rfl) (by rfl) B.all_ (by decide +kernel) (pa_cons (pe_lc (own := [("item", 2)]) (by rfl) sc_is_places.nd (pi_list (pv 0)) (blkOk_by (own := [("item", 2)]) (N := ["value", "many", "item"]) (sc := defScope s_is_places) (by decide +kernel)) (fun _ _ _ _ _ => (pg_name (i := 2) sc_is_places.nd rfl (Or.inl rfl))) (fun _ _ _ _ _ => pts_nil) (fun _ _ _ _ _ => (pe_cal C_is_place hr (by decide) (by rfl) (pa_cons (pv 2) (pa_cons (pv 1) pa_nil))))) pa_nil)))) (pss_one (ps_ret pe_bl)) pss_nil)
      (pss_one (ps_ret (pe_cmpR op_eq (pe_lenset (by rfl) B.len_ (by rfl) B.set_ (pv 0)) (pe_callB call_len_seq (by rfl) B.len_ (by decide +kernel) (pa_cons (pv 0) pa_nil)) (nomark _)))))), ?_⟩
    refine ⟨_, rfl, _, _, _, _, _, rfl, .ty _, hd.ty, kit_ty (kit_list d), _, rfl, ?_⟩
    rcases list_or d with ⟨ds, rfl⟩ | ⟨e1, e2⟩
    · rw [isTy_list]
      obtain ⟨a, xs, rfl, hS, hA⟩ : ∃ a xs, v = .ref a ∧ SqL K H a xs ∧ DpAll K H xs ds := by
        cases hd with
        | of hd =>
          cases hd with
          | lst h1 h2 => exact ⟨_, _, rfl, h1, h2⟩
      have hlen := DpAll.len hA
      have hz' := hz ds rfl
      refine iteF ⟨_, rfl, a, rfl, ⟨_, hS⟩, fun D nD => lc_pure (ds.map fun e => V.bl (isPlace e m)) (by rw [List.length_map, hlen]) hS nD (by omega) (fun i x y H' Q' hx hy sm hQ => ?_) (fun H' sm hD => ?_)⟩
      · rw [List.getElem?_map] at hy
        obtain ⟨e', he, rfl⟩ := Option.map_eq_some_iff.mp hy
        refine ⟨rfl, _, rfl, _, rfl, _, _, _, rfl, .of (dp_mono sm _ _ (DpAll.getD hA hx he)), hQ _ (Same.refl _)⟩
      · refine ⟨D, ds.map (fun e => isPlace e m), rfl, .inl (.inl (by rw [hD, List.map_map]; rfl)), _, rfl, ?_⟩
        have eall : (ds.map (fun e => isPlace e m)).all id = ds.all (fun e => isPlace e m) := by rw [List.all_map]; rfl
        rw [eall]
        cases ha : ds.all (fun e => isPlace e m) with
        | false =>
          refine iteT ?_
          have e2 : isPlaces (.list ds) m = false := by
            show (ds.all (fun e => isPlace e m) && _) = false
            rw [ha, Bool.false_and]
          rw [e2] at q
          exact q _ sm
        | true =>
          have ex := dp_ints hA ha
          subst ex
          refine iteF ⟨_, rfl, a, _, rfl, sm.seq hS, (by rw [List.length_map]; omega), _, rfl, a, _, rfl, .inl (sm.seq hS), rfl, ?_⟩
          have e2 : isPlaces (.list ds) m = decide (V.int (uniqN (ds.map toI) : Nat) = V.int ((((ds.map toI).map V.int).length : Nat) : Int)) := by
            show (ds.all (fun e => isPlace e m) && decide ((ds.map toI).Nodup)) = _
            rw [ha, Bool.true_and]
            have hu := uniq_iff (ds.map toI)
            refine decide_eq_decide.mpr (hu.symm.trans ⟨fun e => ?_, fun e => ?_⟩)
            · rw [e, List.length_map, List.length_map, List.length_map]
            · have e' := V.int.inj e
              rw [List.length_map] at e'
              omega
          rw [e2] at q
          exact q _ sm
    · rw [e1]
      refine iteT ?_
      have q' := q _ (Same.refl _)
      rw [show isPlaces d m = false from e2 m] at q'
      exact q'
def spIsWays (K : PySem.W.Frag) : Sp := fun vs H Q _ => ∃ (v : V) (d : PyData) (m : Int), vs = [v, .int m] ∧ Dx K H v d ∧ (∀ ds, d = .list ds → ds.length ≤ 1000) ∧ ∀ H', Same H H' → Q (.bl (isWays d m)) H'
theorem ok_is_ways {f : Addr} {fd : FuncData} (B : Bt mg) (F : Fun K "is_ways" "is_ways" s_is_ways f fd) (C_is_places : Cal P w K mg base 3 "is_places" (spIsPlaces K)) : FnOk P w K mg base (L2.CX P w) 4 f fd ["value", "many"] (spIsWays K) := by
  refine F.okX sc_is_ways (fun vs H Q E h => ?_) (fun cdv A outer s H vs Q E hr h => ?_)
  · obtain ⟨v, d, m, rfl, _⟩ := h
    rfl
  · obtain ⟨v, d, m, rfl, hd, hz, q⟩ := h
    refine ⟨_, (pss_one (ps_ret (pe_and (pe_cal C_is_places hr (by decide) (by rfl) (pa_cons (pv 0) (pa_cons (pv 1) pa_nil))) (pe_one (pe_cmpR op_gt (pe_callB call_len_seq (by rfl) B.len_ (by decide +kernel) (pa_cons (pv 0) pa_nil)) pe_int (nomark _)))))), ?_⟩
    refine ⟨_, rfl, _, rfl, _, _, _, rfl, hd, hz, fun H' sm => ⟨_, rfl, ?_⟩⟩
    cases hb : isPlaces d m with
    | false =>
      refine iteF ?_
      have e : isWays d m = false := by
        cases d with
        | list ds =>
          show (!ds.isEmpty && isPlaces (.list ds) m) = false
          rw [hb, Bool.and_false]
        | _ => rfl
      rw [e] at q
      exact q _ sm
    | true =>
      rcases list_or d with ⟨ds, rfl⟩ | ⟨_, e2⟩
      · obtain ⟨a, xs, rfl, hS, hA⟩ : ∃ a xs, v = .ref a ∧ SqL K H a xs ∧ DpAll K H xs ds := by
          cases hd with
          | of hd =>
            cases hd with
            | lst h1 h2 => exact ⟨_, _, rfl, h1, h2⟩
        have hlen := DpAll.len hA
        refine iteT ⟨_, rfl, _, _, rfl, .inl (sm.seq hS), _, _, rfl, rfl, ?_⟩
        have e : isWays (.list ds) m = decide ((xs.length : Int) > 0) := by
          show (!ds.isEmpty && isPlaces (.list ds) m) = _
          rw [hb, Bool.and_true, hlen]
          cases ds with
          | nil => rfl
          | cons x l =>
            rw [decide_eq_true (by show (0 : Int) < ((x :: l).length : Int); rw [List.length_cons]; omega)]
            rfl
        rw [e] at q
        exact q _ sm
      · rw [show isPlaces d m = false from e2 m] at hb
        cases hb
end
end G

namespace G
open PySem PySem.Spec PyProof.Rows L2
def isRow (d : PyData) (m : Int) : Bool := match d with
  | .tuple [p, n, ws] => (isNum n && decide (0 ≤ toI n)) && (isPlayer p && isWays ws m)
  | _ => false
theorem tuple_or (d : PyData) : (∃ ds, d = .tuple ds) ∨ (isTy d "tuple" = false ∧ ∀ m, isRow d m = false) := by
  cases d with
  | tuple ds => exact .inl ⟨ds, rfl⟩
  | _ => exact .inr ⟨by unfold isTy; dsimp only [tyName]; decide +kernel, fun _ => rfl⟩
def szRow (d : PyData) : Prop := ∀ p n ws, d = .tuple [p, n, .list ws] → ws.length ≤ 1000
/-- the first place whose datum is none -/
def fb (p : Nat → PyData → Bool) : List PyData → Nat → Option Nat
  | [], _ => none
  | d :: ds, k => if p k d = true then fb p ds (k + 1) else some k
theorem fb_some {p : Nat → PyData → Bool} : ∀ {ds : List PyData} {k i : Nat} {d : PyData}, (∀ j e, j < i → ds[j]? = some e → p (k + j) e = true) → ds[i]? = some d → p (k + i) d = false → fb p ds k = some (k + i)
  | [], _, _, _, _, e, _ => by cases e
  | d0 :: ds, k, 0, d, _, e, h => by
    cases e
    unfold fb
    rw [if_neg (by rw [show p k d0 = false from h]; exact Bool.false_ne_true)]
    rfl
  | d0 :: ds, k, i + 1, d, hj, e, h => by
    have h0 : p k d0 = true := hj 0 d0 (Nat.succ_pos _) rfl
    unfold fb
    rw [if_pos h0, fb_some (k := k + 1) (i := i) (d := d) (fun j e' hlt he => by
      have := hj (j + 1) e' (Nat.succ_lt_succ hlt) he
      rw [show k + 1 + j = k + (j + 1) by omega]
      exact this) e (by rw [show k + 1 + i = k + (i + 1) by omega]; exact h)]
    rw [show k + 1 + i = k + (i + 1) by omega]
theorem fb_none {p : Nat → PyData → Bool} : ∀ {ds : List PyData} {k : Nat}, (∀ j e, ds[j]? = some e → p (k + j) e = true) → fb p ds k = none
  | [], _, _ => rfl
  | d0 :: ds, k, h => by
    unfold fb
    rw [if_pos (show p k d0 = true from h 0 d0 rfl)]
    exact fb_none fun j e he => by
      rw [show k + 1 + j = k + (j + 1) by omega]
      exact h (j + 1) e he
theorem fb_all {p : Nat → PyData → Bool} : ∀ {ds : List PyData} {k : Nat}, fb p ds k = none → ∀ j e, ds[j]? = some e → p (k + j) e = true
  | [], _, _, _, _, he => by cases he
  | d0 :: ds, k, h, j, e, he => by
    unfold fb at h
    cases hp : p k d0 with
    | false =>
      rw [hp, if_neg Bool.false_ne_true] at h
      cases h
    | true =>
      rw [hp, if_pos rfl] at h
      cases j with
      | zero =>
        cases he
        exact hp
      | succ j =>
        have := fb_all h j e he
        rw [show k + (j + 1) = k + 1 + j by omega]
        exact this
def gameErr (d : PyData) : Option (Option Nat) := match d with
  | .list ds => if 40 < ds.length then some none else (fb (fun _ r => isRow r ds.length) ds 0).map some
  | _ => some none
def szGame (d : PyData) : Prop := ∀ ds, d = .list ds → ds.length ≤ 1000 ∧ ∀ r ∈ ds, szRow r
def atV : Option Nat → V
  | none => .non
  | some i => .int (i : Int)
theorem list_orG (d : PyData) : (∃ ds, d = .list ds) ∨ (isTy d "list" = false ∧ gameErr d = some none) := by
  cases d with
  | list ds => exact .inl ⟨ds, rfl⟩
  | _ => exact .inr ⟨by unfold isTy; dsimp only [tyName]; decide +kernel, rfl⟩
/-- an own exception class without an __init__ of its own -/
structure PlainX (K : PySem.W.Frag) (mg : Str → Option Value) (x : Str) (C : Addr) : Prop where
  gC : mg x = some (.ref C)
  xC : PySem.W.excIn K C [.type "ValueError", .type "Exception", .type "BaseException", .type "object"] "ValueError.__new__" = true
  kC : PySem.W.keepIn K (.ref C) = true
  exC : PySem.W.subIn K (.ref C) (.type "BaseException") = some true
  tyC : PySem.W.typeIn K (.ref C) = some (.type "type")
section
variable {P : Program} {w : World} {K : PySem.W.Frag} {mg : Str → Option Value} {base : Heap}
def spIsRow (K : PySem.W.Frag) : Sp := fun vs H Q _ => ∃ (v : V) (d : PyData) (m : Int), vs = [v, .int m] ∧ Dx K H v d ∧ szRow d ∧ ∀ H', Same H H' → Q (.bl (isRow d m)) H'
theorem ok_is_row {f : Addr} {fd : FuncData} (B : Bt mg) (F : Fun K "is_row" "is_row" s_is_row f fd) (C_is_number : Cal P w K mg base 1 "is_number" (spIsNumber K)) (C_is_player : Cal P w K mg base 2 "is_player" (spIsPlayer K)) (C_is_ways : Cal P w K mg base 4 "is_ways" (spIsWays K)) :
    FnOk P w K mg base (L2.CX P w) 5 f fd ["value", "many"] (spIsRow K) := by
  refine F.okX sc_is_row (fun vs H Q E h => ?_) (fun cdv A outer s H vs Q E hr h => ?_)
  · obtain ⟨v, d, m, rfl, _⟩ := h
    rfl
  · obtain ⟨v, d, m, rfl, hd, hz, q⟩ := h
    refine ⟨_, (pss_cons (ps_if (PW.pt (pw_or (pt_not (pt_val (pe_callB call_isi (by rfl) B.isinstance_ (by decide +kernel) (pa_cons (pv 0) (pa_cons (pe_bltn (v := .ty "tuple") (u := .type "tuple") (by rfl) B.tuple_ (by decide +kernel) rfl) pa_nil))))) (pw_or1 (pt_cmpR op_ne (pe_callB call_len_seq (by rfl) B.len_ (by decide +kernel) (pa_cons (pv 0) pa_nil)) pe_int (nomark _))))) (pss_one (ps_ret pe_bl)) pss_nil)
      (pss_cons (ps_asg (pv 0) (pg_tup (by rfl) (pgs_cons (pg_name (i := 2) sc_is_row.nd rfl (Or.inl rfl)) (pgs_cons (pg_name (i := 3) sc_is_row.nd rfl (Or.inl rfl)) (pgs_cons (pg_name (i := 4) sc_is_row.nd rfl (Or.inl rfl)) pgs_nil)))))
      (pss_cons (ps_if (PW.pt (pw_or (pt_not (pt_val (pe_cal C_is_number hr (by decide) (by rfl) (pa_cons (pv 3) pa_nil)))) (pw_or1 (pt_cmpR op_lt (pv 3) pe_int (nomark _))))) (pss_one (ps_ret pe_bl)) pss_nil)
      (pss_one (ps_ret (pe_and (pe_cal C_is_player hr (by decide) (by rfl) (pa_cons (pv 2) pa_nil)) (pe_one (pe_cal C_is_ways hr (by decide) (by rfl) (pa_cons (pv 4) (pa_cons (pv 1) pa_nil)))))))))), ?_⟩
    refine ⟨_, rfl, _, _, _, _, _, rfl, .ty _, hd.ty, kit_ty (kit_tuple d), _, rfl, ?_⟩
    rcases tuple_or d with ⟨ds, rfl⟩ | ⟨e1, e2⟩
    · rw [isTy_tuple]
      obtain ⟨a, xs, rfl, hS, hA⟩ : ∃ a xs, v = .ref a ∧ SqT K H a xs ∧ DpAll K H xs ds := by
        cases hd with
        | of hd =>
          cases hd with
          | tup h1 h2 => exact ⟨_, _, rfl, h1, h2⟩
      have hlen := DpAll.len hA
      refine iteF ⟨_, rfl, _, _, rfl, .inr hS, rfl, _, rfl, ite2 (fun e => ?_) (fun e => ?_)⟩
      · have e0 : ds.length ≠ 3 := fun z => by
          rw [Bool.not_eq_true', decide_eq_false_iff_not] at e
          exact e (by rw [hlen, z]; rfl)
        have e3 : isRow (.tuple ds) m = false := by
          match ds, e0 with
          | [], _ => rfl
          | [_], _ => rfl
          | [_, _], _ => rfl
          | [_, _, _], h => exact absurd rfl h
          | _ :: _ :: _ :: _ :: _, _ => rfl
        have q' := q _ (Same.refl _)
        rw [e3] at q'
        exact q'
      · have e0 : (xs.length : Int) = 3 := by
          rw [Bool.not_eq_true', decide_eq_false_iff_not, Classical.not_not] at e
          exact V.int.inj e
        obtain ⟨p, n, ws, rfl⟩ : ∃ p n ws, ds = [p, n, ws] := by
          match ds, (show ds.length = 3 by omega) with
          | [p, n, ws], _ => exact ⟨p, n, ws, rfl⟩
        cases hA with
        | cons hp hA =>
        cases hA with
        | cons hn hA =>
        cases hA with
        | cons hw hA =>
        cases hA
        rename_i x0 x1 x2
        refine ⟨_, rfl, a, _, rfl, hS, rfl, _, _, rfl, _, _, rfl, _, _, rfl, rfl, ?_⟩
        refine ⟨_, rfl, _, _, rfl, .of hn, _, rfl, ?_⟩
        cases en : isNum n with
        | false =>
          refine iteT (iteT ?_)
          have e3 : isRow (.tuple [p, n, ws]) m = false := by
            show ((isNum n && _) && _) = false
            rw [en, Bool.false_and, Bool.false_and]
          have q' := q _ (Same.refl _)
          rw [e3] at q'
          exact q'
        | true =>
          obtain ⟨i, rfl, rfl⟩ := num_int (.of hn) en
          refine iteF ⟨_, rfl, i, 0, rfl, rfl, _, rfl, ite2 (fun e => ?_) (fun e => ?_)⟩
          · have h0 : i < 0 := of_decide_eq_true e
            have e3 : isRow (.tuple [p, .int i, ws]) m = false := by
              show ((true && decide (0 ≤ i)) && _) = false
              rw [decide_eq_false (by omega), Bool.and_false, Bool.false_and]
            have q' := q _ (Same.refl _)
            rw [e3] at q'
            exact q'
          · have h0 : 0 ≤ i := by
              rcases Int.lt_or_le i 0 with h | h
              · exact absurd (decide_eq_true h) e
              · exact h
            refine ⟨_, rfl, _, _, rfl, .of hp, fun H' sm => ⟨_, rfl, ?_⟩⟩
            have e3 : isRow (.tuple [p, .int i, ws]) m = (isPlayer p && isWays ws m) := by
              show ((true && decide (0 ≤ i)) && _) = _
              rw [decide_eq_true h0, Bool.true_and, Bool.true_and]
            rw [e3] at q
            cases ep : isPlayer p with
            | false =>
              rw [ep, Bool.false_and] at q
              exact iteF (q _ sm)
            | true =>
              rw [ep, Bool.true_and] at q
              exact iteT ⟨_, rfl, _, rfl, _, _, _, rfl, .of (dp_mono sm _ _ hw), fun ds' e' => hz p (.int i) ds' (by rw [e']), fun H'' sm' => q _ (sm.trans sm')⟩
    · rw [e1]
      refine iteT (iteT ?_)
      have q' := q _ (Same.refl _)
      rw [e2] at q'
      exact q'
def spCheckGame (K : PySem.W.Frag) (BG : Addr) : Sp := fun vs H Q E => ∃ (v : V) (d : PyData), vs = [v] ∧ Dx K H v d ∧ szGame d ∧ (gameErr d = none → ∀ H', Same H H' → Q .non H') ∧
  ∀ e, gameErr d = some e → ∀ H' dd, Same H H' → H dd = none → H' dd = some (.xd [(("at" : Str), atV e)]) → E (.ref BG) (some dd) H'
theorem ok_check_game {f BG fG : Addr} {fd : FuncData} {tk : Tok} (B : Bt mg) (T : PySem.BadX.BadTxt P K mg "BadGame" "BadGame.__init__" "no game (at: " ")" BG fG) (M_MOST_PLACES : mg "MOST_PLACES" = some (.int 40 tk)) (F : Fun K "check_game" "check_game" s_check_game f fd) (C_is_row : Cal P w K mg base 5 "is_row" (spIsRow K)) :
    FnOk P w K mg base (L2.CX P w) 6 f fd ["game"] (spCheckGame K BG) := by
  refine F.okX sc_check_game (fun vs H Q E h => ?_) (fun cdv A outer s H vs Q E hr h => ?_)
  · obtain ⟨v, d, rfl, _⟩ := h
    rfl
  · obtain ⟨v, d, rfl, hd, hz, q, qe⟩ := h
    refine ⟨_, (pss_cons (ps_if (PW.pt (pw_or (pt_not (pt_val (pe_callB call_isi (by rfl) B.isinstance_ (by decide +kernel) (pa_cons (pv 0) (pa_cons (pe_bltn (v := .ty "list") (u := .type "list") (by rfl) B.list_ (by decide +kernel) rfl) pa_nil))))) (pw_or1 (pt_cmpR op_gt (pe_callB call_len_seq (by rfl) B.len_ (by decide +kernel) (pa_cons (pv 0) pa_nil)) (pe_glob (v := .int 40) (by rfl) M_MOST_PLACES ⟨_, rfl⟩) (nomark _))))) (pss_one (ps_raiseBad rfl T hr (by decide) (takes_of rfl rfl rfl rfl) (pa_cons pe_non pa_nil))) pss_nil)
      (pss_one (ps_for (passes_of rfl) rfl (pi_enum (by rfl) B.enumerate_ (pa_cons (pv 0) pa_nil)) (pg_tup (by rfl) (pgs_cons (pg_name (i := 1) sc_check_game.nd rfl (Or.inl rfl)) (pgs_cons (pg_name (i := 2) sc_check_game.nd rfl (Or.inl rfl)) pgs_nil))) (pss_one (ps_if (pt_not (pt_val (pe_cal C_is_row hr (by decide) (by rfl) (pa_cons (pv 2) (pa_cons (pe_callB call_len_seq (by rfl) B.len_ (by decide +kernel) (pa_cons (pv 0) pa_nil)) pa_nil))))) (pss_one (ps_raiseBad rfl T hr (by decide) (takes_of rfl rfl rfl rfl) (pa_cons (pv 1) pa_nil))) pss_nil))))), ?_⟩
    refine ⟨_, rfl, _, _, _, _, _, rfl, .ty _, hd.ty, kit_ty (kit_list d), _, rfl, ?_⟩
    rcases list_orG d with ⟨ds, rfl⟩ | ⟨e1, e2⟩
    · rw [isTy_list]
      obtain ⟨a, xs, rfl, hS, hA⟩ : ∃ a xs, v = .ref a ∧ SqL K H a xs ∧ DpAll K H xs ds := by
        cases hd with
        | of hd =>
          cases hd with
          | lst h1 h2 => exact ⟨_, _, rfl, h1, h2⟩
      have hlen := DpAll.len hA
      obtain ⟨hz1, hz2⟩ := hz ds rfl
      refine iteF ⟨_, rfl, _, _, rfl, .inl hS, _, _, rfl, rfl, _, rfl, ite2 (fun e => ?_) (fun e => ?_)⟩
      · have e0 : (40 : Int) < (xs.length : Int) := of_decide_eq_true e
        have e2 : gameErr (.list ds) = some none := if_pos (by omega)
        exact ⟨_, rfl, .inl rfl, fun dd nd => qe none e2 _ dd (same_upd nd) nd upd_same⟩
      · have e0 : ds.length ≤ 40 := by
          have := of_decide_eq_false (eq_false_of_ne_true e)
          omega
        have e2 : gameErr (.list ds) = (fb (fun _ r => isRow r ds.length) ds 0).map some := if_neg (by omega)
        refine ⟨_, rfl, a, _, rfl, hS, for_enum (K := K) (a := a) (xs := xs) (fun i σ H' => ∃ y1 y2, σ = [some (.ref a), y1, y2] ∧ Same H H' ∧ ∀ j r, j < i → ds[j]? = some r → isRow r ds.length = true)
          ⟨none, none, rfl, Same.refl _, fun j r hj => absurd hj (Nat.not_lt_zero _)⟩ (fun i σ H' _ ⟨_, _, _, sm, _⟩ => sm.seq hS) (fun i x T' σ H' hi ⟨y1, y2, es, sm, ok⟩ nT => ?_) (fun σ H' ⟨y1, y2, es, sm, ok⟩ => ?_)⟩
        · subst es
          obtain ⟨r, hr', hdr⟩ := DpAll.get hA hi
          have sm1 : Same H (upd H' T' (.tup [.int (i : Nat), x])) := sm.trans (same_upd nT)
          refine ⟨T', _, rfl, .inl (.inl upd_same), rfl, _, _, rfl, _, _, rfl, rfl, ?_⟩
          refine ⟨_, rfl, _, rfl, _, _, rfl, .inl (sm1.seq hS), _, _, _, rfl, .of (dp_mono sm1 _ _ hdr), hz2 r (List.mem_of_getElem? hr'), fun H2 sm2 => ⟨_, rfl, ?_⟩⟩
          rw [hlen]
          cases hrow : isRow r ds.length with
          | true =>
            refine iteF ⟨_, _, rfl, sm1.trans sm2, fun j r' hj hr2 => ?_⟩
            by_cases hji : j < i
            · exact ok j r' hji hr2
            · obtain rfl : j = i := by omega
              rw [hr'] at hr2
              cases hr2
              exact hrow
          | false =>
            have hlt : i < ds.length := (List.getElem?_eq_some_iff.mp hr').1
            have e3 : gameErr (.list ds) = some (some i) := by
              rw [e2, fb_some (k := 0) (i := i) (d := r) (fun j e' hj he => ok j e' hj he) hr' hrow, Nat.zero_add]
              rfl
            refine iteT ⟨_, rfl, _, rfl, .inr ⟨i, rfl, by omega⟩, fun dd nd => ?_⟩
            have sm3 := sm1.trans sm2
            exact qe (some i) e3 _ dd (sm3.trans (same_upd nd)) (Same.free sm3 nd) upd_same
        · subst es
          rw [hlen] at ok
          refine q ?_ _ sm
          rw [e2, fb_none (fun j e' he => ok j e' (List.getElem?_eq_some_iff.mp he).1 he)]
          rfl
    · rw [e1]
      exact iteT (iteT ⟨_, rfl, .inl rfl, fun dd nd => qe none e2 _ dd (same_upd nd) nd upd_same⟩)
end
end G

namespace G
open PySem PySem.Spec PyProof.Rows L2
/-! ### games as plain rows -/
structure Row where
  p : Int
  n : Int
  ws : List Int
  deriving DecidableEq
def rowD (r : Row) : PyData := .tuple [.int r.p, .int r.n, .list (r.ws.map .int)]
def gameD (g : List Row) : PyData := .list (g.map rowD)
def intsD (ns : List Int) : PyData := .list (ns.map .int)
def ValidR (r : Row) (m : Int) : Prop := (r.p = 0 ∨ r.p = 1) ∧ 0 ≤ r.n ∧ r.ws ≠ [] ∧ (∀ x ∈ r.ws, 0 ≤ x ∧ x < m) ∧ r.ws.Nodup
def ValidG (g : List Row) : Prop := g.length ≤ 40 ∧ ∀ r ∈ g, ValidR r (g.length : Int)
theorem ints_of_places {m : Int} : ∀ {ds : List PyData}, ds.all (fun e => isPlace e m) = true → ds = (ds.map toI).map .int
  | [], _ => rfl
  | d :: ds, e => by
    rw [List.all_cons, Bool.and_eq_true] at e
    obtain ⟨i, rfl, _⟩ := place_int e.1
    have ih := ints_of_places e.2
    show _ = PyData.int i :: (ds.map toI).map .int
    rw [← ih]
theorem all_ints {m : Int} (ns : List Int) : (ns.map PyData.int).all (fun e => isPlace e m) = true ↔ ∀ x ∈ ns, 0 ≤ x ∧ x < m := by
  rw [List.all_map, List.all_eq_true]
  refine ⟨fun h x hx => ?_, fun h x hx => ?_⟩
  · have := h x hx
    have h' : (decide (0 ≤ x) && decide (x < m)) = true := this
    rwa [Bool.and_eq_true, decide_eq_true_eq, decide_eq_true_eq] at h'
  · show (decide (0 ≤ x) && decide (x < m)) = true
    obtain ⟨h1, h2⟩ := h x hx
    rw [decide_eq_true h1, decide_eq_true h2]; rfl
theorem map_toI (ns : List Int) : (ns.map PyData.int).map toI = ns := by
  rw [List.map_map]
  exact List.map_id _
theorem isRow_row (r : Row) (m : Int) : isRow (rowD r) m = true ↔ ValidR r m := by
  show ((true && decide (0 ≤ r.n)) && ((decide (r.p = 0) || decide (r.p = 1)) && (!(r.ws.map PyData.int).isEmpty && ((r.ws.map PyData.int).all (fun e => isPlace e m) && decide (((r.ws.map PyData.int).map toI).Nodup))))) = true ↔ _
  rw [map_toI, Bool.true_and, Bool.and_eq_true, Bool.and_eq_true, Bool.or_eq_true, Bool.and_eq_true, Bool.and_eq_true, all_ints, decide_eq_true_eq, decide_eq_true_eq, decide_eq_true_eq, decide_eq_true_eq]
  have e1 : (!(r.ws.map PyData.int).isEmpty) = true ↔ r.ws ≠ [] := by
    cases r.ws <;> simp
  rw [e1]
  unfold ValidR
  constructor
  · rintro ⟨a, b, c, d, e⟩; exact ⟨b, a, c, d, e⟩
  · rintro ⟨a, b, c, d, e⟩; exact ⟨b, a, c, d, e⟩
theorem row_of {d : PyData} {m : Int} (h : isRow d m = true) : ∃ r, d = rowD r ∧ ValidR r m := by
  match d, h with
  | .tuple [p, n, ws], h =>
    have h0 := h
    have h' : ((isNum n && decide (0 ≤ toI n)) && (isPlayer p && isWays ws m)) = true := h
    rw [Bool.and_eq_true, Bool.and_eq_true, Bool.and_eq_true] at h'
    obtain ⟨⟨h1, _⟩, h3, h4⟩ := h'
    match n, h1 with
    | .int n, _ =>
      match p, h3 with
      | .int p, _ =>
        match ws, h4 with
        | .list ds, h4 =>
          have h5 : (!ds.isEmpty && (ds.all (fun e => isPlace e m) && decide ((ds.map toI).Nodup))) = true := h4
          rw [Bool.and_eq_true, Bool.and_eq_true] at h5
          have e : PyData.tuple [.int p, .int n, .list ds] = rowD ⟨p, n, ds.map toI⟩ := by
            unfold rowD
            rw [← ints_of_places h5.2.1]
          rw [e] at h0 ⊢
          exact ⟨_, rfl, (isRow_row _ _).mp h0⟩
theorem game_of {d : PyData} (h : gameErr d = none) : ∃ g, d = gameD g ∧ ValidG g := by
  match d, h with
  | .list ds, h =>
    have h' : (if 40 < ds.length then some none else (fb (fun _ r => isRow r ds.length) ds 0).map some) = none := h
    by_cases hl : 40 < ds.length
    · rw [if_pos hl] at h'
      cases h'
    · rw [if_neg hl] at h'
      have h2 : fb (fun _ r => isRow r ds.length) ds 0 = none := by
        cases e : fb (fun _ r => isRow r ds.length) ds 0 with
        | none => rfl
        | some x =>
          rw [e] at h'
          cases h'
      have h3 := fb_all h2
      have key : ∀ (es : List PyData), (∀ e ∈ es, isRow e (ds.length : Int) = true) → ∃ g : List Row, es = g.map rowD ∧ ∀ r ∈ g, ValidR r (ds.length : Int) := by
        intro es
        induction es with
        | nil => exact fun _ => ⟨[], rfl, fun r hr => by cases hr⟩
        | cons e es ih =>
          intro he
          obtain ⟨r, hr, vr⟩ := row_of (he e List.mem_cons_self)
          obtain ⟨g, hg, vg⟩ := ih fun e' he' => he e' (List.mem_cons_of_mem _ he')
          refine ⟨r :: g, by rw [hr, hg]; rfl, fun r' hr' => ?_⟩
          rcases List.mem_cons.mp hr' with z | z
          · rw [z]; exact vr
          · exact vg r' z
      obtain ⟨g, hg, vg⟩ := key ds fun e he => by
        obtain ⟨j, hj⟩ := List.mem_iff_getElem?.mp he
        exact h3 j e hj
      have hlen : ds.length = g.length := by rw [hg, List.length_map]
      refine ⟨g, by rw [hg]; rfl, by omega, fun r hr => by rw [← hlen]; exact vg r hr⟩
theorem gameErr_valid {g : List Row} (h : ValidG g) : gameErr (gameD g) = none := by
  show (if 40 < (g.map rowD).length then some none else (fb (fun _ r => isRow r ((g.map rowD).length : Int)) (g.map rowD) 0).map some) = none
  rw [List.length_map, if_neg (by have := h.1; omega), fb_none (fun j e he => ?_)]
  · rfl
  · rw [List.getElem?_map] at he
    obtain ⟨r, hr, rfl⟩ := Option.map_eq_some_iff.mp he
    exact (isRow_row _ _).mpr (h.2 r (List.mem_of_getElem? hr))
theorem szGame_game {g : List Row} (h : ValidG g) (hw : ∀ r ∈ g, r.ws.length ≤ 1000) : szGame (gameD g) := fun ds e => by
  have e' : g.map rowD = ds := PyData.list.inj e
  subst e'
  refine ⟨by rw [List.length_map]; have := h.1; omega, fun r hr p n ws er => ?_⟩
  obtain ⟨r0, hr0, rfl⟩ := List.mem_map.mp hr
  have e2 := PyData.tuple.inj er
  have e3 := PyData.list.inj (List.cons.inj (List.cons.inj (List.cons.inj e2).2).2).1
  rw [← e3, List.length_map]
  exact hw r0 hr0
theorem pigeon : ∀ (n : Nat) (l : List Int), l.Nodup → (∀ x ∈ l, 0 ≤ x ∧ x < (n : Int)) → l.length ≤ n
  | 0, [], _, _ => Nat.le_refl _
  | 0, x :: _, _, h => by
    have := h x List.mem_cons_self
    omega
  | n + 1, l, hN, h => by
    have hN' : (l.erase (n : Int)).Nodup := hN.erase _
    have h' : ∀ x ∈ l.erase (n : Int), 0 ≤ x ∧ x < (n : Int) := fun x hx => by
      obtain ⟨h1, h2⟩ := (hN.mem_erase_iff).mp hx
      have := h x h2
      exact ⟨this.1, by omega⟩
    have ih := pigeon n _ hN' h'
    have hl : l.length ≤ (l.erase (n : Int)).length + 1 := by
      rw [List.length_erase]
      split <;> omega
    omega
theorem ValidR.len {r : Row} {m : Nat} (h : ValidR r (m : Int)) : r.ws.length ≤ m := pigeon m r.ws h.2.2.2.2 h.2.2.2.1
theorem ValidG.sz {g : List Row} (h : ValidG g) : szGame (gameD g) := szGame_game h fun r hr => Nat.le_trans (h.2 r hr).len (by have := h.1; omega)
/-! ### reading a game -/
theorem dpa_ints {K : PySem.W.Frag} {H : Hp} : ∀ {ns : List Int} {xs : List V}, DpAll K H xs (ns.map .int) → xs = ns.map V.int
  | [], _, .nil => rfl
  | n :: ns, _, .cons h hs => by
    cases h
    rw [dpa_ints hs]
    rfl
theorem dpa_ints' {K : PySem.W.Frag} {H : Hp} : ∀ (ns : List Int), DpAll K H (ns.map V.int) (ns.map .int)
  | [] => .nil
  | n :: ns => .cons (.int n) (dpa_ints' ns)
theorem dp_intsD {K : PySem.W.Frag} {H : Hp} {v : V} {ns : List Int} (h : Dp K H v (intsD ns)) : ∃ a, v = .ref a ∧ SqL K H a (ns.map V.int) := by
  cases h with
  | lst h1 h2 =>
    have := dpa_ints h2
    subst this
    exact ⟨_, rfl, h1⟩
theorem dp_row {K : PySem.W.Frag} {H : Hp} {v : V} {r : Row} (h : Dp K H v (rowD r)) : ∃ t w, v = .ref t ∧ SqT K H t [.int r.p, .int r.n, .ref w] ∧ SqL K H w (r.ws.map V.int) := by
  cases h with
  | tup h1 h2 =>
    cases h2 with
    | cons a h2 =>
    cases h2 with
    | cons b h2 =>
    cases h2 with
    | cons c h2 =>
    cases h2
    cases a
    cases b
    obtain ⟨w, rfl, hw⟩ := dp_intsD c
    exact ⟨_, w, rfl, h1, hw⟩
theorem dp_game {K : PySem.W.Frag} {H : Hp} {v : V} {g : List Row} (h : Dp K H v (gameD g)) : ∃ a xs, v = .ref a ∧ SqL K H a xs ∧ xs.length = g.length ∧ ∀ (i : Nat) (r : Row), g[i]? = some r → ∃ t w, xs[i]? = some (.ref t) ∧ SqT K H t [.int r.p, .int r.n, .ref w] ∧ SqL K H w (r.ws.map V.int) := by
  cases h with
  | lst h1 h2 =>
    rename_i a xs
    have hl := DpAll.len h2
    rw [List.length_map] at hl
    refine ⟨a, xs, rfl, h1, hl, fun i r hr => ?_⟩
    have hlt : i < xs.length := by rw [hl]; exact (List.getElem?_eq_some_iff.mp hr).1
    have hx : xs[i]? = some xs[i] := List.getElem?_eq_getElem hlt
    have hd := DpAll.getD h2 hx (d := rowD r) (by rw [List.getElem?_map, hr]; rfl)
    obtain ⟨t, w, e, p⟩ := dp_row hd
    exact ⟨t, w, by rw [hx, e], p⟩
theorem inV_int (x : Int) (ns : List Int) : inV (.int x) (ns.map V.int) = decide (x ∈ ns) := by
  unfold inV
  rw [List.any_map]
  show (ns.any fun y => y == x) = _
  rw [Bool.eq_iff_iff, List.any_eq_true, decide_eq_true_eq]
  constructor
  · rintro ⟨y, hy, e⟩
    rw [beq_iff_eq] at e
    rw [← e]; exact hy
  · intro h
    exact ⟨x, h, beq_self_eq_true _⟩
theorem flat_ints (ns : List Int) : (ns.map V.int).all flatV = true := by
  rw [List.all_map]
  exact List.all_eq_true.mpr fun _ _ => rfl
end G

namespace G
open PySem PySem.Spec PyProof.Rows L2
/-! ### rules within a comprehension's block -/
section
variable {X : Cx} {K : PySem.W.Frag}
theorem kr_ix_list (h : X.K = K) : IxR X (rIxL K) := h ▸ ix_list
theorem kr_ix_tup (h : X.K = K) : IxR X (rIxT K) := h ▸ ix_tup
theorem kr_op_in_seq (h : X.K = K) : OpR X (compareOp .In) (rIn K false) := h ▸ op_in_seq
theorem kr_op_notIn_seq (h : X.K = K) : OpR X (compareOp .NotIn) (rIn K true) := h ▸ op_notIn_seq
theorem kr_call_isi (h : X.K = K) : CallR X (.builtin "isinstance") (rIsi K) := h ▸ call_isi
end
def numAt (g : List Row) (x : Int) : Int := ((g[x.toNat]?).map Row.n).getD 0
def maxL : List Int → Int
  | [] => 0
  | [x] => x
  | x :: y :: r => if maxL (y :: r) ≤ x then x else maxL (y :: r)
theorem maxL_spec : ∀ {l : List Int}, l ≠ [] → maxL l ∈ l ∧ ∀ y ∈ l, y ≤ maxL l
  | [], h => absurd rfl h
  | [x], _ => ⟨List.mem_cons_self, fun y hy => by
    have : y = x := by simpa using hy
    rw [this]; exact Int.le_refl _⟩
  | x :: y :: r, _ => by
    obtain ⟨h1, h2⟩ := maxL_spec (l := y :: r) (by simp)
    show (if maxL (y :: r) ≤ x then x else maxL (y :: r)) ∈ x :: y :: r ∧ _
    have e : maxL (x :: y :: r) = if maxL (y :: r) ≤ x then x else maxL (y :: r) := rfl
    rw [e]
    by_cases hc : maxL (y :: r) ≤ x
    · rw [if_pos hc]
      refine ⟨List.mem_cons_self, fun z hz => ?_⟩
      rcases List.mem_cons.mp hz with q | q
      · rw [q]; exact Int.le_refl _
      · exact Int.le_trans (h2 z q) hc
    · rw [if_neg hc]
      refine ⟨List.mem_cons_of_mem _ h1, fun z hz => ?_⟩
      rcases List.mem_cons.mp hz with q | q
      · rw [q]; omega
      · exact h2 z q
theorem maxL_eq {l : List Int} {m : Int} (h1 : m ∈ l) (h2 : ∀ y ∈ l, y ≤ m) : m = maxL l := by
  obtain ⟨a, b⟩ := maxL_spec (l := l) (fun e => by rw [e] at h1; cases h1)
  exact Int.le_antisymm (b m h1) (h2 _ a)
theorem nodup_snoc {l : List Int} {x : Int} (h : l.Nodup) (hx : x ∉ l) : (l ++ [x]).Nodup :=
  List.nodup_append.mpr ⟨h, by simp, fun a ha b hb e => hx (by
    have : b = x := by simpa using hb
    rw [← this, ← e]; exact ha)⟩
theorem atI_int {α : Type} {xs : List α} {i : Int} {v : α} (h0 : 0 ≤ i) (h : xs[i.toNat]? = some v) : atI xs i = some v := by
  have e : i = (i.toNat : Int) := by omega
  rw [e]
  exact atI_nat h
theorem cut_to (xs : List V) {j : Nat} (h : j ≤ xs.length) : cutV xs none (some (j : Int)) = xs.take j := by
  unfold cutV
  rw [HT.sIx_none, HT.sIx_nat, List.drop_zero, Nat.sub_zero, Nat.min_eq_left h]
theorem cut_from (xs : List V) {j : Nat} (h : j ≤ xs.length) : cutV xs (some (j : Int)) none = xs.drop j := by
  unfold cutV
  rw [HT.sIx_none, HT.sIx_nat, Nat.min_eq_left h]
  exact List.take_of_length_le (by rw [List.length_drop]; omega)
structure Ads where
  BadGame : Addr
  BadSteps : Addr
  BadPlace : Addr
  BadPlayer : Addr
  TooMany : Addr
  GongError : Addr
section
variable {P : Program} {w : World} {K : PySem.W.Frag} {mg : Str → Option Value} {base : Heap}
/-- a def that may raise, called where its exception leaves the caller too -/
theorem pe_calX {X : Cx} {k j : Nat} {x : Str} {sp : Sp} {E : XK} {p pos : Pos} {e : Expr} {es : List Expr} {t : TA} (c : Cal X.prog X.w X.K X.mg X.base k x sp) (hr : Room j X.A) (hk : k ≤ j) (tk : Takes X (fun cls d _ H => E cls d H)) (hg : Gl X x) (ha : PA X (e :: es) t)
    (hdb : (x == ("__debug__" : Str)) = false := by decide) (he : starEach (e :: es) X.env = (false, eval e X.env) :: starEach es X.env := by rfl) (hpl : (backTo pos (starEach es X.env)).any (·.1) = false := by rfl) :
    PE X (.Call (.Name x p) (e :: es) [] pos) (tCall sp [] E t) := by
  obtain ⟨f, fd, ps, F, hm, kp, b⟩ := c.ex
  exact pe_call F (hr.mono hk) hg hm kp b .nil (passes_call tk fun _ _ _ _ h => h) ha hdb he hpl
/-- what the three walks ask of a game, steps and a place, and how they refuse -/
def EBad (H : Hp) (C : Addr) (e : Option Nat) (E : XK) : Prop := ∀ H' dd, Same H H' → H dd = none → H' dd = some (.xd [(("at" : Str), atV e)]) → E (.ref C) (some dd) H'
theorem EBad.mono {H H1 : Hp} {C : Addr} {e : Option Nat} {E : XK} (h : EBad H C e E) (s : Same H H1) : EBad H1 C e E := fun H' dd s' nd hd => h H' dd (s.trans s') (Same.free s nd) hd
end
theorem numAt_of {g : List Row} {x : Int} {r : Row} (h : g[x.toNat]? = some r) : numAt g x = r.n := by unfold numAt; rw [h]; rfl
end G

namespace G
open PySem PySem.Spec PyProof.Rows L2
abbrev s__law_game : Stmt := topS 45
theorem sc__law_game : FnScope ["_law_script", "_law_most", "_law_number", "_law_many", "_law_wide", "_law_rows", "_law_place", "_law_more", "_law_cell", "_law_row", "_law_way"] ["_law_script", "_law_most"] (defScope s__law_game) := ⟨rfl, rfl, rfl, by decide +kernel, rfl, by decide +kernel, by decide +kernel⟩
/-! ### the law's game, plainly -/
def headOr (ns : List Int) : Int := match ns with | [] => 6 | x :: _ => x
def widesOf (many : Int) : List Int := [2, 3, 5, 10 ^ 9, many]
def manyOf (ns : List Int) (most : Int) : Int := mixed (headOr ns) 1 % most + 1
def wideOf (ns : List Int) (most : Int) : Int := (widesOf (manyOf ns most)).getD (mixed (headOr ns) 1 / 64 % 5).toNat 0
def row0 (num many wide : Int) (k : Nat) : Row := ⟨mixed num (10 + k) % 2, mixed num (10 + k) / 2 % wide, [mixed num (10 + k) / 7 % many]⟩
def rows0 (num many wide : Int) (k : Nat) : List Row := (List.range k).map (row0 num many wide)
def changed (r : Row) (m3 t way : Int) : Row :=
  if t = 0 then ⟨1 - r.p, r.n, r.ws⟩ else if t = 1 then ⟨r.p, m3, r.ws⟩ else if way ∉ r.ws then ⟨r.p, r.n, r.ws ++ [way]⟩ else if 1 < r.ws.length then ⟨r.p, r.n, r.ws.eraseIdx (r.ws.idxOf way)⟩ else r
def cellStep (many wide : Int) (g : List Row) (cell : Int) : List Row :=
  let more := mixed cell 2
  let i := (more % many).toNat
  match g[i]? with
  | none => g
  | some r => g.set i (changed r (mixed more 3 % wide) (more / 1009 % 8) (more / many % many))
def lawGame (ns : List Int) (most : Int) : List Row :=
  ns.foldl (cellStep (manyOf ns most) (wideOf ns most)) (rows0 (mixed (headOr ns) 1) (manyOf ns most) (wideOf ns most) (manyOf ns most).toNat)
theorem mixed_rg (n k : Int) : 0 ≤ mixed n k ∧ mixed n k < 2147483629 := ⟨Int.emod_nonneg _ (by decide), Int.emod_lt_of_pos _ (by decide)⟩
theorem many_rg {ns : List Int} {most : Int} (h : 1 ≤ most) : 1 ≤ manyOf ns most ∧ manyOf ns most ≤ most := by
  unfold manyOf
  have := Int.emod_nonneg (mixed (headOr ns) 1) (show most ≠ 0 by omega)
  have := Int.emod_lt_of_pos (mixed (headOr ns) 1) (show 0 < most by omega)
  omega
theorem wide_pos {ns : List Int} {most : Int} (h : 1 ≤ most) : 1 ≤ wideOf ns most := by
  have hm := (many_rg (ns := ns) h).1
  unfold wideOf widesOf
  have h0 := Int.emod_nonneg (mixed (headOr ns) 1 / 64) (show (5 : Int) ≠ 0 by decide)
  have h1 := Int.emod_lt_of_pos (mixed (headOr ns) 1 / 64) (show (0 : Int) < 5 by decide)
  generalize mixed (headOr ns) 1 / 64 % 5 = i at h0 h1
  have : i = 0 ∨ i = 1 ∨ i = 2 ∨ i = 3 ∨ i = 4 := by omega
  rcases this with rfl | rfl | rfl | rfl | rfl
  · show (1 : Int) ≤ 2; decide
  · show (1 : Int) ≤ 3; decide
  · show (1 : Int) ≤ 5; decide
  · show (1 : Int) ≤ 10 ^ 9; decide
  · exact hm
theorem mod_rg {a m : Int} (h : 1 ≤ m) : 0 ≤ a % m ∧ a % m < m := ⟨Int.emod_nonneg _ (by omega), Int.emod_lt_of_pos _ (by omega)⟩
theorem mod2 (a : Int) : a % 2 = 0 ∨ a % 2 = 1 := by omega
theorem row0_valid {num many wide : Int} {k : Nat} (hm : 1 ≤ many) (hw : 1 ≤ wide) : ValidR (row0 num many wide k) many := by
  refine ⟨mod2 _, (mod_rg hw).1, by simp [row0], fun x hx => ?_, by simp [row0]⟩
  have : x = mixed num (10 + k) / 7 % many := by simpa [row0] using hx
  rw [this]; exact mod_rg hm
theorem changed_valid {r : Row} {many m3 t way : Int} (h : ValidR r many) (h3 : 0 ≤ m3) (hw : 0 ≤ way ∧ way < many) : ValidR (changed r m3 t way) many := by
  obtain ⟨h1, h2, h4, h5, h6⟩ := h
  unfold changed
  split
  · refine ⟨?_, h2, h4, h5, h6⟩
    show 1 - r.p = 0 ∨ 1 - r.p = 1
    omega
  · split
    · exact ⟨h1, h3, h4, h5, h6⟩
    · split
      · rename_i hn
        refine ⟨h1, h2, by simp, fun x hx => ?_, nodup_snoc h6 hn⟩
        rcases List.mem_append.mp hx with q | q
        · exact h5 x q
        · have : x = way := by simpa using q
          rw [this]; exact hw
      · split
        · rename_i hl
          refine ⟨h1, h2, fun e => ?_, fun x hx => h5 x (List.mem_of_mem_eraseIdx hx), h6.sublist (List.eraseIdx_sublist _ _)⟩
          have := congrArg List.length e
          have h7 : (r.ws.eraseIdx (r.ws.idxOf way)).length ≥ r.ws.length - 1 := by
            rw [List.length_eraseIdx]
            split <;> omega
          have h8 : (r.ws.eraseIdx (r.ws.idxOf way)).length = 0 := this
          omega
        · exact ⟨h1, h2, h4, h5, h6⟩
theorem cellStep_ok {many wide : Int} (hm : 1 ≤ many) (hw : 1 ≤ wide) {g : List Row} (hl : (g.length : Int) = many) (h : ∀ r ∈ g, ValidR r many) (c : Int) : ((cellStep many wide g c).length : Int) = many ∧ ∀ r ∈ cellStep many wide g c, ValidR r many := by
  unfold cellStep
  dsimp only
  split
  · exact ⟨hl, h⟩
  · rename_i r hr
    refine ⟨by rw [List.length_set]; exact hl, fun r' hr' => ?_⟩
    rcases List.mem_or_eq_of_mem_set hr' with q | q
    · exact h r' q
    · rw [q]
      exact changed_valid (h r (List.mem_of_getElem? hr)) (mod_rg hw).1 (mod_rg hm)
theorem foldl_cell {many wide : Int} (hm : 1 ≤ many) (hw : 1 ≤ wide) : ∀ (cs : List Int) (g : List Row), (g.length : Int) = many → (∀ r ∈ g, ValidR r many) → ((cs.foldl (cellStep many wide) g).length : Int) = many ∧ ∀ r ∈ cs.foldl (cellStep many wide) g, ValidR r many
  | [], g, hl, h => ⟨hl, h⟩
  | c :: cs, g, hl, h => by
    obtain ⟨a, b⟩ := cellStep_ok hm hw hl h c
    exact foldl_cell hm hw cs _ a b
theorem rows0_ok {num many wide : Int} (hm : 1 ≤ many) (hw : 1 ≤ wide) (k : Nat) : (rows0 num many wide k).length = k ∧ ∀ r ∈ rows0 num many wide k, ValidR r many := by
  unfold rows0
  refine ⟨by rw [List.length_map, List.length_range], fun r hr => ?_⟩
  obtain ⟨j, _, rfl⟩ := List.mem_map.mp hr
  exact row0_valid hm hw
theorem lawGame_ok {ns : List Int} {most : Int} (h1 : 1 ≤ most) (h2 : most ≤ 40) : ValidG (lawGame ns most) ∧ ((lawGame ns most).length : Int) = manyOf ns most ∧ lawGame ns most ≠ [] := by
  obtain ⟨a, b⟩ := many_rg (ns := ns) h1
  have hw := wide_pos (ns := ns) h1
  obtain ⟨c, d⟩ := rows0_ok (num := mixed (headOr ns) 1) a hw (manyOf ns most).toNat
  obtain ⟨e, f⟩ := foldl_cell a hw ns _ (by rw [c]; omega) d
  have e' : ((lawGame ns most).length : Int) = manyOf ns most := e
  refine ⟨⟨by omega, fun r hr => ?_⟩, e', fun z => ?_⟩
  · rw [e']
    exact f r hr
  · rw [z] at e'
    have : (0 : Int) = manyOf ns most := e'
    omega
/-! ### heaps without the list that is being made -/
def wo (H : Hp) (D : Addr) : Hp := fun b => if b = D then none else H b
theorem wo_ne {H : Hp} {D b : Addr} (h : b ≠ D) : wo H D b = H b := if_neg h
theorem wo_sub (H : Hp) (D : Addr) : Same (wo H D) H := fun b o e => by
  by_cases h : b = D
  · rw [h] at e
    have e' : (if D = D then none else H D) = some o := e
    rw [if_pos rfl] at e'
    cases e'
  · rw [wo_ne h] at e
    exact e
theorem wo_mono {H H' : Hp} {D : Addr} (s : Same H H') : Same (wo H D) (wo H' D) := fun b o e => by
  by_cases h : b = D
  · rw [h] at e
    have e' : (if D = D then none else H D) = some o := e
    rw [if_pos rfl] at e'
    cases e'
  · rw [wo_ne h] at e ⊢
    exact s _ _ e
theorem wo_of {H H' : Hp} {D : Addr} (s : Same H H') (n : H D = none) : Same H (wo H' D) := fun b o e => by
  rw [wo_ne (ne_of_none e n)]
  exact s _ _ e
theorem wo_upd {H : Hp} {D : Addr} {o : HO} : wo (upd H D o) D = wo H D := by
  funext b
  by_cases h : b = D
  · rw [h]
    show (if D = D then none else _) = (if D = D then none else _)
    rw [if_pos rfl, if_pos rfl]
  · rw [wo_ne h, wo_ne h, upd_ne h]
theorem dpAll_snoc {K : PySem.W.Frag} {H : Hp} {v : V} {d : PyData} (h : Dp K H v d) : ∀ {vs : List V} {ds : List PyData}, DpAll K H vs ds → DpAll K H (vs ++ [v]) (ds ++ [d])
  | [], [], .nil => .cons h .nil
  | _ :: _, _ :: _, .cons a b => .cons a (dpAll_snoc h b)
theorem lc_data {K : PySem.W.Frag} {a : Addr} {xs : List V} {g : TG} {te : TE} {vs : List Nat} {σ : L2.St} {H1 : Hp} {D : Addr} {Qd : Hp → Prop} (ds : List PyData) (hl : ds.length = xs.length) (hS : SqL K H1 a xs) (nD : H1 D = none) (hz : xs.length ≤ 1000)
    (hs : ∀ (i : Nat) (x : V) (d : PyData) (H : Hp) (Q : VK), xs[i]? = some x → ds[i]? = some d → Same H1 H → (∃ acc, H D = some (.lst acc)) → (∀ y H', Same H H' → Dp K (wo H' D) y d → Q y H') → g x (wipe σ vs) H fun σ2 H2 => wipe σ2 vs = wipe σ vs ∧ te σ2 H2 Q)
    (hd : ∀ H ys, Same H1 H → H D = some (.lst ys) → DpAll K (wo H D) ys ds → Qd H) :
    ∃ W : Nat → Nat → Hp → Prop, (∃ m, W 0 m (upd H1 D (.lst []))) ∧ ∀ i m H, W i m H →
      ((Itl K a).stop i H ∧ Qd H) ∨ ((Itl K a).go i H ∧ ∃ Nx : Hp → Prop, (∀ H', Nx H' → ∃ m', m' < m ∧ W (i + 1) m' H') ∧ ∀ x H', (Itl K a).yld i H x H' → g x (wipe σ vs) H' fun σ2 H2 => wipe σ2 vs = wipe σ vs ∧ tYes σ2 H2 fun b H3 =>
        if b = true then te σ2 H3 fun y H4 => ∃ acc, H4 D = some (.lst acc) ∧ acc.length < sizeLine ∧ Nx (upd H4 D (.lst (acc ++ [y]))) else Nx H3) := by
  refine lc_list (K := K) (a := a) (xs := xs) (fun i H => Same H1 H ∧ ∃ acc, H D = some (.lst acc) ∧ DpAll K (wo H D) acc (ds.take i)) ⟨same_upd nD, [], upd_same, .nil⟩ (fun i H _ p => p.1.seq hS) (fun i x H hi p => ?_) (fun H p => ?_)
  · obtain ⟨sm, acc, hD, hA⟩ := p
    have hlt : i < ds.length := by rw [hl]; exact (List.getElem?_eq_some_iff.mp hi).1
    refine hs i x ds[i] H _ hi (List.getElem?_eq_getElem hlt) sm ⟨acc, hD⟩ (fun y H' s hy => ⟨acc, s _ _ hD, ?_, fun b o e => ?_, acc ++ [y], upd_same, ?_⟩)
    · have := DpAll.len hA
      rw [List.length_take] at this
      exact small1000 (by rw [this]; exact Nat.le_trans (Nat.min_le_right _ _) (by omega))
    · rw [upd_ne (ne_of_none e nD)]
      exact s _ _ (sm _ _ e)
    · rw [wo_upd, List.take_add_one, List.getElem?_eq_getElem hlt]
      exact dpAll_snoc hy (dp_monoAll (wo_mono s) _ _ hA)
  · obtain ⟨sm, acc, hD, hA⟩ := p
    rw [← hl, List.take_length] at hA
    exact hd H acc sm hD hA
def rLo (K : PySem.W.Frag) : List V → Hp → VK → Prop := fun xs H Q => ∃ p ys, xs = [.ref p] ∧ (SqL K H p ys ∨ SqT K H p ys) ∧ ∀ l, H l = none → Q (.ref l) (upd H l (.lst ys))
theorem kr_call_list_of {X : Cx} {K : PySem.W.Frag} (h : X.K = K) : CallR X (.type "list") (rLo K) := h ▸ call_list_of
theorem kr_pg_tup {X : Cx} {K : PySem.W.Frag} (hK : X.K = K) {es : List Expr} {k : Nat} {t : TGs} {n : Nat} {pos : Pos} (hc : X.calm = true) (h : PGs X es t) (hn : (assignEach es X.env).length = n := by rfl) (hst : (assignEach es X.env).findIdx? (·.1) = none := by rfl) : PG X (.Tuple es k pos) (gTup K n t) := hK ▸ pg_tup hc h hn hst
end G

namespace G
open PySem PySem.Spec PyProof.Rows L2
/-! ### == of plain data -/
theorem lay_ints : ∀ ns : List Int, PyData.canLayAll0 (ns.map .int) = true
  | [] => rfl
  | n :: ns => by
    show (true && PyData.canLayAll0 (ns.map .int)) = true
    rw [lay_ints ns]; rfl
theorem dep_ints : ∀ ns : List Int, PyData.depthAll (ns.map .int) = 0
  | [] => rfl
  | n :: ns => by
    show max 0 (PyData.depthAll (ns.map .int)) = 0
    rw [dep_ints ns]; rfl
theorem shaped_ints (ns : List Int) : SeqAt.shaped (intsD ns) = true := by
  show (PyData.canLayAll0 (ns.map .int) && decide (PyData.depthAll (ns.map .int) + 1 ≤ 64)) = true
  rw [lay_ints, dep_ints]; rfl
theorem eqv_nil (ns : List Int) : PyData.eqv (intsD ns) (.list []) = ns.isEmpty := by
  cases ns <;> rfl
/-! ### the law's rows, as lists that change -/
structure RowsAt (H0 H : Hp) (L : Addr) (rs : List (Addr × Addr)) (g : List Row) : Prop where
  same : Same H0 H
  l0 : H0 L = none
  list : H L = some (.lst (rs.map fun p => V.ref p.1))
  len : rs.length = g.length
  at_ : ∀ (i : Nat) (p : Addr × Addr) (r : Row), rs[i]? = some p → g[i]? = some r → H0 p.1 = none ∧ H0 p.2 = none ∧ H p.1 = some (.lst [.int r.p, .int r.n, .ref p.2]) ∧ H p.2 = some (.lst (r.ws.map V.int))
  ap : ∀ (i j : Nat) (p q : Addr × Addr), rs[i]? = some p → rs[j]? = some q → p.1 ≠ q.2 ∧ (p.1 = q.1 → i = j) ∧ (p.2 = q.2 → i = j)
  al : ∀ (i : Nat) (p : Addr × Addr), rs[i]? = some p → p.1 ≠ L ∧ p.2 ≠ L
theorem RowsAt.nil {H0 H : Hp} {L : Addr} (s : Same H0 H) (n : H0 L = none) (e : H L = some (.lst [])) : RowsAt H0 H L [] [] :=
  ⟨s, n, e, rfl, fun i p r h => by simp at h, fun i j p q h => by simp at h, fun i p h => by simp at h⟩
theorem RowsAt.there {H0 H : Hp} {L : Addr} {rs : List (Addr × Addr)} {g : List Row} (h : RowsAt H0 H L rs g) {i : Nat} {p : Addr × Addr} (hp : rs[i]? = some p) : ∃ r, g[i]? = some r := by
  have hlt : i < g.length := by rw [← h.len]; exact (List.getElem?_eq_some_iff.mp hp).1
  exact ⟨_, List.getElem?_eq_getElem hlt⟩
/-- what is new leaves it as it is -/
theorem RowsAt.grow {H0 H H' : Hp} {L : Addr} {rs : List (Addr × Addr)} {g : List Row} (h : RowsAt H0 H L rs g) (s : Same H H') : RowsAt H0 H' L rs g :=
  ⟨h.same.trans s, h.l0, s _ _ h.list, h.len, fun i p r hp hr => by
    obtain ⟨a, b, c, d⟩ := h.at_ i p r hp hr
    exact ⟨a, b, s _ _ c, s _ _ d⟩, h.ap, h.al⟩
theorem snoc_get {α : Type} {l : List α} {x y : α} {i : Nat} (h : (l ++ [x])[i]? = some y) : l[i]? = some y ∧ i < l.length ∨ i = l.length ∧ y = x := by
  rcases Nat.lt_or_ge i l.length with hi | hi
  · rw [List.getElem?_append_left hi] at h
    exact .inl ⟨h, hi⟩
  · rw [List.getElem?_append_right hi] at h
    have : i - l.length = 0 := by
      have := (List.getElem?_eq_some_iff.mp h).1
      simp at this
      omega
    rw [this] at h
    exact .inr ⟨by omega, (Option.some.inj h).symm⟩
/-- one more row: its ways' list at W, then itself at R, then the list of rows -/
theorem RowsAt.push {H0 H : Hp} {L W R : Addr} {rs : List (Addr × Addr)} {g : List Row} {r : Row} (h : RowsAt H0 H L rs g) (nW : H W = none) (nR : (upd H W (.lst (r.ws.map V.int))) R = none) :
    RowsAt H0 (upd (upd (upd H W (.lst (r.ws.map V.int))) R (.lst [.int r.p, .int r.n, .ref W])) L (.lst (rs.map (fun p => V.ref p.1) ++ [.ref R]))) L (rs ++ [(R, W)]) (g ++ [r]) := by
  have RW : R ≠ W := fun e => by
    rw [e, upd_same] at nR
    cases nR
  have nR' : H R = none := by rw [upd_ne RW] at nR; exact nR
  have LW : L ≠ W := ne_of_none h.list nW
  have LR : L ≠ R := ne_of_none h.list nR'
  have s1 : Same H (upd (upd H W (.lst (r.ws.map V.int))) R (.lst [.int r.p, .int r.n, .ref W])) := (same_upd nW).trans (same_upd nR)
  have old : ∀ {i : Nat} {p : Addr × Addr}, rs[i]? = some p → p.1 ≠ W ∧ p.1 ≠ R ∧ p.2 ≠ W ∧ p.2 ≠ R := fun hp => by
    obtain ⟨r', hr'⟩ := h.there hp
    obtain ⟨_, _, c, d⟩ := h.at_ _ _ _ hp hr'
    exact ⟨ne_of_none c nW, ne_of_none c nR', ne_of_none d nW, ne_of_none d nR'⟩
  refine ⟨fun b o e => ?_, h.l0, by rw [upd_same, List.map_append]; rfl, by rw [List.length_append, List.length_append, h.len]; rfl, fun i p r' hp hr' => ?_, fun i j p q hp hq => ?_, fun i p hp => ?_⟩
  · rw [upd_ne (ne_of_none e h.l0)]
    exact s1 _ _ (h.same _ _ e)
  · rcases snoc_get hp with ⟨hp1, hi⟩ | ⟨hi, rfl⟩
    · rw [List.getElem?_append_left (by rw [← h.len]; exact hi)] at hr'
      obtain ⟨a, b, c, d⟩ := h.at_ i p r' hp1 hr'
      obtain ⟨l1, l2⟩ := h.al i p hp1
      exact ⟨a, b, by rw [upd_ne l1]; exact s1 _ _ c, by rw [upd_ne l2]; exact s1 _ _ d⟩
    · subst hi
      rw [h.len, List.getElem?_append_right (Nat.le_refl _), Nat.sub_self] at hr'
      cases hr'
      refine ⟨h.same.free nR', h.same.free nW, ?_, ?_⟩
      · rw [upd_ne LR.symm, upd_same]
      · rw [upd_ne LW.symm, upd_ne RW.symm, upd_same]
  · rcases snoc_get hp with ⟨hp1, hi⟩ | ⟨hi, rfl⟩
    · rcases snoc_get hq with ⟨hq1, hj⟩ | ⟨hj, rfl⟩
      · exact h.ap i j p q hp1 hq1
      · obtain ⟨a, b, c, d⟩ := old hp1
        exact ⟨a, fun e => absurd e b, fun e => absurd e c⟩
    · rcases snoc_get hq with ⟨hq1, hj⟩ | ⟨hj, rfl⟩
      · obtain ⟨a, b, c, d⟩ := old hq1
        exact ⟨fun e => d e.symm, fun e => absurd e.symm b, fun e => absurd e.symm c⟩
      · exact ⟨RW, fun _ => hi.trans hj.symm, fun _ => hi.trans hj.symm⟩
  · rcases snoc_get hp with ⟨hp1, hi⟩ | ⟨hi, rfl⟩
    · exact h.al i p hp1
    · exact ⟨LR.symm, LW.symm⟩
theorem set_get {α : Type} {l : List α} {x y : α} {i j : Nat} (h : (l.set i x)[j]? = some y) : (i = j ∧ y = x) ∨ (i ≠ j ∧ l[j]? = some y) := by
  by_cases e : i = j
  · subst e
    have hlt : i < l.length := by
      have := (List.getElem?_eq_some_iff.mp h).1
      rw [List.length_set] at this
      exact this
    rw [List.getElem?_set_self hlt] at h
    exact .inl ⟨rfl, (Option.some.inj h).symm⟩
  · rw [List.getElem?_set_ne e] at h
    exact .inr ⟨e, h⟩
/-- a row gets another player or number -/
theorem RowsAt.row {H0 H : Hp} {L : Addr} {rs : List (Addr × Addr)} {g : List Row} {i : Nat} {p : Addr × Addr} {r : Row} (h : RowsAt H0 H L rs g) (hp : rs[i]? = some p) (hr : g[i]? = some r) (a b : Int) :
    RowsAt H0 (upd H p.1 (.lst [.int a, .int b, .ref p.2])) L rs (g.set i ⟨a, b, r.ws⟩) := by
  obtain ⟨n1, n2, c1, c2⟩ := h.at_ i p r hp hr
  obtain ⟨l1, l2⟩ := h.al i p hp
  refine ⟨fun b o e => ?_, h.l0, by rw [upd_ne l1.symm]; exact h.list, by rw [List.length_set]; exact h.len, fun j q r' hq hr' => ?_, h.ap, h.al⟩
  · rw [upd_ne (ne_of_none e n1)]
    exact h.same _ _ e
  · rcases set_get hr' with ⟨rfl, rfl⟩ | ⟨hne, hr''⟩
    · rw [hp] at hq
      cases hq
      exact ⟨n1, n2, upd_same, by rw [upd_ne (h.ap i i p p hp hp).1.symm]; exact c2⟩
    · obtain ⟨m1, m2, d1, d2⟩ := h.at_ j q r' hq hr''
      obtain ⟨x1, x2, _⟩ := h.ap i j p q hp hq
      exact ⟨m1, m2, by rw [upd_ne fun e => hne (x2 e.symm)]; exact d1, by rw [upd_ne x1.symm]; exact d2⟩
/-- a row's ways change -/
theorem RowsAt.ways {H0 H : Hp} {L : Addr} {rs : List (Addr × Addr)} {g : List Row} {i : Nat} {p : Addr × Addr} {r : Row} (h : RowsAt H0 H L rs g) (hp : rs[i]? = some p) (hr : g[i]? = some r) (ws : List Int) :
    RowsAt H0 (upd H p.2 (.lst (ws.map V.int))) L rs (g.set i ⟨r.p, r.n, ws⟩) := by
  obtain ⟨n1, n2, c1, c2⟩ := h.at_ i p r hp hr
  obtain ⟨l1, l2⟩ := h.al i p hp
  refine ⟨fun b o e => ?_, h.l0, by rw [upd_ne l2.symm]; exact h.list, by rw [List.length_set]; exact h.len, fun j q r' hq hr' => ?_, h.ap, h.al⟩
  · rw [upd_ne (ne_of_none e n2)]
    exact h.same _ _ e
  · rcases set_get hr' with ⟨rfl, rfl⟩ | ⟨hne, hr''⟩
    · rw [hp] at hq
      cases hq
      exact ⟨n1, n2, by rw [upd_ne (h.ap i i p p hp hp).1]; exact c1, upd_same⟩
    · obtain ⟨m1, m2, d1, d2⟩ := h.at_ j q r' hq hr''
      obtain ⟨_, _, x3⟩ := h.ap i j p q hp hq
      obtain ⟨y1, _, _⟩ := h.ap j i q p hq hp
      exact ⟨m1, m2, by rw [upd_ne y1]; exact d1, by rw [upd_ne fun e => hne (x3 e.symm)]; exact d2⟩
theorem RowsAt.id {H0 H : Hp} {L : Addr} {rs : List (Addr × Addr)} {g : List Row} {i : Nat} {r : Row} (h : RowsAt H0 H L rs g) (hr : g[i]? = some r) : RowsAt H0 H L rs (g.set i r) := by
  have e : g.set i r = g := by
    apply List.ext_getElem?
    intro j
    by_cases hj : i = j
    · subst hj
      rw [List.getElem?_set_self (List.getElem?_eq_some_iff.mp hr).1, hr]
    · rw [List.getElem?_set_ne hj]
  rw [e]
  exact h
theorem if_join {b : Bool} {ta tb : TE} {σ : L2.St} {H : Hp} {Q : VK} {v : V} (h1 : b = true → ∀ Q : VK, Q v H → ta σ H Q) (h2 : b = false → ∀ Q : VK, Q v H → tb σ H Q) (q : Q v H) : if b = true then ta σ H Q else tb σ H Q := by
  cases b with
  | true => exact iteT (h1 rfl Q q)
  | false => exact iteF (h2 rfl Q q)
theorem atI_ints {xs : List Int} {i : Int} (h0 : 0 ≤ i) (h1 : i.toNat < xs.length) : atI (xs.map V.int) i = some (.int (xs.getD i.toNat 0)) :=
  atI_int h0 (by rw [List.getElem?_map, List.getElem?_eq_getElem h1, List.getD_eq_getElem?_getD, List.getElem?_eq_getElem h1]; rfl)
end G

namespace G
open PySem PySem.Spec PyProof.Rows L2
/-- at D a list of rows, all plain -/
structure PRows (H' : Hp) (D : Addr) (ts : List Addr) (gs : List Row) : Prop where
  lst : H' D = some (.lst (ts.map V.ref))
  len : ts.length = gs.length
  row : ∀ (i : Nat) (r : Row), gs[i]? = some r → ∃ t w, ts[i]? = some t ∧ H' t = some (.tup [.int r.p, .int r.n, .ref w]) ∧ H' w = some (.lst (r.ws.map V.int)) ∧ t ≠ D ∧ w ≠ D
theorem PRows.dp {K : PySem.W.Frag} {H' : Hp} {D : Addr} {ts : List Addr} {gs : List Row} (h : PRows H' D ts gs) : Dp K H' (.ref D) (gameD gs) := by
  have key : ∀ {vs : List V} {ds : List PyData}, vs.length = ds.length → (∀ (i : Nat) v d, vs[i]? = some v → ds[i]? = some d → Dp K H' v d) → DpAll K H' vs ds := by
    intro vs
    induction vs with
    | nil =>
      intro ds hl _
      match ds, hl with
      | [], _ => exact .nil
    | cons v vs ih =>
      intro ds hl h
      match ds, hl with
      | d :: ds, hl => exact .cons (h 0 v d rfl rfl) (ih (by simpa using hl) fun i v d a b => h (i + 1) v d a b)
  refine .lst (.inl (.inl h.lst)) (key (by rw [List.length_map, List.length_map]; exact h.len) fun i v d hv hd => ?_)
  rw [List.getElem?_map] at hv hd
  obtain ⟨t, ht, rfl⟩ := Option.map_eq_some_iff.mp hv
  obtain ⟨r, hr, rfl⟩ := Option.map_eq_some_iff.mp hd
  obtain ⟨t2, w, e, h1, h2, _⟩ := h.row i r hr
  rw [ht] at e
  cases e
  exact .tup (.inl (.inl h1)) (.cons (.int _) (.cons (.int _) (.cons (.lst (.inl (.inl h2)) (dpa_ints' _)) .nil)))
theorem lc_rowsP {K : PySem.W.Frag} {a : Addr} {xs : List V} {g : TG} {te : TE} {vs : List Nat} {σ : L2.St} {H1 : Hp} {D : Addr} {Qd : Hp → Prop} (gs : List Row) (hl : gs.length = xs.length) (hS : SqL K H1 a xs) (nD : H1 D = none) (hz : xs.length ≤ 1000)
    (hs : ∀ (i : Nat) (x : V) (r : Row) (H : Hp) (Q : VK), xs[i]? = some x → gs[i]? = some r → Same H1 H → (∃ acc, H D = some (.lst acc)) → (∀ H' T l, Same H H' → H T = none → l ≠ D → H' T = some (.tup [.int r.p, .int r.n, .ref l]) → H' l = some (.lst (r.ws.map V.int)) → Q (.ref T) H') → g x (wipe σ vs) H fun σ2 H2 => wipe σ2 vs = wipe σ vs ∧ te σ2 H2 Q)
    (hd : ∀ H ts, Same H1 H → PRows H D ts gs → Qd H) :
    ∃ W : Nat → Nat → Hp → Prop, (∃ m, W 0 m (upd H1 D (.lst []))) ∧ ∀ i m H, W i m H →
      ((Itl K a).stop i H ∧ Qd H) ∨ ((Itl K a).go i H ∧ ∃ Nx : Hp → Prop, (∀ H', Nx H' → ∃ m', m' < m ∧ W (i + 1) m' H') ∧ ∀ x H', (Itl K a).yld i H x H' → g x (wipe σ vs) H' fun σ2 H2 => wipe σ2 vs = wipe σ vs ∧ tYes σ2 H2 fun b H3 =>
        if b = true then te σ2 H3 fun y H4 => ∃ acc, H4 D = some (.lst acc) ∧ acc.length < sizeLine ∧ Nx (upd H4 D (.lst (acc ++ [y]))) else Nx H3) := by
  refine lc_list (K := K) (a := a) (xs := xs) (fun i H => Same H1 H ∧ ∃ ts, PRows H D ts (gs.take i)) ⟨same_upd nD, [], by rw [upd_same]; rfl, rfl, fun i r h => by cases h⟩ (fun i H _ p => p.1.seq hS) (fun i x H hi ⟨sm, ts, fr⟩ => ?_) (fun H ⟨sm, ts, fr⟩ => ?_)
  · have hlt : i < gs.length := by rw [hl]; exact (List.getElem?_eq_some_iff.mp hi).1
    have hr : gs[i]? = some gs[i] := List.getElem?_eq_getElem hlt
    have hlen : ts.length = i := by
      have := fr.len
      rw [List.length_take] at this
      omega
    refine hs i x gs[i] H _ hi hr sm ⟨_, fr.lst⟩ (fun H' T l s nT lD hT hL => ⟨_, s _ _ fr.lst, ?_, fun b o e => ?_, ts ++ [T], ?_, ?_, fun j r hj => ?_⟩)
    · rw [List.length_map, hlen]
      exact small1000 (by omega)
    · rw [upd_ne (ne_of_none e nD)]
      exact s _ _ (sm _ _ e)
    · rw [upd_same, List.map_append]
      rfl
    · rw [List.length_append, List.length_singleton, hlen, List.length_take]
      omega
    · rw [List.take_add_one, hr] at hj
      have TD : T ≠ D := fun e => by rw [e, fr.lst] at nT; cases nT
      by_cases z : j < i
      · have lt : (gs.take i).length = i := by rw [List.length_take]; omega
        rw [List.getElem?_append_left (by omega)] at hj
        obtain ⟨t, w, e, h3, h4, h5, h6⟩ := fr.row j r hj
        exact ⟨t, w, by rw [List.getElem?_append_left (by omega)]; exact e, by rw [upd_ne h5]; exact s _ _ h3, by rw [upd_ne h6]; exact s _ _ h4, h5, h6⟩
      · have lt : (gs.take i).length = i := by rw [List.length_take]; omega
        rw [List.getElem?_append_right (by omega), lt] at hj
        have e0 : j - i = 0 := by
          have := (List.getElem?_eq_some_iff.mp hj).1
          simp at this
          omega
        rw [e0] at hj
        cases hj
        refine ⟨T, l, ?_, by rw [upd_ne TD]; exact hT, by rw [upd_ne lD]; exact hL, TD, lD⟩
        rw [List.getElem?_append_right (by omega), hlen, e0]
        rfl
  · rw [← hl, List.take_length] at fr
    exact hd H ts sm fr
section
variable {P : Program} {w : World} {K : PySem.W.Frag} {mg : Str → Option Value} {base : Heap}
def spLawGameP (K : PySem.W.Frag) : Sp := fun vs H Q _ => ∃ (a : Addr) (ns : List Int) (most : Int), vs = [.ref a, .int most] ∧ SqL K H a (ns.map V.int) ∧ 1 ≤ most ∧ most ≤ 40 ∧ ∀ H' D ts, Same H H' → PRows H' D ts (lawGame ns most) → Q (.ref D) H'
def spLawGame (K : PySem.W.Frag) : Sp := fun vs H Q _ => ∃ (a : Addr) (ns : List Int) (most : Int), vs = [.ref a, .int most] ∧ SqL K H a (ns.map V.int) ∧ 1 ≤ most ∧ most ≤ 40 ∧ ∀ H' v, Same H H' → Dp K H' v (gameD (lawGame ns most)) → Q v H'
theorem ok_law_gameP {f : Addr} {fd : FuncData} (B : Bt mg) (F : Fun K "_law_game" "_law_game" s__law_game f fd) (C__law_mixed : Cal P w K mg base 1 "_law_mixed" spMixed) : FnOk P w K mg base (L2.CX P w) 2 f fd ["_law_script", "_law_most"] (spLawGameP K) := by
  refine F.okX sc__law_game (fun vs H Q E h => ?_) (fun cdv Ar outer s H vs Q E hr h => ?_)
  · obtain ⟨a, ns, most, rfl, _⟩ := h
    rfl
  · obtain ⟨a, ns, most, rfl, hS, hm1, hm2, q⟩ := h
    refine ⟨_, (pss_cons (ps_set (i := 2) sc__law_game.nd rfl (Or.inl rfl) (pe_cal C__law_mixed hr (by decide) (by rfl) (pa_cons (pe_ifExp (pt_cmpR (op_neD hr.units) (pv 0) (pe_lst pa_nil) (nomark _)) (pe_ix ix_list (pv 0) pe_int (fun _ _ => rfl)) pe_int) (pa_cons pe_int pa_nil))))
      (pss_cons (ps_set (i := 3) sc__law_game.nd rfl (Or.inl rfl) (pe_op op_add (pe_op op_mod (pv 2) (pv 1)) pe_int))
      (pss_cons (ps_set (i := 4) sc__law_game.nd rfl (Or.inl rfl) (pe_ix ix_list (pe_lst (pa_cons pe_int (pa_cons pe_int (pa_cons pe_int (pa_cons (pe_op op_pow pe_int pe_int) (pa_cons (pv 3) pa_nil)))))) (pe_op op_mod (pe_op op_fdiv (pv 2) pe_int) pe_int) (fun _ _ => rfl)))
      (pss_cons (ps_set (i := 5) sc__law_game.nd rfl (Or.inl rfl) (pe_lst pa_nil))
      (pss_cons (ps_for (passes_of rfl) rfl (pi_range1 (by rfl) B.range_ (pa_cons (pv 3) pa_nil)) (pg_name (i := 6) sc__law_game.nd rfl (Or.inl rfl)) (pss_cons (ps_set (i := 7) sc__law_game.nd rfl (Or.inl rfl) (pe_cal C__law_mixed hr (by decide) (by rfl) (pa_cons (pv 2) (pa_cons (pe_op op_add pe_int (pv 6)) pa_nil))))
      (pss_one (ps_expr (pe_bm PySem.F.plainAttrs_list PySem.F.slot_list_append PySem.F.type_list_append mt_append (pv 5) (pa_cons (pe_lst (pa_cons (pe_op op_mod (pv 7) pe_int) (pa_cons (pe_op op_mod (pe_op op_fdiv (pv 7) pe_int) (pv 4)) (pa_cons (pe_lst (pa_cons (pe_op op_mod (pe_op op_fdiv (pv 7) pe_int) (pv 3)) pa_nil)) pa_nil)))) pa_nil))))))
      (pss_cons (ps_for (passes_of rfl) rfl (pi_list (pv 0)) (pg_name (i := 8) sc__law_game.nd rfl (Or.inl rfl)) (pss_cons (ps_set (i := 7) sc__law_game.nd rfl (Or.inl rfl) (pe_cal C__law_mixed hr (by decide) (by rfl) (pa_cons (pv 8) (pa_cons pe_int pa_nil))))
      (pss_cons (ps_set (i := 9) sc__law_game.nd rfl (Or.inl rfl) (pe_ix ix_list (pv 5) (pe_op op_mod (pv 7) (pv 3)) (fun _ _ => rfl)))
      (pss_cons (ps_set (i := 10) sc__law_game.nd rfl (Or.inl rfl) (pe_op op_mod (pe_op op_fdiv (pv 7) (pv 3)) (pv 3)))
      (pss_one (ps_if (pt_cmpR op_eq (pe_op op_mod (pe_op op_fdiv (pv 7) pe_int) pe_int) pe_int (nomark _)) (pss_one (ps_asg (pe_op op_sub pe_int (pe_ix ix_list (pv 9) pe_int (fun _ _ => rfl))) (pg_sub (pv 9) pe_int set_list))) (pss_one (ps_if (pt_cmpR op_eq (pe_op op_mod (pe_op op_fdiv (pv 7) pe_int) pe_int) pe_int (nomark _)) (pss_one (ps_asg (pe_op op_mod (pe_cal C__law_mixed hr (by decide) (by rfl) (pa_cons (pv 7) (pa_cons pe_int pa_nil))) (pv 4)) (pg_sub (pv 9) pe_int set_list))) (pss_one (ps_if (pt_cmpR op_notIn_seq (pv 10) (pe_ix ix_list (pv 9) pe_int (fun _ _ => rfl)) (by rfl)) (pss_one (ps_expr (pe_bm PySem.F.plainAttrs_list PySem.F.slot_list_append PySem.F.type_list_append mt_append (pe_ix ix_list (pv 9) pe_int (fun _ _ => rfl)) (pa_cons (pv 10) pa_nil)))) (pss_one (ps_if (pt_cmpR op_gt (pe_callB call_len_seq (by rfl) B.len_ (by decide +kernel) (pa_cons (pe_ix ix_list (pv 9) pe_int (fun _ _ => rfl)) pa_nil)) pe_int (nomark _)) (pss_one (ps_expr (pe_bm PySem.F.plainAttrs_list PySem.F.slot_list_remove PySem.F.type_list_remove mt_remove (pe_ix ix_list (pv 9) pe_int (fun _ _ => rfl)) (pa_cons (pv 10) pa_nil)))) pss_nil))))))))))))
      (pss_one (ps_ret (pe_lc (own := [("_law_row", 9)]) (by rfl) sc__law_game.nd (pi_list (pv 5)) (blkOk_by (own := [("_law_row", 9)]) (N := ["_law_script", "_law_most", "_law_number", "_law_many", "_law_wide", "_law_rows", "_law_place", "_law_more", "_law_cell", "_law_row", "_law_way"]) (sc := defScope s__law_game) (by decide +kernel)) (fun _ _ _ _ _ => (pg_name (i := 9) sc__law_game.nd rfl (Or.inl rfl))) (fun _ _ _ _ _ => pts_nil) (fun _ _ _ _ _ => (pe_tup (pa_cons (pe_ix (kr_ix_list (K := K) rfl) (pv 9) pe_int (fun _ _ => rfl)) (pa_cons (pe_ix (kr_ix_list (K := K) rfl) (pv 9) pe_int (fun _ _ => rfl)) (pa_cons (pe_ix (kr_ix_list (K := K) rfl) (pv 9) pe_int (fun _ _ => rfl)) pa_nil)))))))))))))), ?_⟩
    -- _law_number = _law_mixed(_law_script[0] if _law_script != [] else 6, 1)
    refine ⟨_, rfl, Nat.zero_le _, fun e0 ne0 => ⟨intsD ns, .list [], .lst ((same_upd ne0).seq hS) (dpa_ints' ns), .lst (.inl (.inl upd_same)) .nil, shaped_ints ns, rfl, _, rfl, ?_⟩⟩
    have sm0 : Same H (upd H e0 (.lst [])) := same_upd ne0
    rw [eqv_nil]
    refine if_join (v := .int (headOr ns)) (fun hb Q' q' => ?_) (fun hb Q' q' => ?_) ?_
    · cases ns with
      | nil => cases hb
      | cons x r => exact ⟨_, rfl, _, _, _, _, rfl, rfl, sm0.seq hS, atI_nat (j := 0) rfl, q'⟩
    · cases ns with
      | nil => exact q'
      | cons x r => cases hb
    have hnum := mixed_rg (headOr ns) 1
    refine ⟨_, _, rfl, by decide, by decide, ?_⟩
    -- _law_many, _law_wide, _law_rows
    refine ⟨_, rfl, _, rfl, _, _, rfl, rfl, (by omega : (0:Int) < most), _, _, rfl, rfl, ?_⟩
    obtain ⟨hk1, hk2⟩ := many_rg (ns := ns) hm1
    have hw := wide_pos (ns := ns) hm1
    have h5a := Int.emod_nonneg (mixed (headOr ns) 1 / 64) (show (5 : Int) ≠ 0 by decide)
    have h5b := Int.emod_lt_of_pos (mixed (headOr ns) 1 / 64) (show (0 : Int) < 5 by decide)
    refine ⟨_, _, rfl, rfl, ⟨by decide, by decide, by decide⟩, _, rfl, (by show 5 ≤ sizeLine; decide), fun l0 nl0 => ⟨_, rfl, _, _, rfl, rfl, ⟨by decide, by decide⟩, _, _, rfl, rfl, (by show (0:Int) < 5; decide), l0, _, _, .int (wideOf ns most), rfl, rfl, .inl (.inl upd_same), atI_ints (xs := widesOf (manyOf ns most)) h5a (by show _ < 5; omega), ?_⟩⟩
    refine ⟨Nat.zero_le _, fun L nL => ?_⟩
    have smL := sm0.trans (same_upd (o := .lst [.int 2, .int 3, .int 5, .int (10 ^ (9 : Int).toNat), .int (mixed (headOr ns) 1 % most + 1)]) nl0)
    -- for _law_place in range(_law_many)
    refine ⟨_, rfl, manyOf ns most, rfl, by omega, by omega, for_range (lo := 0) (n := (manyOf ns most).toNat) (fun i σ H' => ∃ (y6 y7 : Option V) (rs : List (Addr × Addr)), σ = [some (.ref a), some (.int most), some (.int (mixed (headOr ns) 1)), some (.int (manyOf ns most)), some (.int (wideOf ns most)), some (.ref L), y6, y7, none, none, none] ∧
        RowsAt H H' L rs (rows0 (mixed (headOr ns) 1) (manyOf ns most) (wideOf ns most) i)) ⟨none, none, [], rfl, .nil (smL.trans (same_upd nL)) (smL.free nL) upd_same⟩ (fun i σ H' hi hP => ?_) (fun σ H' hP => ?_)⟩
    · obtain ⟨y6, y7, rs, rfl, hR⟩ := hP
      refine ⟨_, rfl, _, rfl, _, _, rfl, rfl, _, _, rfl, by omega, by omega, ?_⟩
      rw [show (10 : Int) + (0 + (i : Int)) = 10 + (i : Int) by omega]
      have hmr := mixed_rg (mixed (headOr ns) 1) (10 + (i : Int))
      have hlen : rs.length = i := by rw [hR.len]; exact (rows0_ok hk1 hw i).1
      refine ⟨_, rfl, .inl ⟨rfl, _, .inl (.inl hR.list)⟩, _, rfl, _, _, rfl, rfl, (by show (0:Int) < 2; decide), _, rfl, _, _, rfl, rfl, ⟨by decide, by decide⟩, _, rfl, _, _, rfl, rfl, (by omega : (0:Int) < wideOf ns most), _, rfl, _, _, rfl, rfl, ⟨by decide, by decide⟩, _, rfl, _, _, rfl, rfl, (by omega : (0:Int) < manyOf ns most), (by show 1 ≤ sizeLine; decide), fun W nW => ⟨(by show 3 ≤ sizeLine; decide), fun R nR => ?_⟩⟩
      have hpush := hR.push (r := row0 (mixed (headOr ns) 1) (manyOf ns most) (wideOf ns most) i) nW nR
      have LW : L ≠ W := ne_of_none hR.list nW
      have nR' : H' R = none := by
        have RW : R ≠ W := fun e => by
          rw [e, upd_same] at nR
          cases nR
        rw [upd_ne RW] at nR
        exact nR
      refine ⟨L, rs.map (fun p => V.ref p.1), _, rfl, rfl, ?_, ?_⟩
      · rw [upd_ne (ne_of_none hR.list nR'), upd_ne LW]
        exact hR.list
      · refine ⟨by rw [List.length_map, hlen]; exact small1000 (by omega), ?_⟩
        refine ⟨_, _, rs ++ [(R, W)], rfl, ?_⟩
        have e1 : rows0 (mixed (headOr ns) 1) (manyOf ns most) (wideOf ns most) (i + 1) = rows0 (mixed (headOr ns) 1) (manyOf ns most) (wideOf ns most) i ++ [row0 (mixed (headOr ns) 1) (manyOf ns most) (wideOf ns most) i] := by
          unfold rows0
          rw [List.range_succ, List.map_append]
          rfl
        rw [e1]
        exact hpush
    · obtain ⟨y6, y7, rs, rfl, hR⟩ := hP
      -- for _law_cell in _law_script
      refine ⟨_, rfl, a, rfl, ⟨_, hR.same.seq hS⟩, for_list (K := K) (a := a) (xs := ns.map V.int) (fun i σ H' => ∃ (y6 y7 y8 y9 y10 : Option V) (rs : List (Addr × Addr)), σ = [some (.ref a), some (.int most), some (.int (mixed (headOr ns) 1)), some (.int (manyOf ns most)), some (.int (wideOf ns most)), some (.ref L), y6, y7, y8, y9, y10] ∧
        RowsAt H H' L rs ((ns.take i).foldl (cellStep (manyOf ns most) (wideOf ns most)) (rows0 (mixed (headOr ns) 1) (manyOf ns most) (wideOf ns most) (manyOf ns most).toNat))) ⟨y6, y7, none, none, none, rs, rfl, hR⟩ (fun i σ H' _ ⟨_, _, _, _, _, _, _, hR⟩ => hR.same.seq hS) (fun i x σ H' hi hP => ?_) (fun σ H' hP => ?_)⟩
      · obtain ⟨y6, y7, y8, y9, y10, rs, rfl, hR⟩ := hP
        rw [List.getElem?_map] at hi
        obtain ⟨c, hc, rfl⟩ := Option.map_eq_some_iff.mp hi
        obtain ⟨c1, c2⟩ := rows0_ok (num := mixed (headOr ns) 1) hk1 hw (manyOf ns most).toNat
        obtain ⟨c3, c4⟩ := foldl_cell hk1 hw (ns.take i) _ (by rw [c1]; omega) c2
        have hnext : (ns.take (i + 1)).foldl (cellStep (manyOf ns most) (wideOf ns most)) (rows0 (mixed (headOr ns) 1) (manyOf ns most) (wideOf ns most) (manyOf ns most).toNat) = cellStep (manyOf ns most) (wideOf ns most) ((ns.take i).foldl (cellStep (manyOf ns most) (wideOf ns most)) (rows0 (mixed (headOr ns) 1) (manyOf ns most) (wideOf ns most) (manyOf ns most).toNat)) c := by
          rw [List.take_add_one, hc, List.foldl_append]
          rfl
        generalize hg : (ns.take i).foldl (cellStep (manyOf ns most) (wideOf ns most)) (rows0 (mixed (headOr ns) 1) (manyOf ns most) (wideOf ns most) (manyOf ns most).toNat) = g at hR c3 c4 hnext
        obtain ⟨i0, i1⟩ := mod_rg (a := mixed c 2) hk1
        have hlt : (mixed c 2 % manyOf ns most).toNat < g.length := by omega
        have hr : g[(mixed c 2 % manyOf ns most).toNat]? = some g[(mixed c 2 % manyOf ns most).toNat] := List.getElem?_eq_getElem hlt
        have hp : rs[(mixed c 2 % manyOf ns most).toNat]? = some (rs[(mixed c 2 % manyOf ns most).toNat]'(by rw [hR.len]; exact hlt)) := List.getElem?_eq_getElem _
        generalize g[(mixed c 2 % manyOf ns most).toNat] = r at hr
        generalize (rs[(mixed c 2 % manyOf ns most).toNat]'(by rw [hR.len]; exact hlt)) = p at hp
        have hstep : cellStep (manyOf ns most) (wideOf ns most) g c = g.set (mixed c 2 % manyOf ns most).toNat (changed r (mixed (mixed c 2) 3 % wideOf ns most) (mixed c 2 / 1009 % 8) (mixed c 2 / manyOf ns most % manyOf ns most)) := by
          unfold cellStep
          dsimp only
          rw [hr]
        obtain ⟨n1, n2, d1, d2⟩ := hR.at_ _ p r hp hr
        have hvr := c4 r (List.mem_of_getElem? hr)
        have hwl : r.ws.length ≤ 40 := Nat.le_trans (ValidR.len (m := g.length) (by rw [c3]; exact hvr)) (by omega)
        -- more, row, way
        refine ⟨_, rfl, _, _, rfl, by decide, by decide, ?_⟩
        refine ⟨_, rfl, _, rfl, _, rfl, _, _, rfl, rfl, (by omega : (0:Int) < manyOf ns most), _, _, _, .ref p.1, rfl, rfl, .inl (.inl hR.list), atI_int i0 (by rw [List.getElem?_map, hp]; rfl), ?_⟩
        refine ⟨_, rfl, _, rfl, _, _, rfl, rfl, ⟨by omega, by omega⟩, _, rfl, _, _, rfl, rfl, (by omega : (0:Int) < manyOf ns most), ?_⟩
        have fin : ∀ (H2 : Hp), RowsAt H H2 L rs (g.set (mixed c 2 % manyOf ns most).toNat (changed r (mixed (mixed c 2) 3 % wideOf ns most) (mixed c 2 / 1009 % 8) (mixed c 2 / manyOf ns most % manyOf ns most))) →
            ∃ (z6 z7 z8 z9 z10 : Option V) (rs : List (Addr × Addr)), [some (V.ref a), some (.int most), some (.int (mixed (headOr ns) 1)), some (.int (manyOf ns most)), some (.int (wideOf ns most)), some (.ref L), y6, some (.int (mixed c 2)), some (.int c), some (.ref p.1), some (.int (mixed c 2 / manyOf ns most % manyOf ns most))] = [some (.ref a), some (.int most), some (.int (mixed (headOr ns) 1)), some (.int (manyOf ns most)), some (.int (wideOf ns most)), some (.ref L), z6, z7, z8, z9, z10] ∧
              RowsAt H H2 L rs ((ns.take (i + 1)).foldl (cellStep (manyOf ns most) (wideOf ns most)) (rows0 (mixed (headOr ns) 1) (manyOf ns most) (wideOf ns most) (manyOf ns most).toNat)) := fun H2 h2 => by
          rw [hnext, hstep]
          exact ⟨_, _, _, _, _, rs, rfl, h2⟩
        have hway2 := mod_rg (a := mixed c 2 / manyOf ns most) hk1
        -- if _law_more // 1009 % 8 == 0
        refine ⟨_, rfl, _, _, rfl, rfl, ⟨by decide, by decide⟩, _, _, rfl, rfl, (by show (0:Int) < 8; decide), rfl, _, rfl, ite2 (fun e => ?_) (fun e => ?_)⟩
        · have e0 : mixed c 2 / 1009 % 8 = 0 := V.int.inj (of_decide_eq_true e)
          refine ⟨_, rfl, _, _, _, _, rfl, rfl, .inl (.inl d1), atI_nat (j := 0) rfl, _, _, rfl, rfl, _, rfl, _, _, _, 0, rfl, rfl, d1, rfl, fin _ ?_⟩
          unfold changed
          rw [if_pos e0]
          exact hR.row hp hr (1 - r.p) r.n
        have e0 : ¬ mixed c 2 / 1009 % 8 = 0 := fun z => e (decide_eq_true (congrArg V.int z))
        refine ⟨_, rfl, _, _, rfl, rfl, ⟨by decide, by decide⟩, _, _, rfl, rfl, (by show (0:Int) < 8; decide), rfl, _, rfl, ite2 (fun e => ?_) (fun e => ?_)⟩
        · have e1 : mixed c 2 / 1009 % 8 = 1 := V.int.inj (of_decide_eq_true e)
          refine ⟨_, rfl, _, _, rfl, by decide, by decide, _, rfl, _, _, rfl, rfl, (by omega : (0:Int) < wideOf ns most), _, rfl, _, _, _, 1, rfl, rfl, d1, rfl, fin _ ?_⟩
          unfold changed
          rw [if_neg e0, if_pos e1]
          exact hR.row hp hr r.p _
        have e1 : ¬ mixed c 2 / 1009 % 8 = 1 := fun z => e (decide_eq_true (congrArg V.int z))
        refine ⟨_, rfl, _, rfl, _, _, _, _, rfl, rfl, .inl (.inl d1), atI_nat (j := 2) rfl, _, _, rfl, .inl (.inl (.inl d2)), rfl, flat_ints _, _, rfl, ?_⟩
        rw [inV_int]
        cases hin : decide ((mixed c 2 / manyOf ns most % manyOf ns most) ∈ r.ws) with
        | false =>
          have hno : (mixed c 2 / manyOf ns most % manyOf ns most) ∉ r.ws := of_decide_eq_false hin
          refine iteT ⟨_, rfl, _, _, _, _, rfl, rfl, .inl (.inl d1), atI_nat (j := 2) rfl, .inl ⟨rfl, _, .inl (.inl d2)⟩, _, rfl, _, _, _, rfl, rfl, d2, ?_, fin _ ?_⟩
          · rw [List.length_map]
            exact small1000 (by omega)
          · unfold changed
            rw [if_neg e0, if_neg e1, if_pos hno]
            have := hR.ways hp hr (r.ws ++ [(mixed c 2 / manyOf ns most % manyOf ns most)])
            rw [List.map_append] at this
            exact this
        | true =>
          have hyes : (mixed c 2 / manyOf ns most % manyOf ns most) ∈ r.ws := of_decide_eq_true hin
          refine iteF ⟨_, rfl, _, _, _, _, rfl, rfl, .inl (.inl d1), atI_nat (j := 2) rfl, _, _, rfl, .inl (.inl (.inl d2)), _, _, rfl, rfl, _, rfl, ite2 (fun e => ?_) (fun e => ?_)⟩
          · have e2 : 1 < r.ws.length := by
              have := of_decide_eq_true e
              rw [List.length_map] at this
              omega
            have hix := List.idxOf_lt_length_of_mem hyes
            refine ⟨_, rfl, _, _, _, _, rfl, rfl, .inl (.inl d1), atI_nat (j := 2) rfl, .inl ⟨rfl, _, .inl (.inl d2)⟩, _, rfl, p.2, r.ws, (mixed c 2 / manyOf ns most % manyOf ns most), r.ws.idxOf (mixed c 2 / manyOf ns most % manyOf ns most), rfl, rfl, d2, ?_, fun m hm hz => ?_, fin _ ?_⟩
            · rw [List.getElem?_eq_getElem hix, List.getElem_idxOf]
            · have := List.not_of_lt_findIdx (p := fun x => x == (mixed c 2 / manyOf ns most % manyOf ns most)) hm
              rw [List.getElem?_eq_getElem (Nat.lt_trans hm hix)] at hz
              rw [Option.some.inj hz] at this
              simp at this
            · unfold changed
              rw [if_neg e0, if_neg e1, if_neg (fun h => h hyes), if_pos e2]
              exact hR.ways hp hr _
          · have e2 : ¬ 1 < r.ws.length := fun z => e (decide_eq_true (by rw [List.length_map]; omega))
            refine fin _ ?_
            unfold changed
            rw [if_neg e0, if_neg e1, if_neg (fun h => h hyes), if_neg e2]
            exact hR.id hr
      · -- return [(row[0], row[1], row[2]) for row in rows]
        obtain ⟨y6, y7, y8, y9, y10, rs, rfl, hR⟩ := hP
        rw [List.length_map, List.take_length] at hR
        have hg : ns.foldl (cellStep (manyOf ns most) (wideOf ns most)) (rows0 (mixed (headOr ns) 1) (manyOf ns most) (wideOf ns most) (manyOf ns most).toNat) = lawGame ns most := rfl
        rw [hg] at hR
        obtain ⟨g1, g2, g3⟩ := lawGame_ok (ns := ns) hm1 hm2
        refine ⟨_, rfl, L, rfl, ⟨_, .inl (.inl hR.list)⟩, fun D nD => lc_rowsP (lawGame ns most) (by rw [List.length_map, hR.len]) (.inl (.inl hR.list)) nD (by rw [List.length_map, hR.len]; have := g1.1; omega) (fun i x r H3 Q' hx hr sm3 _ hQ => ?_) (fun H3 ts sm3 pr => q _ _ ts (hR.same.trans sm3) pr)⟩
        rw [List.getElem?_map] at hx
        obtain ⟨p, hp, rfl⟩ := Option.map_eq_some_iff.mp hx
        obtain ⟨n1, n2, d1, d2⟩ := hR.at_ i p r hp hr
        have d1' := sm3 _ _ d1
        exact ⟨rfl, _, rfl, _, _, _, _, rfl, rfl, .inl (.inl d1'), atI_nat (j := 0) rfl, _, rfl, _, _, _, _, rfl, rfl, .inl (.inl d1'), atI_nat (j := 1) rfl, _, rfl, _, _, _, _, rfl, rfl, .inl (.inl d1'), atI_nat (j := 2) rfl, (by show 3 ≤ sizeLine; decide), fun T nT => hQ _ _ _ (same_upd nT) nT (ne_of_none d2 nD) upd_same (by rw [upd_ne (ne_of_none (sm3 _ _ d2) nT)]; exact sm3 _ _ d2)⟩
end
end G

namespace G
open PySem PySem.Spec PyProof.Rows L2
abbrev s__law_copied : Stmt := topS 46
theorem sc__law_copied : FnScope ["_law_game_here", "_law_player", "_law_number", "_law_ways"] ["_law_game_here"] (defScope s__law_copied) := ⟨rfl, rfl, rfl, by decide +kernel, rfl, by decide +kernel, by decide +kernel⟩
section
variable {P : Program} {w : World} {K : PySem.W.Frag} {mg : Str → Option Value} {base : Heap}
def spCopiedP (K : PySem.W.Frag) : Sp := fun vs H Q _ => ∃ (v : V) (g : List Row), vs = [v] ∧ Dp K H v (gameD g) ∧ g.length ≤ 40 ∧ ∀ H' p ts, Same H H' → H p = none → PRows H' p ts g → Q (.ref p) H'
theorem ok_law_copiedP {f : Addr} {fd : FuncData} (B : Bt mg) (F : Fun K "_law_copied" "_law_copied" s__law_copied f fd) : FnOk P w K mg base (L2.CX P w) 1 f fd ["_law_game_here"] (spCopiedP K) := by
  refine F.okX sc__law_copied (fun vs H Q E h => ?_) (fun cdv Ar outer s H vs Q E hr h => ?_)
  · obtain ⟨v, g, rfl, _⟩ := h
    rfl
  · obtain ⟨v, g, rfl, hg, hl, q⟩ := h
    refine ⟨_, (pss_one (ps_ret (pe_lc (own := [("_law_player", 1), ("_law_number", 2), ("_law_ways", 3)]) (by rfl) sc__law_copied.nd (pi_list (pv 0)) (blkOk_by (own := [("_law_player", 1), ("_law_number", 2), ("_law_ways", 3)]) (N := ["_law_game_here", "_law_player", "_law_number", "_law_ways"]) (sc := defScope s__law_copied) (by decide +kernel)) (fun _ _ _ _ _ => (kr_pg_tup (K := K) (n := 3) (by rfl) (by rfl) (pgs_cons (pg_name (i := 1) sc__law_copied.nd rfl (Or.inl rfl)) (pgs_cons (pg_name (i := 2) sc__law_copied.nd rfl (Or.inl rfl)) (pgs_cons (pg_name (i := 3) sc__law_copied.nd rfl (Or.inl rfl)) pgs_nil))))) (fun _ _ _ _ _ => pts_nil) (fun _ _ _ _ _ => (pe_tup (pa_cons (pv 1) (pa_cons (pv 2) (pa_cons (pe_callTy (kr_call_list_of (K := K) rfl) (by rfl) B.list_ (by decide +kernel) (pa_cons (pv 3) pa_nil)) pa_nil)))))))), ?_⟩
    obtain ⟨ag, xg, rfl, hG, hGl, hGr⟩ := dp_game hg
    refine ⟨_, rfl, ag, rfl, ⟨_, hG⟩, fun D nD => lc_rowsP g (by rw [hGl]) hG nD (by omega) (fun i x r H3 Q' hx hr sm3 hacc hQ => ?_) (fun H3 ts sm3 pr => q H3 D ts sm3 nD pr)⟩
    obtain ⟨t, wy, ht, hT, hW⟩ := hGr i r hr
    rw [hx] at ht
    cases ht
    obtain ⟨acc, hacc⟩ := hacc
    refine ⟨t, _, rfl, same_sqt sm3 hT, rfl, _, _, rfl, _, _, rfl, _, _, rfl, rfl, rfl, _, rfl, _, rfl, _, rfl, wy, _, rfl, .inl (sm3.seq hW), fun l nl => ⟨(by show 3 ≤ sizeLine; decide), fun T nT => hQ _ _ l ((same_upd nl).trans (same_upd nT)) (Same.free (same_upd nl) nT) (ne_of_none hacc nl).symm upd_same ?_⟩⟩
    have lT : l ≠ T := fun e => by
      rw [← e, upd_same] at nT
      cases nT
    rw [upd_ne lT, upd_same]
end
end G

namespace G
open PySem PySem.Spec PyProof.Rows L2
abbrev s__law_word : Stmt := topS 47
theorem sc__law_word : FnScope ["_law_e", "_law_kinds"] ["_law_e"] (defScope s__law_word) := ⟨rfl, rfl, rfl, by decide +kernel, rfl, by decide +kernel, by decide +kernel⟩
/-! ### xs.count(y) of flat things -/
theorem count_eqU {x : V} : ∀ {xs : List V} {us : List Value}, Vals xs us → xs.all flatV = true → us.countP (eqU x) = xs.countP fun y => eqV y x
  | [], _, .nil, _ => rfl
  | y :: xs, u :: us, .cons r t, f => by
    rw [List.all_cons, Bool.and_eq_true] at f
    rw [List.countP_cons, List.countP_cons, eqU_of r f.1, count_eqU t f.2]
def rCntF (K : PySem.W.Frag) : V → List V → Hp → VK → Prop := fun x xs H Q => ∃ (p : Addr) (ys : List V) (y : V), x = .ref p ∧ xs = [y] ∧ SqL K H p ys ∧ flatV y = true ∧ ys.all flatV = true ∧ Q (.int (ys.countP fun z => eqV z y : Nat)) H
theorem mt_countF {X : Cx} : MtR X "list.count" (rCntF X.K) := by
  intro pins s σ H x xs v us Q I rx rxs h
  obtain ⟨p, ys, y, rfl, rfl, hs, fy, fys, q⟩ := h
  cases rx
  obtain ⟨u, rfl, ru⟩ := rxs.one
  obtain ⟨its, rv, ⟨⟨cls, dd, data, sl⟩, n, ho, hc, hdn, hd⟩, hlen⟩ := I.list hs
  simp only at hc hd
  subst hc hd
  refine call_meets PySem.F.slot_list_count ⟨_, ho, rfl⟩ PySem.F.entry_list_count (PySem.F.args_list_count_2 _ _) (SeqAt.list_countAt p its.toArray n dd sl u (eqU y)) ⟨ho, fun z hz => mem_eqAt ru fy rv fys z (by simpa using hz), ?_⟩
  refine ⟨.int (ys.countP fun z => eqV z y : Nat), H, I.tok _, ⟨s.toks, ?_⟩, q⟩
  show Value.int ((its.toArray.toList.countP (eqU y) : Nat) : Int) s.toks = _
  rw [show its.toArray.toList = its by simp, count_eqU rv fys]
/-! ### classes -/
structure Tx (K : PySem.W.Frag) (mg : Str → Option Value) (A : Ads) : Prop where
  g_BadGame : mg "BadGame" = some (.ref A.BadGame)
  g_BadSteps : mg "BadSteps" = some (.ref A.BadSteps)
  g_BadPlace : mg "BadPlace" = some (.ref A.BadPlace)
  g_BadPlayer : mg "BadPlayer" = some (.ref A.BadPlayer)
  g_TooMany : mg "TooMany" = some (.ref A.TooMany)
  g_GongError : mg "GongError" = some (.ref A.GongError)
/-- the class at D is the k-th of: game, player, place, steps, many -/
structure ErrKind (K : PySem.W.Frag) (A : Ads) (D : Addr) (k : Nat) : Prop where
  xc : ExcC K D
  k0 : PySem.W.kitOne K (.ref D) (.ref A.BadGame) = some (k == 0)
  k1 : PySem.W.kitOne K (.ref D) (.ref A.BadPlayer) = some (k == 1)
  k2 : PySem.W.kitOne K (.ref D) (.ref A.BadPlace) = some (k == 2)
  k3 : PySem.W.kitOne K (.ref D) (.ref A.BadSteps) = some (k == 3)
  k4 : PySem.W.kitOne K (.ref D) (.ref A.TooMany) = some (k == 4)
  ve : PySem.W.kitOne K (.ref D) (.type "ValueError") = some true
def wordOf : Nat → Str
  | 0 => "game" | 1 => "player" | 2 => "place" | 3 => "steps" | _ => "many"
section
variable {P : Program} {w : World} {K : PySem.W.Frag} {mg : Str → Option Value} {base : Heap}
def spWord (K : PySem.W.Frag) (A : Ads) : Sp := fun vs H Q _ => ∃ v : V, vs = [v] ∧ ((v = .non ∧ Q (.str "none") H) ∨ ∃ (a D : Addr) (d : Option Addr) (k : Nat), v = .ref a ∧ H a = some (exH a (.ref D) d) ∧ DictOk H d ∧ ErrKind K A D k ∧ k < 5 ∧ ∀ H', Same H H' → Q (.str (wordOf k)) H')
theorem dictOk_mono {H H' : Hp} {d : Option Addr} (s : Same H H') (h : DictOk H d) : DictOk H' d := by
  cases d with
  | none => trivial
  | some dd =>
    obtain ⟨fs, h⟩ := h
    exact ⟨fs, s _ _ h⟩
theorem ok_law_word {f : Addr} {fd : FuncData} {A : Ads} (B : Bt mg) (T : Tx K mg A) (F : Fun K "_law_word" "_law_word" s__law_word f fd) : FnOk P w K mg base (L2.CX P w) 1 f fd ["_law_e"] (spWord K A) := by
  refine F.okX sc__law_word (fun vs H Q E h => ?_) (fun cdv Ar outer s H vs Q E hr h => ?_)
  · obtain ⟨v, rfl, _⟩ := h
    rfl
  · obtain ⟨v, rfl, h⟩ := h
    refine ⟨_, (pss_cons (ps_if (pt_cmpR op_isN (pv 0) pe_non (nomark _)) (pss_one (ps_ret pe_str)) pss_nil)
      (pss_cons (ps_set (i := 1) sc__law_word.nd rfl (Or.inl rfl) (pe_lst (pa_cons (pe_callB call_isX (by rfl) B.isinstance_ (by decide +kernel) (pa_cons (pv 0) (pa_cons (pe_glob (v := .ref A.BadGame) (by rfl) T.g_BadGame rfl) pa_nil))) (pa_cons (pe_callB call_isX (by rfl) B.isinstance_ (by decide +kernel) (pa_cons (pv 0) (pa_cons (pe_glob (v := .ref A.BadPlayer) (by rfl) T.g_BadPlayer rfl) pa_nil))) (pa_cons (pe_callB call_isX (by rfl) B.isinstance_ (by decide +kernel) (pa_cons (pv 0) (pa_cons (pe_glob (v := .ref A.BadPlace) (by rfl) T.g_BadPlace rfl) pa_nil))) pa_nil)))))
      (pss_cons (ps_set (i := 1) sc__law_word.nd rfl (Or.inl rfl) (pe_op op_cat (pv 1) (pe_lst (pa_cons (pe_callB call_isX (by rfl) B.isinstance_ (by decide +kernel) (pa_cons (pv 0) (pa_cons (pe_glob (v := .ref A.BadSteps) (by rfl) T.g_BadSteps rfl) pa_nil))) (pa_cons (pe_callB call_isX (by rfl) B.isinstance_ (by decide +kernel) (pa_cons (pv 0) (pa_cons (pe_glob (v := .ref A.TooMany) (by rfl) T.g_TooMany rfl) pa_nil))) pa_nil)))))
      (pss_cons (ps_if (PW.pt (pw_or (pt_cmpR op_ne (pe_bm PySem.F.plainAttrs_list PySem.F.slot_list_count PySem.F.type_list_count mt_countF (pv 1) (pa_cons pe_bl pa_nil)) pe_int (nomark _)) (pw_or1 (pt_not (pt_val (pe_callB call_isX (by rfl) B.isinstance_ (by decide +kernel) (pa_cons (pv 0) (pa_cons (pe_bltn (v := .ty "ValueError") (u := .type "ValueError") (by rfl) B.ValueError_ (by decide +kernel) rfl) pa_nil)))))))) (pss_one (ps_ret pe_str)) pss_nil)
      (pss_one (ps_ret (pe_ix ix_list (pe_lst (pa_cons pe_str (pa_cons pe_str (pa_cons pe_str (pa_cons pe_str (pa_cons pe_str pa_nil)))))) (pe_bm PySem.F.plainAttrs_list PySem.F.slot_list_index PySem.F.type_list_index mt_index (pv 1) (pa_cons pe_bl pa_nil)) (fun _ _ => rfl)))))))), ?_⟩
    rcases h with ⟨rfl, q⟩ | ⟨a, D, d, k, rfl, ea, hd, X, hk, q⟩
    · exact ⟨_, rfl, rfl, _, rfl, iteT q⟩
    · refine ⟨_, rfl, rfl, _, rfl, iteF ?_⟩
      -- kinds = [.., .., ..]
      refine ⟨_, rfl, a, D, d, _, _, _, rfl, X.xc, ea, hd, .own _, X.k0, _, rfl, a, D, d, _, _, _, rfl, X.xc, ea, hd, .own _, X.k1, _, rfl, a, D, d, _, _, _, rfl, X.xc, ea, hd, .own _, X.k2, (by show 3 ≤ sizeLine; decide), fun l1 n1 => ?_⟩
      have s1 : Same H (upd H l1 (.lst [.bl (k == 0), .bl (k == 1), .bl (k == 2)])) := same_upd n1
      -- kinds = kinds + [.., ..]
      refine ⟨_, rfl, _, rfl, a, D, d, _, _, _, rfl, X.xc, s1 _ _ ea, dictOk_mono s1 hd, .own _, X.k3, _, rfl, a, D, d, _, _, _, rfl, X.xc, s1 _ _ ea, dictOk_mono s1 hd, .own _, X.k4, (by show 2 ≤ sizeLine; decide), fun l2 n2 => ?_⟩
      have s2 := s1.trans (same_upd (o := .lst [.bl (k == 3), .bl (k == 4)]) n2)
      have l12 : l1 ≠ l2 := fun e => by
        rw [← e, upd_same] at n2
        cases n2
      refine ⟨l1, l2, _, _, rfl, rfl, by rw [upd_ne l12, upd_same], upd_same, (by show 5 ≤ sizeLine; decide), fun l3 n3 => ?_⟩
      have s3 := s2.trans (same_upd (o := .lst ([.bl (k == 0), .bl (k == 1), .bl (k == 2)] ++ [.bl (k == 3), .bl (k == 4)])) n3)
      have hfl : ([.bl (k == 0), .bl (k == 1), .bl (k == 2)] ++ [.bl (k == 3), .bl (k == 4)] : List V).all flatV = true := rfl
      refine ⟨.ref l3, rfl, .inl ⟨rfl, _, .inl (.inl upd_same)⟩, l3, _, _, rfl, rfl, .inl (.inl upd_same), rfl, hfl, rfl, _, rfl, ?_⟩
      have hcnt : (([.bl (k == 0), .bl (k == 1), .bl (k == 2)] ++ [.bl (k == 3), .bl (k == 4)] : List V).countP fun z => eqV z (.bl true)) = 1 := by
        have : k = 0 ∨ k = 1 ∨ k = 2 ∨ k = 3 ∨ k = 4 := by omega
        rcases this with rfl | rfl | rfl | rfl | rfl <;> rfl
      rw [hcnt]
      refine iteF ⟨_, rfl, a, D, d, _, _, _, rfl, X.xc, s3 _ _ ea, dictOk_mono s3 hd, .ty _, X.ve, _, rfl, iteF ?_⟩
      -- the word
      refine ⟨(by show 5 ≤ sizeLine; decide), fun l4 n4 => ?_⟩
      have s4 := s3.trans (same_upd (o := .lst [.str "game", .str "player", .str "place", .str "steps", .str "many"]) n4)
      have l34 : l3 ≠ l4 := fun e => by
        rw [← e, upd_same] at n4
        cases n4
      have q' := q _ s4
      have hl3 : ∀ xs, (upd (upd (upd (upd H l1 (.lst [.bl (k == 0), .bl (k == 1), .bl (k == 2)])) l2 (.lst [.bl (k == 3), .bl (k == 4)])) l3 (.lst ([.bl (k == 0), .bl (k == 1), .bl (k == 2)] ++ [.bl (k == 3), .bl (k == 4)]))) l4 (.lst xs)) l3 = some (.lst ([.bl (k == 0), .bl (k == 1), .bl (k == 2)] ++ [.bl (k == 3), .bl (k == 4)])) := fun xs => by rw [upd_ne l34, upd_same]
      refine ⟨.ref l3, rfl, .inl ⟨rfl, _, .inl (.inl (hl3 _))⟩, l3, _, .bl true, k, .bl true, rfl, rfl, .inl (.inl (hl3 _)), rfl, hfl, ?_, rfl, ?_, l4, _, _, .str (wordOf k), rfl, rfl, .inl (.inl upd_same), ?_, q'⟩
      · have : k = 0 ∨ k = 1 ∨ k = 2 ∨ k = 3 ∨ k = 4 := by omega
        rcases this with rfl | rfl | rfl | rfl | rfl <;> rfl
      · intro m z' hm hz
        have : k = 0 ∨ k = 1 ∨ k = 2 ∨ k = 3 ∨ k = 4 := by omega
        have hm5 : m = 0 ∨ m = 1 ∨ m = 2 ∨ m = 3 := by omega
        rcases this with rfl | rfl | rfl | rfl | rfl <;> rcases hm5 with rfl | rfl | rfl | rfl <;> first | omega | (cases hz; rfl)
      · have : k = 0 ∨ k = 1 ∨ k = 2 ∨ k = 3 ∨ k = 4 := by omega
        rcases this with rfl | rfl | rfl | rfl | rfl <;> exact atI_nat rfl
end
end G

namespace PG
open Relation
structure Gm where
  own : Int → Int
  num : Int → Int
  way : Int → Int → Prop
def Gm.Ed (G : Gm) (i : Int) (f : Int → Int) (p q : Int) : Prop := (G.own p = i → q = f p) ∧ (G.own p ≠ i → G.way p q)
def Gm.sub (G : Gm) (V : Int → Prop) : Gm := ⟨G.own, G.num, fun p q => G.way p q ∧ V p ∧ V q⟩
def Lp (G : Gm) (i : Int) (f : Int → Int) (W : Int → Prop) (v p q : Int) : Prop := W p ∧ G.Ed i f p q ∧ G.num p ≤ G.num v
structure Good (G : Gm) (i : Int) (W : Int → Prop) (f : Int → Int) : Prop where
  step : ∀ p, W p → G.own p = i → G.way p (f p)
  stay : ∀ p q, W p → G.Ed i f p q → W q
  ring : ∀ v, W v → TransGen (Lp G i f W v) v v → G.num v % 2 = i
theorem tg_mono {r s : Int → Int → Prop} (h : ∀ p q, r p q → s p q) {a b : Int} (t : TransGen r a b) : TransGen s a b := by
  induction t with
  | single e => exact .single (h _ _ e)
  | tail _ e ih => exact .tail ih (h _ _ e)
/- what holds at the first and goes over holds along -/
theorem tg_along {r : Int → Int → Prop} {S : Int → Prop} (h : ∀ p q, S p → r p q → S q) {a b : Int} (ha : S a) (t : TransGen r a b) : S b ∧ TransGen (fun p q => S p ∧ r p q) a b := by
  induction t with
  | single e => exact ⟨h _ _ ha e, .single ⟨ha, e⟩⟩
  | tail _ e ih => exact ⟨h _ _ ih.1 e, .tail ih.2 ⟨ih.1, e⟩⟩
/- once in a closed set, for ever in it: a ring from without stays without -/
theorem tg_out {r : Int → Int → Prop} {S : Int → Prop} (h : ∀ p q, S p → r p q → S q) {a b : Int} (hb : ¬ S b) (t : TransGen r a b) : ¬ S a ∧ TransGen (fun p q => ¬ S p ∧ ¬ S q ∧ r p q) a b := by
  have key : ∀ {a b : Int}, TransGen r a b → ¬ S b → ¬ S a ∧ TransGen (fun p q => ¬ S p ∧ ¬ S q ∧ r p q) a b := by
    intro a b t
    induction t with
    | single e => exact fun hb => ⟨fun ha => hb (h _ _ ha e), .single ⟨fun ha => hb (h _ _ ha e), hb, e⟩⟩
    | tail _ e ih =>
      intro hb
      have hm := fun ha => hb (h _ _ ha e)
      have := ih hm
      exact ⟨this.1, .tail this.2 ⟨hm, hb, e⟩⟩
  exact key t hb
theorem tg_rank {r : Int → Int → Prop} {k : Int → Nat} (h : ∀ p q, r p q → k q < k p) {a b : Int} (t : TransGen r a b) : k b < k a := by
  induction t with
  | single e => exact h _ _ e
  | tail _ e ih => exact Nat.lt_trans (h _ _ e) ih
theorem ed_congr {G : Gm} {i : Int} {f g : Int → Int} {p q : Int} (h : f p = g p) (e : G.Ed i f p q) : G.Ed i g p q := ⟨fun o => (e.1 o).trans h, e.2⟩
theorem Good.congr {G : Gm} {i : Int} {W : Int → Prop} {f g : Int → Int} (h : Good G i W f) (e : ∀ p, W p → G.own p = i → f p = g p) : Good G i W g := by
  have e' : ∀ p q, W p → G.Ed i g p q → G.Ed i f p q := fun p q hp hq => ⟨fun o => (hq.1 o).trans (e p hp o).symm, hq.2⟩
  exact ⟨fun p hp o => e p hp o ▸ h.step p hp o, fun p q hp hq => h.stay p q hp (e' p q hp hq),
    fun v hv t => h.ring v hv (tg_mono (fun p q z => ⟨z.1, e' p q z.1 z.2.1, z.2.2⟩) t)⟩
theorem Good.iff {G : Gm} {i : Int} {W W' : Int → Prop} {f : Int → Int} (h : Good G i W f) (e : ∀ p, W p ↔ W' p) : Good G i W' f := by
  have : W = W' := funext fun p => propext (e p)
  exact this ▸ h
/- two layers: what goes from M goes to M or to L -/
theorem Good.union {G : Gm} {i : Int} {L M : Int → Prop} {f : Int → Int} (hL : Good G i L f) (hs : ∀ p, M p → G.own p = i → G.way p (f p)) (hc : ∀ p q, M p → G.Ed i f p q → M q ∨ L q)
    (hr : ∀ v, M v → TransGen (Lp G i f M v) v v → G.num v % 2 = i) : Good G i (fun p => M p ∨ L p) f := by
  refine ⟨fun p hp o => hp.elim (hs p · o) (hL.step p · o), fun p q hp e => hp.elim (hc p q · e) (fun h => .inr (hL.stay p q h e)), fun v hv t => ?_⟩
  have cl : ∀ p q, L p → Lp G i f (fun p => M p ∨ L p) v p q → L q := fun p q hp z => hL.stay p q hp z.2.1
  by_cases h : L v
  · exact hL.ring v h (tg_mono (fun p q z => ⟨z.1, z.2.2.1, z.2.2.2⟩) (tg_along cl h t).2)
  · have hm : M v := hv.resolve_right h
    exact hr v hm (tg_mono (fun p q z => ⟨z.2.2.1.resolve_right z.1, z.2.2.2.1, z.2.2.2.2⟩) (tg_out cl h t).2)
/- led to T within A, by ranks -/
structure Attr (G : Gm) (i : Int) (T A : Int → Prop) (f : Int → Int) (k : Int → Nat) : Prop where
  sup : ∀ p, T p → A p
  own : ∀ p, A p → ¬ T p → G.own p = i → G.way p (f p) ∧ A (f p) ∧ k (f p) < k p
  oth : ∀ p, A p → ¬ T p → G.own p ≠ i → ∀ q, G.way p q → A q ∧ k q < k p
structure Full (G : Gm) (V : Int → Prop) (i : Int) (A : Int → Prop) : Prop where
  own : ∀ p q, V p → ¬ A p → G.own p = i → G.way p q → ¬ A q
  oth : ∀ p, V p → ¬ A p → G.own p ≠ i → ∃ q, G.way p q ∧ ¬ A q
theorem Attr.ed {G : Gm} {i : Int} {T A : Int → Prop} {f : Int → Int} {k : Int → Nat} (h : Attr G i T A f k) {p q : Int} (hp : A p) (hn : ¬ T p) (e : G.Ed i f p q) : A q ∧ k q < k p := by
  by_cases o : G.own p = i
  · rw [e.1 o]; exact (h.own p hp hn o).2
  · exact h.oth p hp hn o q (e.2 o)
theorem Attr.good {G : Gm} {i : Int} {T A : Int → Prop} {f : Int → Int} {k : Int → Nat} (h : Attr G i T A f k) (hT : Good G i T f) : Good G i A f := by
  refine (Good.union (M := fun p => A p ∧ ¬ T p) hT (fun p hp o => (h.own p hp.1 hp.2 o).1) (fun p q hp e => ?_) (fun v hv t => ?_)).iff fun p => ⟨fun z => z.elim (·.1) (h.sup p), fun z => ?_⟩
  · by_cases hq : T q
    · exact .inr hq
    · exact .inl ⟨(h.ed hp.1 hp.2 e).1, hq⟩
  · exact absurd (tg_rank (k := k) (fun p q z => (h.ed z.1.1 z.1.2 z.2.1).2) t) (Nat.lt_irrefl _)
  · by_cases hz : T p
    · exact .inr hz
    · exact .inl ⟨z, hz⟩
/- what is good in a part from which the other one can't go out is good in the whole -/
theorem Good.lift {G : Gm} {V : Int → Prop} {i : Int} {W : Int → Prop} {f : Int → Int} (h : Good (G.sub V) i W f) (hW : ∀ p, W p → V p) (hv : ∀ p q, W p → G.own p ≠ i → G.way p q → V q) : Good G i W f := by
  have ed : ∀ p q, W p → G.Ed i f p q → (G.sub V).Ed i f p q := fun p q hp e => ⟨e.1, fun o => ⟨e.2 o, hW p hp, hv p q hp o (e.2 o)⟩⟩
  exact ⟨fun p hp o => (h.step p hp o).1, fun p q hp e => h.stay p q hp (ed p q hp e), fun v hv t => h.ring v hv (tg_mono (fun p q z => ⟨z.1, ed p q z.1 z.2.1, z.2.2⟩) t)⟩
/- what is good in the rest joins what is good for all -/
theorem Good.join {G : Gm} {V : Int → Prop} {i : Int} {W B : Int → Prop} {f : Int → Int} (h : Good (G.sub V) i W f) (hB : Good G i B f) (hW : ∀ p, W p → V p) (hv : ∀ p q, W p → G.own p ≠ i → G.way p q → V q ∨ B q) : Good G i (fun p => W p ∨ B p) f := by
  refine Good.union hB (fun p hp o => (h.step p hp o).1) (fun p q hp e => ?_) fun v hv' t => ?_
  · by_cases o : G.own p = i
    · exact .inl (h.stay p q hp ⟨e.1, fun z => absurd o z⟩)
    · exact (hv p q hp o (e.2 o)).imp_left fun z => h.stay p q hp ⟨e.1, fun _ => ⟨e.2 o, hW p hp, z⟩⟩
  · have nx : ∀ p q, W p → Lp G i f W v p q → W q → (G.sub V).Ed i f p q := fun p q hp z hq => ⟨z.2.1.1, fun o => ⟨z.2.1.2 o, hW p hp, hW q hq⟩⟩
    have key : ∀ {a b : Int}, TransGen (Lp G i f W v) a b → W b → TransGen (Lp (G.sub V) i f W v) a b := by
      intro a b t
      induction t with
      | single e => exact fun hb => .single ⟨e.1, nx _ _ e.1 e hb, e.2.2⟩
      | tail _ e ih => exact fun hb => .tail (ih e.1) ⟨e.1, nx _ _ e.1 e hb, e.2.2⟩
    exact h.ring v hv' (key t hv')
/- all of V: the greatest numbers are the player's, the rest is won -/
theorem Good.top {G : Gm} {V T A : Int → Prop} {i d : Int} {f : Int → Int} {k : Int → Nat} (hd : d % 2 = i) (hV : ∀ p q, V p → G.way p q → V q) (hn : ∀ p, V p → G.num p ≤ d) (hA : ∀ p, A p → V p) (hT : ∀ p, T p → G.num p = d)
    (ha : Attr G i T A f k) (ht : ∀ p, T p → G.own p = i → G.way p (f p)) (h : Good (G.sub fun p => V p ∧ ¬ A p) i (fun p => V p ∧ ¬ A p) f) : Good G i V f := by
  have st : ∀ p, V p → G.own p = i → G.way p (f p) := fun p hp o => by
    by_cases a : A p
    · by_cases t : T p
      · exact ht p t o
      · exact (ha.own p a t o).1
    · exact (h.step p ⟨hp, a⟩ o).1
  have sy : ∀ p q, V p → G.Ed i f p q → V q := fun p q hp e => by
    by_cases o : G.own p = i
    · rw [e.1 o]; exact hV p _ hp (st p hp o)
    · exact hV p q hp (e.2 o)
  refine ⟨st, sy, fun v hv t => ?_⟩
  by_cases hvd : G.num v = d
  · rw [hvd]; exact hd
  · have hlt : G.num v < d := Int.lt_iff_le_and_ne.mpr ⟨hn v hv, hvd⟩
    have nT : ∀ p q, Lp G i f V v p q → ¬ T p := fun p q z tp => by have := hT p tp; have := z.2.2; omega
    have cl : ∀ p q, A p → Lp G i f V v p q → A q := fun p q hp z => (ha.ed hp (nT p q z) z.2.1).1
    by_cases a : A v
    · exact absurd (tg_rank (k := k) (fun p q z => (ha.ed z.1 (nT p q z.2) z.2.2.1).2) (tg_along cl a t).2) (Nat.lt_irrefl _)
    · exact h.ring v ⟨hv, a⟩ (tg_mono (fun p q z => ⟨⟨z.2.2.1, z.1⟩, ⟨z.2.2.2.1.1, fun o => ⟨z.2.2.2.1.2 o, ⟨z.2.2.1, z.1⟩, ⟨sy p q z.2.2.1 z.2.2.2.1, z.2.1⟩⟩⟩, z.2.2.2.2⟩) (tg_out cl a t).2)
end PG

namespace PG
open Relation
def it (f : Int → Int) : Nat → Int → Int
  | 0, x => x
  | k + 1, x => f (it f k x)
theorem it_add (f : Int → Int) (a : Nat) (x : Int) : ∀ b, it f (b + a) x = it f b (it f a x)
  | 0 => by rw [Nat.zero_add]; rfl
  | b + 1 => by rw [Nat.succ_add]; exact congrArg f (it_add f a x b)
theorem it_mem {f : Int → Int} {W : Int → Prop} (h : ∀ p, W p → W (f p)) {x : Int} (hx : W x) : ∀ k, W (it f k x)
  | 0 => hx
  | k + 1 => h _ (it_mem h hx k)
theorem it_per {f : Int → Int} {x : Int} {k : Nat} (hk : it f k x = x) : ∀ m, it f (m * k) x = x
  | 0 => by rw [Nat.zero_mul]; rfl
  | m + 1 => by rw [Nat.succ_mul, it_add, hk]; exact it_per hk m
theorem it_mod {f : Int → Int} {x : Int} {k : Nat} (hk : it f k x = x) (m : Nat) : it f m x = it f (m % k) x := by
  have := it_add f (m / k * k) x (m % k)
  rw [it_per hk, Nat.mod_add_div' m k] at this
  exact this
/- a greatest one among the first k -/
theorem top_of (F : Nat → Int) : ∀ k, 0 < k → ∃ a, a < k ∧ ∀ m, m < k → F m ≤ F a
  | 1, _ => ⟨0, Nat.one_pos, fun m hm => by have : m = 0 := by omega
                                            rw [this]; exact Int.le_refl _⟩
  | k + 2, _ => by
    obtain ⟨a, ha, h⟩ := top_of F (k + 1) (Nat.succ_pos _)
    by_cases e : F a ≤ F (k + 1)
    · exact ⟨k + 1, by omega, fun m hm => by
        by_cases hm' : m < k + 1
        · exact Int.le_trans (h m hm') e
        · have : m = k + 1 := by omega
          rw [this]; exact Int.le_refl _⟩
    · exact ⟨a, by omega, fun m hm => by
        by_cases hm' : m < k + 1
        · exact h m hm'
        · have : m = k + 1 := by omega
          rw [this]; omega⟩
theorem tg_it {f : Int → Int} {r : Int → Int → Prop} {x : Int} (h : ∀ m, r (it f m x) (f (it f m x))) : ∀ k, TransGen r x (it f (k + 1) x)
  | 0 => .single (h 0)
  | k + 1 => .tail (tg_it h k) (h (k + 1))
/- the greatest number of a ring gone round by such steps is the player's -/
theorem Good.wins {G : Gm} {i : Int} {W : Int → Prop} {f g : Int → Int} (h : Good G i W f) (hg : ∀ p, W p → G.Ed i f p (g p)) {x : Int} (hx : W x) {k : Nat} (hk : it g (k + 1) x = x) {v : Int} (hv : ∃ a, v = it g a x) (ht : ∀ m, G.num (it g m x) ≤ G.num v) : G.num v % 2 = i := by
  obtain ⟨a, rfl⟩ := hv
  have inW := it_mem (f := g) (W := W) (fun p hp => h.stay p _ hp (hg p hp)) hx
  have per : it g (k + 1) (it g a x) = it g a x := by rw [← it_add, Nat.add_comm, it_add, hk]
  refine h.ring _ (inW a) ?_
  have := tg_it (f := g) (r := Lp G i f W (it g a x)) (x := it g a x) (fun m => by rw [← it_add]; exact ⟨inW _, hg _ (inW _), ht _⟩) k
  rw [per] at this
  exact this
/- pigeons: among so many places two are alike -/
theorem pig (n : Nat) (F : Nat → Int) (h : ∀ m, 0 ≤ F m ∧ F m < (n : Int)) : ∃ a b, a < b ∧ F a = F b := by
  have key : ∀ (n : Nat) (L : List Int), L.Nodup → (∀ y ∈ L, 0 ≤ y ∧ y < (n : Int)) → L.length ≤ n := by
    intro n
    induction n with
    | zero =>
      intro L hL hb
      cases L with
      | nil => exact Nat.le_refl _
      | cons y ys => have := hb y (List.mem_cons_self ..); omega
    | succ n ih =>
      intro L hL hb
      by_cases hm : (n : Int) ∈ L
      · have hl := List.length_erase_of_mem hm
        have h0 := List.length_pos_of_mem hm
        have := ih (L.erase n) (hL.erase _) (fun y hy => by
          have hy' := hL.mem_erase_iff.mp hy
          have := hb y hy'.2
          have h1 := hy'.1
          omega)
        omega
      · have := ih L hL (fun y hy => by
          have := hb y hy
          have : y ≠ (n : Int) := fun e => hm (e ▸ hy)
          omega)
        omega
  apply Classical.byContradiction
  intro hno
  have inj : ∀ a b, F a = F b → a = b := fun a b e => by
    rcases Nat.lt_trichotomy a b with h | h | h
    · exact absurd ⟨a, b, h, e⟩ hno
    · exact h
    · exact absurd ⟨b, a, h, e.symm⟩ hno
  have nd : ((List.range (n + 1)).map F).Nodup := by
    rw [List.nodup_iff_pairwise_ne, List.pairwise_map]
    exact (List.nodup_iff_pairwise_ne.mp List.nodup_range).imp fun hne e => hne (inj _ _ e)
  have := key n _ nd (fun y hy => by
    obtain ⟨m, _, rfl⟩ := List.mem_map.mp hy
    exact h m)
  rw [List.length_map, List.length_range] at this
  omega
/- both can't win from one place -/
theorem Good.disj {G : Gm} {n : Nat} {W0 W1 : Int → Prop} {f0 f1 : Int → Int} (h0 : Good G 0 W0 f0) (h1 : Good G 1 W1 f1) (hn : ∀ p, W0 p → 0 ≤ p ∧ p < (n : Int)) (ho : ∀ p, W0 p → G.own p = 0 ∨ G.own p = 1) {x : Int} (hx0 : W0 x) (hx1 : W1 x) : False := by
  let g : Int → Int := fun p => if G.own p = 0 then f0 p else f1 p
  have e0 : ∀ p, W0 p ∧ W1 p → G.Ed 0 f0 p (g p) := fun p hp => ⟨fun o => if_pos o, fun o => by
    have : g p = f1 p := if_neg o
    rw [this]
    exact h1.step p hp.2 ((ho p hp.1).resolve_left o)⟩
  have e1 : ∀ p, W0 p ∧ W1 p → G.Ed 1 f1 p (g p) := fun p hp => ⟨fun o => if_neg (by rw [o]; decide), fun o => by
    have o0 := (ho p hp.1).resolve_right o
    have : g p = f0 p := if_pos o0
    rw [this]
    exact h0.step p hp.1 o0⟩
  have cl : ∀ p, W0 p ∧ W1 p → W0 (g p) ∧ W1 (g p) := fun p hp => ⟨h0.stay p _ hp.1 (e0 p hp), h1.stay p _ hp.2 (e1 p hp)⟩
  have inB := it_mem (f := g) (W := fun p => W0 p ∧ W1 p) cl ⟨hx0, hx1⟩
  obtain ⟨a, b, hab, e⟩ := pig n (fun m => it g m x) fun m => hn _ (inB m).1
  have hk : it g (b - a - 1 + 1) (it g a x) = it g a x := by
    rw [← it_add, show b - a - 1 + 1 + a = b by omega]
    exact e.symm
  obtain ⟨c, hc, hm⟩ := top_of (fun m => G.num (it g m (it g a x))) (b - a - 1 + 1) (Nat.succ_pos _)
  have top : ∀ m, G.num (it g m (it g a x)) ≤ G.num (it g c (it g a x)) := fun m => by
    rw [it_mod hk m]
    exact hm _ (Nat.mod_lt _ (Nat.succ_pos _))
  have inC := it_mem (f := g) (W := fun p => W0 p ∧ W1 p) cl (inB a)
  have per : it g (b - a - 1 + 1) (it g c (it g a x)) = it g c (it g a x) := by rw [← it_add, Nat.add_comm, it_add, hk]
  have tp : ∀ m, G.num (it g m (it g c (it g a x))) ≤ G.num (it g c (it g a x)) := fun m => by rw [← it_add]; exact top _
  have w0 := h0.ring _ (inC c).1 (by
    have := tg_it (f := g) (r := Lp G 0 f0 W0 (it g c (it g a x))) (x := it g c (it g a x)) (fun m => ⟨(it_mem cl (inC c) m).1, e0 _ (it_mem (W := fun p => W0 p ∧ W1 p) cl (inC c) m), tp m⟩) (b - a - 1)
    rw [per] at this
    exact this)
  have w1 := h1.ring _ (inC c).2 (by
    have := tg_it (f := g) (r := Lp G 1 f1 W1 (it g c (it g a x))) (x := it g c (it g a x)) (fun m => ⟨(it_mem (W := fun p => W0 p ∧ W1 p) cl (inC c) m).2, e1 _ (it_mem (W := fun p => W0 p ∧ W1 p) cl (inC c) m), tp m⟩) (b - a - 1)
    rw [per] at this
    exact this)
  omega
end PG

namespace PG
open Relation
/- each ring has a place of its greatest number, from which it comes to itself by lesser ones -/
theorem tg_top {r : Int → Int → Prop} (num : Int → Int) {v : Int} (t : TransGen r v v) : ∃ u, num v ≤ num u ∧ (TransGen r v u ∧ TransGen r u v) ∧ TransGen (fun p q => r p q ∧ num p ≤ num u) u u := by
  have chain : ∀ {a b : Int}, TransGen r a b → ∃ F : Nat → Int, ∃ k, F 0 = a ∧ F (k + 1) = b ∧ ∀ m, m ≤ k → r (F m) (F (m + 1)) := by
    intro a b t
    induction t with
    | @single b e => exact ⟨fun m => if m = 0 then a else b, 0, rfl, rfl, fun m hm => by have : m = 0 := by omega
                                                                                         rw [this]; exact e⟩
    | @tail b c _ e ih =>
      obtain ⟨F, k, h0, h1, h2⟩ := ih
      refine ⟨fun m => if m ≤ k + 1 then F m else c, k + 1, by show (if 0 ≤ k + 1 then F 0 else c) = a; rw [if_pos (Nat.zero_le _)]; exact h0, if_neg (by omega), fun m hm => ?_⟩
      show r (if m ≤ k + 1 then F m else c) (if m + 1 ≤ k + 1 then F (m + 1) else c)
      by_cases hk : m ≤ k
      · rw [if_pos (by omega), if_pos (by omega)]; exact h2 m hk
      · have : m = k + 1 := by omega
        subst this; rw [if_pos (Nat.le_refl _), if_neg (by omega), h1]; exact e
  obtain ⟨F, k, h0, h1, h2⟩ := chain t
  obtain ⟨a, ha, ht⟩ := top_of (fun m => num (F m)) (k + 1) (Nat.succ_pos _)
  have seg : ∀ (s : Int → Int → Prop) (d b : Nat), (∀ m, b ≤ m → m ≤ b + d → s (F m) (F (m + 1))) → TransGen s (F b) (F (b + d + 1)) := by
    intro s d
    induction d with
    | zero => exact fun b h => .single (h b (Nat.le_refl _) (Nat.le_refl _))
    | succ d ih => exact fun b h => .tail (ih b fun m h0 h1 => h m h0 (by omega)) (h (b + d + 1) (by omega) (by omega))
  have go : ∀ (s : Int → Int → Prop), (∀ m, m ≤ k → s (F m) (F (m + 1))) → TransGen s (F a) v ∧ (0 < a → TransGen s v (F a)) := fun s h => by
    refine ⟨?_, fun h0' => ?_⟩
    · have := seg s (k - a) a fun m _ h' => h m (by omega)
      rw [show a + (k - a) + 1 = k + 1 by omega, h1] at this
      exact this
    · have := seg s (a - 1) 0 fun m _ h' => h m (by omega)
      rw [show 0 + (a - 1) + 1 = a by omega, h0] at this
      exact this
  have tp : ∀ m, m ≤ k → num (F m) ≤ num (F a) := fun m hm => ht m (by omega)
  have g1 := go r h2
  have g2 := go (fun p q => r p q ∧ num p ≤ num (F a)) fun m hm => ⟨h2 m hm, tp m hm⟩
  refine ⟨F a, by rw [← h0]; exact tp 0 (Nat.zero_le _), ?_, ?_⟩
  · by_cases hz : a = 0
    · rw [hz, h0]; exact ⟨t, t⟩
    · exact ⟨g1.2 (by omega), g1.1⟩
  · by_cases hz : a = 0
    · have := g2.1
      rw [hz, h0] at this ⊢
      exact this
    · exact g2.1.trans (g2.2 (by omega))
/- other numbers, in an order that the first keep, each of the same kind -/
theorem Good.renum {G : Gm} {i : Int} {W : Int → Prop} {f : Int → Int} (num' : Int → Int) (h : Good G i W f) (hm : ∀ p q, W p → W q → G.num p ≤ G.num q → num' p ≤ num' q) (hp : ∀ p, W p → num' p % 2 = G.num p % 2) : Good ⟨G.own, num', G.way⟩ i W f := by
  refine ⟨h.step, h.stay, fun v hv t => ?_⟩
  obtain ⟨u, hu, ⟨tv, _⟩, tu⟩ := tg_top G.num t
  have cl : ∀ p q, W p → Lp ⟨G.own, num', G.way⟩ i f W v p q → W q := fun p q hp z => h.stay p q hp z.2.1
  have wu : W u := (tg_along cl hv tv).1
  have le : num' u ≤ num' v := by
    have : ∀ {a b : Int}, TransGen (Lp ⟨G.own, num', G.way⟩ i f W v) a b → num' a ≤ num' v := fun t => by
      induction t with
      | single e => exact e.2.2
      | tail _ _ ih => exact ih
    obtain ⟨_, _, ⟨_, t'⟩, _⟩ := tg_top G.num t
    cases tu with
    | single e => exact e.1.2.2
    | tail t1 e =>
      exact this (tg_mono (fun p q z => z.1) (TransGen.tail t1 e))
  have e := hm v u hv wu hu
  have : num' u = num' v := by omega
  have := h.ring u wu (tg_mono (fun p q z => ⟨z.1.1, z.1.2.1, z.2⟩) tu)
  have := hp u wu
  have := hp v hv
  show num' v % 2 = i
  omega
/- the players exchanged, each number one more -/
theorem Good.turn {G : Gm} {i : Int} {W : Int → Prop} {f : Int → Int} (h : Good G i W f) (hi : i = 0 ∨ i = 1) : Good ⟨fun p => 1 - G.own p, fun p => G.num p + 1, G.way⟩ (1 - i) W f := by
  have ed : ∀ p q, Gm.Ed ⟨fun p => 1 - G.own p, fun p => G.num p + 1, G.way⟩ (1 - i) f p q → G.Ed i f p q := fun p q e => ⟨fun o => e.1 (show 1 - G.own p = 1 - i by omega), fun o => e.2 (show ¬ (1 - G.own p = 1 - i) by omega)⟩
  refine ⟨fun p hp o => h.step p hp (by have : 1 - G.own p = 1 - i := o
                                        omega), fun p q hp e => h.stay p q hp (ed p q e), fun v hv t => ?_⟩
  have := h.ring v hv (tg_mono (fun p q z => ⟨z.1, ed p q z.2.1, by have := z.2.2; have : G.num p + 1 ≤ G.num v + 1 := this; omega⟩) t)
  show (G.num v + 1) % 2 = 1 - i
  omega
/- places under other names -/
theorem Good.move {G G' : Gm} {i : Int} {W : Int → Prop} {f : Int → Int} (s t : Int → Int) (h : Good G i W f) (ts : ∀ p, W p → t (s p) = p) (ho : ∀ p, W p → G'.own (s p) = G.own p) (hn : ∀ p, W p → G'.num (s p) = G.num p) (hw : ∀ p q', W p → (G'.way (s p) q' ↔ ∃ q, q' = s q ∧ G.way p q)) :
    Good G' i (fun p' => ∃ p, W p ∧ p' = s p) (fun p' => s (f (t p'))) := by
  have ed : ∀ p q', W p → G'.Ed i (fun p' => s (f (t p'))) (s p) q' → ∃ q, q' = s q ∧ G.Ed i f p q := fun p q' hp e => by
    by_cases o : G.own p = i
    · exact ⟨f p, by have := e.1 ((ho p hp).trans o); rw [this]; show s (f (t (s p))) = s (f p); rw [ts p hp], fun _ => rfl, fun z => absurd o z⟩
    · obtain ⟨q, e1, e2⟩ := (hw p q' hp).mp (e.2 (by rw [ho p hp]; exact o))
      exact ⟨q, e1, fun z => absurd z o, fun _ => e2⟩
  refine ⟨?_, ?_, ?_⟩
  · rintro _ ⟨p, hp, rfl⟩ o
    rw [ho p hp] at o
    exact (hw p _ hp).mpr ⟨f p, by show s (f (t (s p))) = s (f p); rw [ts p hp], h.step p hp o⟩
  · rintro _ q' ⟨p, hp, rfl⟩ e
    obtain ⟨q, rfl, e'⟩ := ed p q' hp e
    exact ⟨q, h.stay p q hp e', rfl⟩
  · rintro _ ⟨v, hv, rfl⟩ tt
    rw [hn v hv]
    have key : ∀ {a b : Int}, TransGen (Lp G' i (fun p' => s (f (t p'))) (fun p' => ∃ p, W p ∧ p' = s p) (s v)) a b → ∀ x, W x → a = s x → ∃ y, W y ∧ b = s y ∧ TransGen (Lp G i f W v) x y := by
      intro a b tt
      have one : ∀ a b, Lp G' i (fun p' => s (f (t p'))) (fun p' => ∃ p, W p ∧ p' = s p) (s v) a b → ∀ x, W x → a = s x → ∃ y, W y ∧ b = s y ∧ Lp G i f W v x y := by
        rintro _ b ⟨_, e, hle⟩ x hx rfl
        obtain ⟨y, rfl, e'⟩ := ed x b hx e
        rw [hn x hx, hn v hv] at hle
        exact ⟨y, h.stay x y hx e', rfl, hx, e', hle⟩
      induction tt with
      | single e => exact fun x hx ea => let ⟨y, hy, eb, z⟩ := one _ _ e x hx ea; ⟨y, hy, eb, .single z⟩
      | tail _ e ih =>
        intro x hx ea
        obtain ⟨y, hy, eb, z⟩ := ih x hx ea
        obtain ⟨y', hy', eb', z'⟩ := one _ _ e y hy eb
        exact ⟨y', hy', eb', .tail z z'⟩
    obtain ⟨y, hy, e, z⟩ := key tt v hv rfl
    have : y = v := by rw [← ts y hy, ← e, ts v hv]
    exact h.ring v hv (this ▸ z)
/- the winners are the same wherever each wins by steps without a flaw -/
theorem Good.same {G : Gm} {n : Nat} {W0 W1 V0 V1 : Int → Prop} {f0 f1 g0 g1 : Int → Int} (h0 : Good G 0 W0 f0) (h1 : Good G 1 W1 f1) (k0 : Good G 0 V0 g0) (k1 : Good G 1 V1 g1) (ho : ∀ p, 0 ≤ p → p < (n : Int) → G.own p = 0 ∨ G.own p = 1)
    (b0 : ∀ p, W0 p → 0 ≤ p ∧ p < (n : Int)) (c0 : ∀ p, V0 p → 0 ≤ p ∧ p < (n : Int)) (b1 : ∀ p, W1 p → 0 ≤ p ∧ p < (n : Int)) (c1 : ∀ p, V1 p → 0 ≤ p ∧ p < (n : Int)) (hW : ∀ p, 0 ≤ p → p < (n : Int) → W0 p ∨ W1 p) (hV : ∀ p, 0 ≤ p → p < (n : Int) → V0 p ∨ V1 p) :
    (∀ p, W0 p ↔ V0 p) ∧ ∀ p, W1 p ↔ V1 p := by
  have d1 : ∀ p, W0 p → V1 p → False := fun p a b => h0.disj k1 b0 (fun p hp => ho p (b0 p hp).1 (b0 p hp).2) a b
  have d2 : ∀ p, V0 p → W1 p → False := fun p a b => k0.disj h1 c0 (fun p hp => ho p (c0 p hp).1 (c0 p hp).2) a b
  exact ⟨fun p => ⟨fun a => (hV p (b0 p a).1 (b0 p a).2).resolve_right (d1 p a), fun a => (hW p (c0 p a).1 (c0 p a).2).resolve_right (d2 p a)⟩,
    fun p => ⟨fun a => (hV p (b1 p a).1 (b1 p a).2).resolve_left fun z => d2 p z a, fun a => (hW p (c1 p a).1 (c1 p a).2).resolve_left fun z => d1 p z a⟩⟩
end PG

namespace G
open PySem PySem.Spec PyProof.Rows L2 Relation
/-! ### steps, ways by steps; comprehensions that leave some out -/
def optV : Option Int → V
  | some x => .int x
  | none => .non
def ownAt (g : List Row) (p : Int) : Int := ((g[p.toNat]?).map Row.p).getD 0
def wsOf (g : List Row) (p : Int) : List Int := ((g[p.toNat]?).map Row.ws).getD []
def stepAt (ss : List (Option Int)) (p : Int) : Int := ((ss[p.toNat]?).getD none).getD 0
def edg (g : List Row) (i : Int) (ss : List (Option Int)) (p : Int) : List Int := if ownAt g p = i then [stepAt ss p] else wsOf g p
def gm (g : List Row) : PG.Gm := ⟨ownAt g, numAt g, fun p q => q ∈ wsOf g p⟩
theorem ed_edg {g : List Row} {i : Int} {ss : List (Option Int)} {p q : Int} : (gm g).Ed i (stepAt ss) p q ↔ q ∈ edg g i ss p := by
  unfold edg PG.Gm.Ed
  by_cases o : ownAt g p = i
  · rw [if_pos o, List.mem_singleton]
    exact ⟨fun h => h.1 o, fun h => ⟨fun _ => h, fun n => absurd o n⟩⟩
  · rw [if_neg o]
    exact ⟨fun h => h.2 o, fun h => ⟨fun z => absurd z o, fun _ => h⟩⟩
/-- the player's steps stand for some places -/
def StepsFor (g : List Row) (i : Int) (ss : List (Option Int)) (ps : List Int) : Prop := ss.length = g.length ∧ ∀ p ∈ ps, (0 ≤ p ∧ p < (g.length : Int)) ∧ (ownAt g p = i → ∃ s, ss[p.toNat]? = some (some s) ∧ s ∈ wsOf g p)
theorem StepsFor.sub {g : List Row} {i : Int} {ss : List (Option Int)} {ps qs : List Int} (h : StepsFor g i ss ps) (s : ∀ q ∈ qs, q ∈ ps) : StepsFor g i ss qs := ⟨h.1, fun q hq => h.2 q (s q hq)⟩
theorem row_at {g : List Row} {p : Int} (h : 0 ≤ p ∧ p < (g.length : Int)) : ∃ r, g[p.toNat]? = some r ∧ ownAt g p = r.p ∧ numAt g p = r.n ∧ wsOf g p = r.ws := by
  have hlt : p.toNat < g.length := by omega
  have e := List.getElem?_eq_getElem hlt
  refine ⟨_, e, ?_, ?_, ?_⟩
  · unfold ownAt; rw [e]; rfl
  · unfold numAt; rw [e]; rfl
  · unfold wsOf; rw [e]; rfl
/-- an if without else: what holds behind it, said once -/
theorem if_key {b : Bool} {tb : TS} {D : Ends} {σ : L2.St} {H : Hp} (Pm : L2.St → Hp → Prop) (h1 : b = true → (∀ σ' H', Pm σ' H' → D.nx σ' H') → tb D σ H) (h2 : b = false → Pm σ H) (key : ∀ σ' H', Pm σ' H' → D.nx σ' H') : if b = true then tb D σ H else D.nx σ H := by
  cases b with
  | true => exact h1 rfl key
  | false => exact key _ _ (h2 rfl)
theorem lc_keep {K : PySem.W.Frag} {a : Addr} {xs : List V} {g : TG} {tt : TT} {te : TE} {vs : List Nat} {σ : L2.St} {H1 : Hp} {D : Addr} {Qd : Hp → Prop} (f : V → Bool) (hS : SqL K H1 a xs) (nD : H1 D = none) (hz : xs.length ≤ 1000)
    (hs : ∀ (i : Nat) (x : V) (H : Hp) (Q : VK) (N : Hp → Prop), xs[i]? = some x → Same H1 H → (f x = true → ∀ H', Same H H' → Q x H') → (f x = false → ∀ H', Same H H' → N H') →
      g x (wipe σ vs) H fun σ2 H2 => wipe σ2 vs = wipe σ vs ∧ tt σ2 H2 fun b H3 => if b = true then te σ2 H3 Q else N H3)
    (hd : ∀ H, Same H1 H → H D = some (.lst (xs.filter f)) → Qd H) :
    ∃ W : Nat → Nat → Hp → Prop, (∃ m, W 0 m (upd H1 D (.lst []))) ∧ ∀ i m H, W i m H →
      ((Itl K a).stop i H ∧ Qd H) ∨ ((Itl K a).go i H ∧ ∃ Nx : Hp → Prop, (∀ H', Nx H' → ∃ m', m' < m ∧ W (i + 1) m' H') ∧ ∀ x H', (Itl K a).yld i H x H' → g x (wipe σ vs) H' fun σ2 H2 => wipe σ2 vs = wipe σ vs ∧ tt σ2 H2 fun b H3 =>
        if b = true then te σ2 H3 fun y H4 => ∃ acc, H4 D = some (.lst acc) ∧ acc.length < sizeLine ∧ Nx (upd H4 D (.lst (acc ++ [y]))) else Nx H3) := by
  refine lc_list (K := K) (a := a) (xs := xs) (fun i H => Same H1 H ∧ H D = some (.lst ((xs.take i).filter f))) ⟨same_upd nD, by rw [upd_same]; rfl⟩ (fun i H _ p => p.1.seq hS) (fun i x H hi p => ?_) (fun H p => hd H p.1 (by have q := p.2; rw [List.take_length] at q; exact q))
  have step : xs.take (i + 1) = xs.take i ++ [x] := by rw [List.take_add_one, hi]; rfl
  have le : ((xs.take i).filter f).length < sizeLine := small1000 (by
    have hlt := (List.getElem?_eq_some_iff.mp hi).1
    have := List.length_filter_le f (xs.take i)
    have := List.length_take_le i xs
    omega)
  refine hs i x H _ _ hi p.1 (fun hf H' s => ⟨_, s _ _ p.2, le, fun b o e => ?_, ?_⟩) (fun hf H' s => ⟨p.1.trans s, ?_⟩)
  · rw [upd_ne (ne_of_none e nD)]
    exact s _ _ (p.1 _ _ e)
  · rw [upd_same, step, List.filter_append, List.filter_cons_of_pos hf]
    rfl
  · rw [s _ _ p.2, step, List.filter_append, List.filter_cons_of_neg (by rw [hf]; decide), List.filter_nil, List.append_nil]
/-! ### rings whose greatest number is top -/
def LpT (g : List Row) (i : Int) (ss : List (Option Int)) (ps : List Int) (top : Int) (p q : Int) : Prop := p ∈ ps ∧ q ∈ edg g i ss p ∧ numAt g p ≤ top
def Loses (g : List Row) (i : Int) (ss : List (Option Int)) (ps : List Int) : Prop := ∃ v ∈ ps, numAt g v % 2 ≠ i ∧ TransGen (LpT g i ss ps (numAt g v)) v v
def intV (f : Int → Bool) : V → Bool
  | .int x => f x
  | _ => false
theorem filter_ints (f : Int → Bool) (ns : List Int) : (ns.map V.int).filter (intV f) = (ns.filter f).map V.int := by
  rw [List.filter_map]
  rfl
theorem eqv_ints : ∀ (xs ys : List Int), PyData.eqv (intsD xs) (intsD ys) = decide (xs = ys) := by
  intro xs ys
  by_cases e : xs = ys
  · rw [decide_eq_true e, e]
    exact SeqAt.eqv_refl _ (lay_ints ys)
  · rw [decide_eq_false e]
    have : ∀ (xs ys : List Int), xs ≠ ys → PyData.eqvAll (xs.map .int) (ys.map .int) = false := by
      intro xs
      induction xs with
      | nil => intro ys h; cases ys with
        | nil => exact absurd rfl h
        | cons y ys => rfl
      | cons x xs ih => intro ys h; cases ys with
        | nil => rfl
        | cons y ys =>
          show (x == y && PyData.eqvAll (xs.map .int) (ys.map .int)) = false
          by_cases z : x = y
          · rw [ih ys (fun w => h (by rw [z, w])), Bool.and_false]
          · rw [beq_false_of_ne z, Bool.false_and]
    exact this xs ys e
theorem tg_first {r : Int → Int → Prop} {a b : Int} (t : TransGen r a b) : ∃ y, r a y := by
  induction t with
  | single e => exact ⟨_, e⟩
  | tail _ _ ih => exact ih
end G

namespace PG
open Relation
/- whether a player leads from a place to some, within one step, and within so many -/
def ldB (own : Int → Int) (ws : Int → List Int) (A : List Int) (i : Int) (S : Int → Bool) (p : Int) : Bool :=
  if own p = i then (ws p).any S else ((ws p).filter fun q => decide (q ∈ A)).all S
def lay (own : Int → Int) (ws : Int → List Int) (A : List Int) (i : Int) (T : List Int) : Nat → Int → Bool
  | 0, p => decide (p ∈ T)
  | k + 1, p => lay own ws A i T k p || (decide (p ∈ A) && ldB own ws A i (lay own ws A i T k) p)
section
variable {own : Int → Int} {ws : Int → List Int} {A T : List Int} {i : Int}
theorem lay_succ {k : Nat} {p : Int} (h : lay own ws A i T k p = true) : lay own ws A i T (k + 1) p = true := by
  show (lay own ws A i T k p || _) = true
  rw [h, Bool.true_or]
theorem lay_le {k l : Nat} {p : Int} (hl : k ≤ l) (h : lay own ws A i T k p = true) : lay own ws A i T l p = true := by
  induction l with
  | zero => have : k = 0 := by omega
            rw [this] at h; exact h
  | succ l ih =>
    by_cases e : k ≤ l
    · exact lay_succ (ih e)
    · have : k = l + 1 := by omega
      rw [← this]; exact h
theorem lay_stable {k : Nat} (h : ∀ p, lay own ws A i T (k + 1) p = lay own ws A i T k p) : ∀ l, k ≤ l → lay own ws A i T l = lay own ws A i T k := by
  intro l
  induction l with
  | zero => intro hl; have : k = 0 := by omega
            rw [this]
  | succ l ih =>
    intro hl
    by_cases e : k ≤ l
    · have q := ih e
      funext p
      have z := h p
      show (lay own ws A i T l p || (decide (p ∈ A) && ldB own ws A i (lay own ws A i T l) p)) = _
      rw [q]
      exact z
    · have : k = l + 1 := by omega
      rw [this]
theorem least_of (P : Nat → Prop) : (∃ k, P k) → ∃ k, P k ∧ ∀ j, j < k → ¬ P j := by
  rintro ⟨k, hk⟩
  induction k using Nat.strongRecOn with
  | _ k ih =>
    by_cases e : ∃ j, j < k ∧ P j
    · obtain ⟨j, hj, hp⟩ := e
      exact ih j hj hp
    · exact ⟨k, hk, fun j hj hp => e ⟨j, hj, hp⟩⟩
/- the rounds of a place -/
theorem rank_ex (own : Int → Int) (ws : Int → List Int) (A : List Int) (i : Int) (T : List Int) : ∃ rk : Int → Nat, ∀ p, (∃ k, lay own ws A i T k p = true) → lay own ws A i T (rk p) p = true ∧ ∀ j, j < rk p → lay own ws A i T j p = false := by
  have : ∀ p, ∃ r, (∃ k, lay own ws A i T k p = true) → lay own ws A i T r p = true ∧ ∀ j, j < r → lay own ws A i T j p = false := fun p => by
    by_cases e : ∃ k, lay own ws A i T k p = true
    · obtain ⟨k, h1, h2⟩ := least_of _ e
      exact ⟨k, fun _ => ⟨h1, fun j hj => Bool.eq_false_iff.mpr (h2 j hj)⟩⟩
    · exact ⟨0, fun z => absurd z e⟩
  exact ⟨fun p => Classical.choose (this p), fun p => Classical.choose_spec (this p)⟩
def Rkd (own : Int → Int) (ws : Int → List Int) (A : List Int) (i : Int) (T : List Int) (rk : Int → Nat) : Prop :=
  ∀ p, (∃ k, lay own ws A i T k p = true) → lay own ws A i T (rk p) p = true ∧ ∀ j, j < rk p → lay own ws A i T j p = false
def Led (own : Int → Int) (ws : Int → List Int) (A : List Int) (i : Int) (T : List Int) (p : Int) : Prop := ∃ k, lay own ws A i T k p = true
theorem rk_le {rk : Int → Nat} (h : Rkd own ws A i T rk) {k : Nat} {p : Int} (e : lay own ws A i T k p = true) : rk p ≤ k := by
  by_cases z : rk p ≤ k
  · exact z
  · have := (h p ⟨k, e⟩).2 k (by omega)
    rw [e] at this
    cases this
theorem lay_in (hT : ∀ p ∈ T, p ∈ A) : ∀ {k : Nat} {p : Int}, lay own ws A i T k p = true → p ∈ A
  | 0, p, h => hT p (of_decide_eq_true h)
  | k + 1, p, h => by
    have h' : (lay own ws A i T k p || (decide (p ∈ A) && ldB own ws A i (lay own ws A i T k) p)) = true := h
    rw [Bool.or_eq_true, Bool.and_eq_true] at h'
    exact h'.elim (lay_in hT) fun z => of_decide_eq_true z.1
theorem rk_zero {rk : Int → Nat} (h : Rkd own ws A i T rk) {p : Int} (hp : Led own ws A i T p) : rk p = 0 ↔ p ∈ T := by
  constructor
  · intro e
    have := (h p hp).1
    rw [e] at this
    exact of_decide_eq_true this
  · intro e
    have : lay own ws A i T 0 p = true := decide_eq_true e
    have := rk_le h this
    omega
/- one round less -/
theorem rk_step {rk : Int → Nat} (h : Rkd own ws A i T rk) {p : Int} (hp : Led own ws A i T p) (hT : p ∉ T) : ∃ k, rk p = k + 1 ∧ p ∈ A ∧ ldB own ws A i (lay own ws A i T k) p = true := by
  obtain ⟨h1, h2⟩ := h p hp
  cases e : rk p with
  | zero => exact absurd ((rk_zero h hp).mp e) hT
  | succ k =>
    rw [e] at h1
    have h' : (lay own ws A i T k p || (decide (p ∈ A) && ldB own ws A i (lay own ws A i T k) p)) = true := h1
    rw [h2 k (by omega), Bool.false_or, Bool.and_eq_true] at h'
    exact ⟨k, rfl, of_decide_eq_true h'.1, h'.2⟩
theorem rk_own {rk : Int → Nat} (h : Rkd own ws A i T rk) {p : Int} (hp : Led own ws A i T p) (hT : p ∉ T) (o : own p = i) : ∃ q ∈ ws p, Led own ws A i T q ∧ rk q < rk p := by
  obtain ⟨k, e, _, hl⟩ := rk_step h hp hT
  unfold ldB at hl
  rw [if_pos o, List.any_eq_true] at hl
  obtain ⟨q, hq, hk⟩ := hl
  have := rk_le h hk
  exact ⟨q, hq, ⟨k, hk⟩, by omega⟩
theorem rk_oth {rk : Int → Nat} (h : Rkd own ws A i T rk) {p : Int} (hp : Led own ws A i T p) (hT : p ∉ T) (o : own p ≠ i) {q : Int} (hq : q ∈ ws p) (ha : q ∈ A) : Led own ws A i T q ∧ rk q < rk p := by
  obtain ⟨k, e, _, hl⟩ := rk_step h hp hT
  unfold ldB at hl
  rw [if_neg o, List.all_eq_true] at hl
  have hk := hl q (List.mem_filter.mpr ⟨hq, decide_eq_true ha⟩)
  have := rk_le h hk
  exact ⟨⟨k, hk⟩, by omega⟩
/- where the player doesn't lead -/
theorem led_own {p q : Int} (ha : p ∈ A) (hp : ¬ Led own ws A i T p) (o : own p = i) (hq : q ∈ ws p) : ¬ Led own ws A i T q := by
  rintro ⟨k, hk⟩
  refine hp ⟨k + 1, ?_⟩
  show (lay own ws A i T k p || (decide (p ∈ A) && ldB own ws A i (lay own ws A i T k) p)) = true
  have : ldB own ws A i (lay own ws A i T k) p = true := by
    unfold ldB
    rw [if_pos o, List.any_eq_true]
    exact ⟨q, hq, hk⟩
  rw [decide_eq_true ha, this, Bool.and_self, Bool.or_true]
theorem led_oth {p : Int} (ha : p ∈ A) (hp : ¬ Led own ws A i T p) (o : own p ≠ i) : ∃ q ∈ ws p, q ∈ A ∧ ¬ Led own ws A i T q := by
  apply Classical.byContradiction
  intro hn
  have key : ∀ l : List Int, (∀ q ∈ l, Led own ws A i T q) → ∃ k, ∀ q ∈ l, lay own ws A i T k q = true := by
    intro l
    induction l with
    | nil => exact fun _ => ⟨0, fun q hq => by cases hq⟩
    | cons x l ih =>
      intro h
      obtain ⟨k, hk⟩ := ih fun q hq => h q (List.mem_cons_of_mem _ hq)
      obtain ⟨j, hj⟩ := h x List.mem_cons_self
      refine ⟨k + j, fun q hq => ?_⟩
      rcases List.mem_cons.mp hq with e | e
      · rw [e]; exact lay_le (by omega) hj
      · exact lay_le (by omega) (hk q e)
  obtain ⟨k, hk⟩ := key ((ws p).filter fun q => decide (q ∈ A)) fun q hq => by
    obtain ⟨h1, h2⟩ := List.mem_filter.mp hq
    apply Classical.byContradiction
    intro z
    exact hn ⟨q, h1, of_decide_eq_true h2, z⟩
  refine hp ⟨k + 1, ?_⟩
  show (lay own ws A i T k p || (decide (p ∈ A) && ldB own ws A i (lay own ws A i T k) p)) = true
  have : ldB own ws A i (lay own ws A i T k) p = true := by
    unfold ldB
    rw [if_neg o, List.all_eq_true]
    exact hk
  rw [decide_eq_true ha, this, Bool.and_self, Bool.or_true]
end
/- the game of a part -/
def Tot (ws : Int → List Int) (A : List Int) : Prop := ∀ p ∈ A, ∃ q ∈ ws p, q ∈ A
def gmk (own num : Int → Int) (ws : Int → List Int) : Gm := ⟨own, num, fun p q => q ∈ ws p⟩
structure SolM (own num : Int → Int) (ws : Int → List Int) (A : List Int) (w : Int → Int) (s : Int → Option Int) : Prop where
  zo : ∀ p ∈ A, w p = 0 ∨ w p = 1
  has : ∀ p ∈ A, own p = w p → ∃ q, s p = some q
  oth : ∀ p ∈ A, own p ≠ w p → s p = none
  good : ∀ i, i = 0 ∨ i = 1 → Good ((gmk own num ws).sub fun p => p ∈ A) i (fun p => p ∈ A ∧ w p = i) (fun p => (s p).getD 0)
/- a step that leads on: to fewer rounds, or from rounds of 0 anywhere within -/
def LdStep (own : Int → Int) (ws : Int → List Int) (A : List Int) (i : Int) (T : List Int) (rk : Int → Nat) (p : Int) (o : Option Int) : Prop :=
  (own p ≠ i → o = none) ∧ (own p = i → ∃ q, o = some q ∧ q ∈ ws p ∧ (p ∈ T → q ∈ A) ∧ (p ∉ T → Led own ws A i T q ∧ rk q < rk p))
section
variable {own num : Int → Int} {ws : Int → List Int} {A B T : List Int} {i : Int} {rk : Int → Nat}
theorem tot_out (hA : Tot ws A) (hB : ∀ p, p ∈ B ↔ p ∈ A ∧ ¬ Led own ws A i T p) : Tot ws B := fun p hp => by
  obtain ⟨ha, hn⟩ := (hB p).mp hp
  by_cases o : own p = i
  · obtain ⟨q, hq, hqa⟩ := hA p ha
    exact ⟨q, hq, (hB q).mpr ⟨hqa, led_own ha hn o hq⟩⟩
  · obtain ⟨q, hq, hqa, hqn⟩ := led_oth ha hn o
    exact ⟨q, hq, (hB q).mpr ⟨hqa, hqn⟩⟩
theorem sub_sub {G : Gm} {V W : Int → Prop} (h : ∀ p, W p → V p) : (G.sub V).sub W = G.sub W := by
  unfold Gm.sub
  have : (fun p q => (G.way p q ∧ V p ∧ V q) ∧ W p ∧ W q) = fun p q => G.way p q ∧ W p ∧ W q := by
    funext p q
    exact propext ⟨fun z => ⟨z.1.1, z.2⟩, fun z => ⟨⟨z.1, h p z.2.1, h q z.2.2⟩, z.2⟩⟩
  show (⟨G.own, G.num, fun p q => (G.way p q ∧ V p ∧ V q) ∧ W p ∧ W q⟩ : Gm) = _
  rw [this]
theorem attr_of (hT : ∀ p ∈ T, p ∈ A) (hr : Rkd own ws A i T rk) {f : Int → Int} {s : Int → Option Int} (hs : ∀ p, Led own ws A i T p → p ∉ T → LdStep own ws A i T rk p (s p)) (hf : ∀ p, f p = (s p).getD 0) :
    Attr ((gmk own num ws).sub fun p => p ∈ A) i (fun p => p ∈ T) (fun p => Led own ws A i T p) f rk := by
  have inA : ∀ p, Led own ws A i T p → p ∈ A := fun p ⟨k, hk⟩ => lay_in hT hk
  refine ⟨fun p hp => ⟨0, decide_eq_true hp⟩, fun p hp hn o => ?_, fun p hp hn o q hq => ?_⟩
  · obtain ⟨q, e, hq, _, h2⟩ := (hs p hp hn).2 o
    have ef : f p = q := by rw [hf, e]; rfl
    rw [ef]
    obtain ⟨h3, h4⟩ := h2 hn
    exact ⟨⟨hq, inA p hp, inA q h3⟩, h3, h4⟩
  · exact rk_oth hr hp hn o hq.1 hq.2.2
/- nothing is left: all is won by the one who hears the greatest number -/
theorem SolM.all {d : Int} {w1 : Int → Int} {s1 s : Int → Option Int} (hd : d % 2 = i) (hi : i = 0 ∨ i = 1) (ho : ∀ p ∈ A, own p = 0 ∨ own p = 1) (hA : Tot ws A) (hT : ∀ p, p ∈ T ↔ p ∈ A ∧ num p = d) (hn : ∀ p ∈ A, num p ≤ d) (hr : Rkd own ws A i T rk)
    (hB : ∀ p, p ∈ B ↔ p ∈ A ∧ ¬ Led own ws A i T p) (h : SolM own num ws B w1 s1) (hw : ∀ p ∈ B, w1 p = i)
    (hs : ∀ p, Led own ws A i T p → LdStep own ws A i T rk p (s p)) (hb : ∀ p ∈ B, s p = s1 p) : SolM own num ws A (fun _ => i) s := by
  have hTA : ∀ p ∈ T, p ∈ A := fun p hp => ((hT p).mp hp).1
  refine ⟨fun p _ => hi, fun p hp o => ?_, fun p hp o => ?_, fun j hj => ?_⟩
  · by_cases l : Led own ws A i T p
    · obtain ⟨q, e, _⟩ := (hs p l).2 o
      exact ⟨q, e⟩
    · have pb := (hB p).mpr ⟨hp, l⟩
      rw [hb p pb]
      exact h.has p pb (by rw [hw p pb]; exact o)
  · by_cases l : Led own ws A i T p
    · exact (hs p l).1 o
    · have pb := (hB p).mpr ⟨hp, l⟩
      rw [hb p pb]
      exact h.oth p pb (by rw [hw p pb]; exact o)
  · by_cases e : j = i
    · subst e
      have ga := attr_of (num := num) (f := fun p => (s p).getD 0) hTA hr (fun p a _ => hs p a) fun _ => rfl
      have gb : Good (((gmk own num ws).sub fun p => p ∈ A).sub fun p => p ∈ A ∧ ¬ Led own ws A j T p) j (fun p => p ∈ A ∧ ¬ Led own ws A j T p) (fun p => (s p).getD 0) := by
        rw [sub_sub fun p z => z.1]
        have e1 : (fun p => p ∈ A ∧ ¬ Led own ws A j T p) = fun p => p ∈ B := funext fun p => propext (hB p).symm
        rw [e1]
        refine ((h.good j hj).iff (fun p => ⟨fun z => z.1, fun z => ⟨z, hw p z⟩⟩)).congr fun p hp _ => ?_
        show (s1 p).getD 0 = (s p).getD 0
        rw [hb p hp]
      refine (Good.top (G := (gmk own num ws).sub fun p => p ∈ A) (V := fun p => p ∈ A) (T := fun p => p ∈ T) (A := fun p => Led own ws A j T p) hd (fun p q hp z => z.2.2) hn (fun p ⟨k, hk⟩ => lay_in hTA hk) (fun p hp => ((hT p).mp hp).2) ga (fun p hp o => ?_) gb).iff fun p => ⟨fun z => ⟨z, rfl⟩, fun z => z.1⟩
      obtain ⟨q, e, hq, h1, _⟩ := (hs p ⟨0, decide_eq_true hp⟩).2 o
      show (gmk own num ws).way p ((s p).getD 0) ∧ _
      rw [e]
      exact ⟨hq, hTA p hp, h1 hp⟩
    · exact ⟨fun p hp => absurd hp.2.symm e, fun p q hp => absurd hp.2.symm e, fun p hp => absurd hp.2.symm e⟩
/- the other one wins somewhere: what it leads to there is its, the rest is settled anew -/
theorem SolM.two {w1 w2 w : Int → Int} {s1 s2 s : Int → Option Int} {L C N : List Int} {rn : Int → Nat} {j : Int} (hi : i = 0 ∨ i = 1) (hj : j = 1 - i) (ho : ∀ p ∈ A, own p = 0 ∨ own p = 1)
    (hB : ∀ p, p ∈ B ↔ p ∈ A ∧ ¬ Led own ws A i T p) (h1 : SolM own num ws B w1 s1) (hL : ∀ p, p ∈ L ↔ p ∈ B ∧ w1 p ≠ i) (hr : Rkd own ws A j L rk)
    (hC : ∀ p, p ∈ C ↔ p ∈ A ∧ ¬ Led own ws A j L p) (h2 : SolM own num ws C w2 s2)
    (hs : ∀ p, Led own ws A j L p → p ∉ L → LdStep own ws A j L rk p (s p)) (hl : ∀ p ∈ L, s p = s1 p) (hc : ∀ p ∈ C, s p = s2 p) (wl : ∀ p, Led own ws A j L p → w p = j) (wc : ∀ p ∈ C, w p = w2 p) : SolM own num ws A w s := by
  have hLA : ∀ p ∈ L, p ∈ A := fun p hp => ((hB p).mp ((hL p).mp hp).1).1
  have hw1 : ∀ p ∈ L, w1 p = j := fun p hp => by
    obtain ⟨a, b⟩ := (hL p).mp hp
    have := h1.zo p a
    omega
  have split : ∀ p ∈ A, Led own ws A j L p ∨ p ∈ C := fun p hp => by
    by_cases l : Led own ws A j L p
    · exact .inl l
    · exact .inr ((hC p).mpr ⟨hp, l⟩)
  have inA : ∀ p, Led own ws A j L p → p ∈ A := fun p ⟨k, hk⟩ => lay_in hLA hk
  have hj' : j = 0 ∨ j = 1 := by omega
  refine ⟨fun p hp => ?_, fun p hp o => ?_, fun p hp o => ?_, ?_⟩
  · rcases split p hp with l | c
    · rw [wl p l]; exact hj'
    · rw [wc p c]; exact h2.zo p c
  · rcases split p hp with l | c
    · rw [wl p l] at o
      by_cases z : p ∈ L
      · rw [hl p z]; exact h1.has p ((hL p).mp z).1 (by rw [hw1 p z]; exact o)
      · obtain ⟨q, e, _⟩ := (hs p l z).2 o
        exact ⟨q, e⟩
    · rw [wc p c] at o
      rw [hc p c]; exact h2.has p c o
  · rcases split p hp with l | c
    · rw [wl p l] at o
      by_cases z : p ∈ L
      · rw [hl p z]; exact h1.oth p ((hL p).mp z).1 (by rw [hw1 p z]; exact o)
      · exact (hs p l z).1 o
    · rw [wc p c] at o
      rw [hc p c]; exact h2.oth p c o
  · let G := (gmk own num ws).sub fun p => p ∈ A
    let f : Int → Int := fun p => (s p).getD 0
    -- those lost
    have gl : Good G j (fun p => p ∈ L) f := by
      have g1 := (h1.good j hj').iff (W' := fun p => p ∈ L) fun p => ⟨fun z => (hL p).mpr ⟨z.1, by rw [z.2]; omega⟩, fun z => ⟨((hL p).mp z).1, hw1 p z⟩⟩
      have e1 : (gmk own num ws).sub (fun p => p ∈ B) = G.sub fun p => p ∈ B := (sub_sub fun p z => ((hB p).mp z).1).symm
      rw [e1] at g1
      refine (g1.lift (fun p z => ((hL p).mp z).1) (fun p q hp o hq => ?_)).congr fun p hp _ => ?_
      · have oi : own p = i := by
          have := ho p (hLA p hp)
          have : own p ≠ j := o
          omega
        obtain ⟨pa, pn⟩ := (hB p).mp ((hL p).mp hp).1
        exact (hB q).mpr ⟨hq.2.2, led_own pa pn oi hq.1⟩
      · show (s1 p).getD 0 = (s p).getD 0
        rw [hl p hp]
    have ga : Good G j (fun p => Led own ws A j L p) f := (attr_of (num := num) hLA hr hs fun _ => rfl).good gl
    have e2 : (gmk own num ws).sub (fun p => p ∈ C) = G.sub fun p => p ∈ C := (sub_sub fun p z => ((hC p).mp z).1).symm
    have gc : ∀ t, t = 0 ∨ t = 1 → Good (G.sub fun p => p ∈ C) t (fun p => p ∈ C ∧ w2 p = t) f := fun t ht => by
      have := h2.good t ht
      rw [e2] at this
      refine this.congr fun p hp _ => ?_
      show (s2 p).getD 0 = (s p).getD 0
      rw [hc p hp.1]
    intro t ht
    by_cases e : t = j
    · subst e
      refine (Good.join (gc t ht) ga (fun p z => z.1) (fun p q hp o hq => ?_)).iff fun p => ⟨fun z => ?_, fun z => ?_⟩
      · exact (split q hq.2.2).symm
      · rcases z with ⟨a, b⟩ | a
        · exact ⟨((hC p).mp a).1, by rw [wc p a]; exact b⟩
        · exact ⟨inA p a, wl p a⟩
      · rcases split p z.1 with l | c
        · exact .inr l
        · exact .inl ⟨c, by rw [← wc p c]; exact z.2⟩
    · refine (Good.lift (gc t ht) (fun p z => z.1) (fun p q hp o hq => ?_)).iff fun p => ⟨fun z => ⟨((hC p).mp z.1).1, by rw [wc p z.1]; exact z.2⟩, fun z => ?_⟩
      · obtain ⟨pa, pn⟩ := (hC p).mp hp.1
        have oj : own p = j := by
          have := ho p pa
          have : own p ≠ t := o
          omega
        exact (hC q).mpr ⟨hq.2.2, led_own pa pn oj hq.1⟩
      · rcases split p z.1 with l | c
        · exact absurd ((wl p l).symm.trans z.2) (fun k => e k.symm)
        · exact ⟨c, by rw [← wc p c]; exact z.2⟩
theorem SolM.nil {w : Int → Int} {s : Int → Option Int} : SolM own num ws [] w s :=
  ⟨fun p hp => (nomatch hp), fun p hp => (nomatch hp), fun p hp => (nomatch hp), fun i hi => ⟨fun p hp => (nomatch hp.1), fun p q hp => (nomatch hp.1), fun p hp => (nomatch hp.1)⟩⟩
end
/- from lesser numbers in the same order back to the first ones -/
theorem Good.back {G : Gm} {i : Int} {W : Int → Prop} {f : Int → Int} {num' : Int → Int} (h : Good ⟨G.own, num', G.way⟩ i W f) (hm : ∀ p q, W p → W q → G.num p ≤ G.num q → num' p ≤ num' q) (hp : ∀ p, W p → num' p % 2 = G.num p % 2) : Good G i W f :=
  ⟨h.step, h.stay, fun v hv t => by
    rw [← hp v hv]
    exact h.ring v hv (tg_mono (fun p q z => ⟨z.1, z.2.1, hm p v z.1 hv z.2.2⟩) t)⟩
end PG

namespace PG
open Relation
/- in how many steps a part is settled at most -/
structure TopOf (num : Int → Int) (A : List Int) (d : Int) (T : List Int) : Prop where
  le : ∀ p ∈ A, num p ≤ d
  mem : ∀ p, p ∈ T ↔ p ∈ A ∧ num p = d
  ne : T ≠ []
inductive Few (own num : Int → Int) (ws : Int → List Int) : List Int → Nat → Prop
  | nil {N : Nat} : Few own num ws [] N
  | step {A : List Int} {N1 N2 : Nat} (h1 : ∀ d T f, TopOf num A d T → (∀ p ∈ A, f p = true ↔ ¬ Led own ws A (d % 2) T p) → Few own num ws (A.filter f) N1)
      (h2 : ∀ d T f w s L f2, TopOf num A d T → (∀ p ∈ A, f p = true ↔ ¬ Led own ws A (d % 2) T p) → SolM own num ws (A.filter f) w s → (∀ p, p ∈ L ↔ p ∈ A.filter f ∧ w p ≠ d % 2) → L ≠ [] →
        (∀ p ∈ A, f2 p = true ↔ ¬ Led own ws A (1 - d % 2) L p) → Few own num ws (A.filter f2) N2) : Few own num ws A (N1 + N2 + 1)
theorem Few.inv {own num : Int → Int} {ws : Int → List Int} {A : List Int} {N : Nat} (h : Few own num ws A N) (ne : A ≠ []) : ∃ N1 N2, N = N1 + N2 + 1 ∧ (∀ d T f, TopOf num A d T → (∀ p ∈ A, f p = true ↔ ¬ Led own ws A (d % 2) T p) → Few own num ws (A.filter f) N1) ∧
    (∀ d T f w s L f2, TopOf num A d T → (∀ p ∈ A, f p = true ↔ ¬ Led own ws A (d % 2) T p) → SolM own num ws (A.filter f) w s → (∀ p, p ∈ L ↔ p ∈ A.filter f ∧ w p ≠ d % 2) → L ≠ [] → (∀ p ∈ A, f2 p = true ↔ ¬ Led own ws A (1 - d % 2) L p) → Few own num ws (A.filter f2) N2) := by
  cases h with
  | nil => exact absurd rfl ne
  | step h1 h2 => exact ⟨_, _, rfl, h1, h2⟩
theorem Few.mono {own num : Int → Int} {ws : Int → List Int} {A : List Int} {N : Nat} (h : Few own num ws A N) : ∀ {M : Nat}, N ≤ M → Few own num ws A M := by
  induction h with
  | nil => exact fun _ => .nil
  | @step A N1 N2 h1 h2 ih1 ih2 =>
    intro M hM
    have e : M = N1 + (M - N1 - 1) + 1 := by omega
    rw [e]
    exact .step h1 fun d T f w s L f2 a b c d' e' g => ih2 d T f w s L f2 a b c d' e' g (by omega)
def rB : Nat → Nat × Nat
  | 0 => (0, 1)
  | n + 1 => ((rB n).2, (rB n).1 + (rB n).2 + 2)
def rb (n : Nat) : Nat := (rB n).1
theorem rb_two (n : Nat) : rb (n + 2) = rb (n + 1) + rb n + 2 := by
  show (rB n).1 + (rB n).2 + 2 = (rB n).2 + (rB n).1 + 2
  omega
theorem rB_le : ∀ n, (rB n).1 ≤ (rB n).2
  | 0 => by decide
  | n + 1 => by
    have := rB_le n
    show (rB n).2 ≤ (rB n).1 + (rB n).2 + 2
    omega
theorem rb_succ (n : Nat) : rb n ≤ rb (n + 1) := rB_le n
theorem rb_mono {m n : Nat} (h : m ≤ n) : rb m ≤ rb n := by
  induction n with
  | zero => have : m = 0 := by omega
            rw [this]; exact Nat.le_refl _
  | succ n ih =>
    by_cases e : m ≤ n
    · exact Nat.le_trans (ih e) (rb_succ n)
    · have : m = n + 1 := by omega
      rw [this]; exact Nat.le_refl _
section
variable {own num : Int → Int} {ws : Int → List Int} {A : List Int}
theorem len_lt {f : Int → Bool} {x : Int} (hx : x ∈ A) (h : f x = false) : (A.filter f).length < A.length := by
  apply Nat.lt_of_le_of_ne (List.length_filter_le _ _)
  intro e
  have := List.length_filter_eq_length_iff.mp e x hx
  rw [h] at this
  cases this
theorem len_lt2 {f : Int → Bool} : ∀ {A : List Int} {x y : Int}, x ∈ A → y ∈ A → x ≠ y → f x = false → f y = false → (A.filter f).length + 2 ≤ A.length
  | [], _, _, h, _, _, _, _ => by cases h
  | a :: A, x, y, hx, hy, ne, fx, fy => by
    have both : ∀ {z}, z ∈ A → f z = false → f a = false → ((a :: A).filter f).length + 2 ≤ (a :: A).length := fun {z} hz fz fa => by
      rw [List.filter_cons_of_neg (by rw [fa]; decide), List.length_cons]
      have := len_lt hz fz
      omega
    rcases List.mem_cons.mp hx with e1 | h1
    · rcases List.mem_cons.mp hy with e2 | h2
      · exact absurd (e1.trans e2.symm) ne
      · exact both h2 fy (e1 ▸ fx)
    · rcases List.mem_cons.mp hy with e2 | h2
      · exact both h1 fx (e2 ▸ fy)
      · have ih := len_lt2 h1 h2 ne fx fy
        cases fa : f a with
        | true =>
          rw [List.filter_cons_of_pos fa, List.length_cons, List.length_cons]
          omega
        | false =>
          rw [List.filter_cons_of_neg (by rw [fa]; decide), List.length_cons]
          omega
/- all is won by the one who leads to the greatest number, if what the other one leads to doesn't touch what this one leads to -/
theorem quiet {n : Nat} {d : Int} {T L : List Int} {f f2 f3 : Int → Bool} {w w3 : Int → Int} {s s3 : Int → Option Int} (hn : ∀ p ∈ A, 0 ≤ p ∧ p < (n : Int)) (ho : ∀ p ∈ A, own p = 0 ∨ own p = 1) (ht : TopOf num A d T) (hf : ∀ p ∈ A, f p = true ↔ ¬ Led own ws A (d % 2) T p) (h : SolM own num ws (A.filter f) w s)
    (hL : ∀ p, p ∈ L ↔ p ∈ A.filter f ∧ w p ≠ d % 2) (hf2 : ∀ p ∈ A, f2 p = true ↔ ¬ Led own ws A (1 - d % 2) L p) (dis : ∀ p ∈ A, Led own ws A (d % 2) T p → ¬ Led own ws A (1 - d % 2) L p)
    {T3 : List Int} (hT3 : TopOf num (A.filter f2) d T3) (hf3 : ∀ p ∈ A.filter f2, f3 p = true ↔ ¬ Led own ws (A.filter f2) (d % 2) T3 p) (h3 : SolM own num ws ((A.filter f2).filter f3) w3 s3) : ∀ p ∈ (A.filter f2).filter f3, w3 p = d % 2 := by
  have inB : ∀ p, p ∈ A.filter f ↔ p ∈ A ∧ ¬ Led own ws A (d % 2) T p := fun p => by
    rw [List.mem_filter]
    exact ⟨fun z => ⟨z.1, (hf p z.1).mp z.2⟩, fun z => ⟨z.1, (hf p z.1).mpr z.2⟩⟩
  have inC : ∀ p, p ∈ A.filter f2 ↔ p ∈ A ∧ ¬ Led own ws A (1 - d % 2) L p := fun p => by
    rw [List.mem_filter]
    exact ⟨fun z => ⟨z.1, (hf2 p z.1).mp z.2⟩, fun z => ⟨z.1, (hf2 p z.1).mpr z.2⟩⟩
  have inD : ∀ p, p ∈ (A.filter f2).filter f3 ↔ p ∈ A.filter f2 ∧ ¬ Led own ws (A.filter f2) (d % 2) T3 p := fun p => by
    rw [List.mem_filter]
    exact ⟨fun z => ⟨z.1, (hf3 p z.1).mp z.2⟩, fun z => ⟨z.1, (hf3 p z.1).mpr z.2⟩⟩
  have d01 : d % 2 = 0 ∨ d % 2 = 1 := by omega
  have hTA : ∀ p ∈ T, p ∈ A := fun p hp => ((ht.mem p).mp hp).1
  have hLA : ∀ p ∈ L, p ∈ A := fun p hp => ((inB p).mp ((hL p).mp hp).1).1
  -- what is led to by the other one is lost already
  have DL : ∀ k p, lay own ws A (1 - d % 2) L k p = true → p ∈ L := by
    intro k
    induction k with
    | zero => exact fun p hp => of_decide_eq_true hp
    | succ k ih =>
      intro p hp
      have led : Led own ws A (1 - d % 2) L p := ⟨k + 1, hp⟩
      have hp' : (lay own ws A (1 - d % 2) L k p || (decide (p ∈ A) && ldB own ws A (1 - d % 2) (lay own ws A (1 - d % 2) L k) p)) = true := hp
      rw [Bool.or_eq_true, Bool.and_eq_true, decide_eq_true_eq] at hp'
      rcases hp' with z | ⟨pa, z⟩
      · exact ih p z
      · have pb : p ∈ A.filter f := (inB p).mpr ⟨pa, fun l => dis p pa l led⟩
        apply Classical.byContradiction
        intro nl
        have wp : w p = d % 2 := Classical.byContradiction fun y => nl ((hL p).mpr ⟨pb, y⟩)
        have gd := h.good _ d01
        unfold ldB at z
        by_cases o : own p = 1 - d % 2
        · rw [if_pos o, List.any_eq_true] at z
          obtain ⟨q, hq, hk⟩ := z
          have ql := ih q hk
          have qb := ((hL q).mp ql).1
          have ne : own p ≠ d % 2 := by omega
          have := gd.stay p q ⟨pb, wp⟩ ⟨fun y => absurd y ne, fun _ => ⟨hq, pb, qb⟩⟩
          exact ((hL q).mp ql).2 this.2
        · rw [if_neg o, List.all_eq_true] at z
          have oi : own p = d % 2 := by have := ho p pa; omega
          have st := gd.step p ⟨pb, wp⟩ oi
          have sy := gd.stay p _ ⟨pb, wp⟩ ⟨fun _ => rfl, fun y => absurd oi y⟩
          have hq := ih _ (z _ (List.mem_filter.mpr ⟨st.1, decide_eq_true ((inB _).mp sy.1).1⟩))
          exact ((hL _).mp hq).2 sy.2
  have notD : ∀ p, p ∈ A → p ∉ L → p ∈ A.filter f2 := fun p pa nl => (inC p).mpr ⟨pa, fun ⟨k, hk⟩ => nl (DL k p hk)⟩
  -- who leads to the greatest number still does
  have near : ∀ k p, lay own ws A (d % 2) T k p = true → Led own ws (A.filter f2) (d % 2) T3 p := by
    intro k
    induction k with
    | zero =>
      intro p hp
      have pT : p ∈ T := of_decide_eq_true hp
      obtain ⟨pa, pn⟩ := (ht.mem p).mp pT
      refine ⟨0, decide_eq_true ((hT3.mem p).mpr ⟨(inC p).mpr ⟨pa, dis p pa ⟨0, hp⟩⟩, pn⟩)⟩
    | succ k ih =>
      intro p hp
      have led : Led own ws A (d % 2) T p := ⟨k + 1, hp⟩
      have hp' : (lay own ws A (d % 2) T k p || (decide (p ∈ A) && ldB own ws A (d % 2) (lay own ws A (d % 2) T k) p)) = true := hp
      rw [Bool.or_eq_true, Bool.and_eq_true, decide_eq_true_eq] at hp'
      rcases hp' with z | ⟨pa, z⟩
      · exact ih p z
      · have pc : p ∈ A.filter f2 := (inC p).mpr ⟨pa, dis p pa led⟩
        apply Classical.byContradiction
        intro nn
        unfold ldB at z
        by_cases o : own p = d % 2
        · rw [if_pos o, List.any_eq_true] at z
          obtain ⟨q, hq, hk⟩ := z
          exact led_own pc nn o hq (ih q hk)
        · rw [if_neg o, List.all_eq_true] at z
          obtain ⟨q, hq, qc, qn⟩ := led_oth pc nn o
          exact qn (ih q (z q (List.mem_filter.mpr ⟨hq, decide_eq_true ((inC q).mp qc).1⟩)))
  have sub : ∀ p, p ∈ (A.filter f2).filter f3 → p ∈ A.filter f ∧ w p = d % 2 := fun p hp => by
    obtain ⟨pc, pn⟩ := (inD p).mp hp
    obtain ⟨pa, pl⟩ := (inC p).mp pc
    have pb : p ∈ A.filter f := (inB p).mpr ⟨pa, fun ⟨k, hk⟩ => pn (near k p hk)⟩
    exact ⟨pb, Classical.byContradiction fun y => pl ⟨0, decide_eq_true ((hL p).mpr ⟨pb, y⟩)⟩⟩
  have gd := h.good _ d01
  have all : Good ((gmk own num ws).sub fun p => p ∈ (A.filter f2).filter f3) (d % 2) (fun p => p ∈ (A.filter f2).filter f3) (fun p => (s p).getD 0) := by
    have stp : ∀ p, p ∈ (A.filter f2).filter f3 → own p = d % 2 → (s p).getD 0 ∈ ws p ∧ (s p).getD 0 ∈ (A.filter f2).filter f3 := fun p hp o => by
      have sy := gd.stay p _ (sub p hp) ⟨fun _ => rfl, fun y => absurd o y⟩
      have st := gd.step p (sub p hp) o
      have qa := ((inB _).mp sy.1).1
      have qc := notD _ qa fun z => ((hL _).mp z).2 sy.2
      obtain ⟨pc, pn⟩ := (inD p).mp hp
      exact ⟨st.1, (inD _).mpr ⟨qc, led_own pc pn o st.1⟩⟩
    refine ⟨fun p hp o => ⟨(stp p hp o).1, hp, (stp p hp o).2⟩, fun p q hp e => ?_, fun v hv t => ?_⟩
    · by_cases o : own p = d % 2
      · rw [e.1 o]; exact (stp p hp o).2
      · exact (e.2 o).2.2
    · refine gd.ring v (sub v hv) (tg_mono (fun p q z => ⟨sub p z.1, ⟨z.2.1.1, fun o => ?_⟩, z.2.2⟩) t)
      obtain ⟨a, b, c⟩ := z.2.1.2 o
      exact ⟨a, (sub p b).1, (sub q c).1⟩
  intro p hp
  apply Classical.byContradiction
  intro ne
  have z01 := h3.zo p hp
  have bnd : ∀ q, q ∈ (A.filter f2).filter f3 → 0 ≤ q ∧ q < (n : Int) := fun q hq => hn q ((inC q).mp ((inD q).mp hq).1).1
  have ow : ∀ q, q ∈ (A.filter f2).filter f3 → own q = 0 ∨ own q = 1 := fun q hq => ho q ((inC q).mp ((inD q).mp hq).1).1
  rcases d01 with e | e
  · rw [e] at all
    exact all.disj (h3.good 1 (.inr rfl)) bnd ow hp ⟨hp, by omega⟩
  · rw [e] at all
    exact (h3.good 0 (.inl rfl)).disj all (fun q hq => bnd q hq.1) (fun q hq => ow q hq.1) ⟨hp, by omega⟩ hp
theorem few_rb {m : Nat} (ho : ∀ p, 0 ≤ p → p < (m : Int) → own p = 0 ∨ own p = 1) : ∀ (n : Nat) (A : List Int), A.length ≤ n → (∀ p ∈ A, 0 ≤ p ∧ p < (m : Int)) → Few own num ws A (rb n) := by
  intro n
  induction n using Nat.strongRecOn with
  | _ n ih =>
    intro A hl hA
    have ne0 : A = [] ∨ ∃ x, x ∈ A := by cases A with
      | nil => exact .inl rfl
      | cons x l => exact .inr ⟨x, List.mem_cons_self⟩
    rcases ne0 with e | ⟨x, hx⟩
    · rw [e]; exact .nil
    have pos : 0 < A.length := List.length_pos_of_mem hx
    have subB : ∀ f : Int → Bool, ∀ p ∈ A.filter f, 0 ≤ p ∧ p < (m : Int) := fun f p hp => hA p (List.mem_filter.mp hp).1
    have near1 : ∀ d T f, TopOf num A d T → (∀ p ∈ A, f p = true ↔ ¬ Led own ws A (d % 2) T p) → (A.filter f).length < A.length := fun d T f ht hf => by
      obtain ⟨t, l, e⟩ := List.exists_cons_of_ne_nil ht.ne
      have tT : t ∈ T := by rw [e]; exact List.mem_cons_self
      have ta := ((ht.mem t).mp tT).1
      refine len_lt ta (Bool.eq_false_iff.mpr fun z => (hf t ta).mp z ⟨0, decide_eq_true tT⟩)
    match n, hl with
    | 0, hl => omega
    | 1, hl =>
      refine .step (N1 := 0) (N2 := 0) (fun d T f ht hf => ?_) (fun d T f w s L f2 ht hf h hL hne hf2 => ?_)
      · have := near1 d T f ht hf
        rw [List.eq_nil_of_length_eq_zero (l := A.filter f) (by omega)]
        exact .nil
      · have := near1 d T f ht hf
        have e := List.eq_nil_of_length_eq_zero (l := A.filter f) (by omega)
        obtain ⟨y, l, ey⟩ := List.exists_cons_of_ne_nil hne
        have := ((hL y).mp (by rw [ey]; exact List.mem_cons_self)).1
        rw [e] at this
        cases this
    | n + 2, hl =>
      rw [rb_two, show rb (n + 1) + rb n + 2 = rb (n + 1) + (rb n + 1) + 1 by omega]
      refine .step (fun d T f ht hf => ih (n + 1) (by omega) _ (by have := near1 d T f ht hf; omega) (subB f)) (fun d T f w s L f2 ht hf h hL hne hf2 => ?_)
      obtain ⟨y, l, ey⟩ := List.exists_cons_of_ne_nil hne
      have yL : y ∈ L := by rw [ey]; exact List.mem_cons_self
      have yB := ((hL y).mp yL).1
      obtain ⟨ya, yf⟩ := List.mem_filter.mp yB
      have f2y : f2 y = false := Bool.eq_false_iff.mpr fun z => (hf2 y ya).mp z ⟨0, decide_eq_true yL⟩
      by_cases dis : ∀ p ∈ A, Led own ws A (d % 2) T p → ¬ Led own ws A (1 - d % 2) L p
      · -- the greatest number is still there, and all is won by its player
        have hC := len_lt ya f2y
        by_cases ce : A.filter f2 = []
        · rw [ce]; exact .nil
        refine .step (N1 := rb n) (N2 := 0) (fun d3 T3 f3 ht3 hf3 => ?_) (fun d3 T3 f3 w3 s3 L3 f4 ht3 hf3 h3 hL3 hne3 hf4 => ?_)
        · refine ih n (by omega) _ ?_ (fun p hp => subB f2 p (List.mem_filter.mp hp).1)
          obtain ⟨t, l, e⟩ := List.exists_cons_of_ne_nil ht3.ne
          have tT : t ∈ T3 := by rw [e]; exact List.mem_cons_self
          have ta := ((ht3.mem t).mp tT).1
          have := len_lt (f := f3) ta (Bool.eq_false_iff.mpr fun z => (hf3 t ta).mp z ⟨0, decide_eq_true tT⟩)
          omega
        · exfalso
          have ed : d3 = d := by
            obtain ⟨t, l, e⟩ := List.exists_cons_of_ne_nil ht.ne
            have tT : t ∈ T := by rw [e]; exact List.mem_cons_self
            obtain ⟨ta, tn⟩ := (ht.mem t).mp tT
            have tc : t ∈ A.filter f2 := List.mem_filter.mpr ⟨ta, (hf2 t ta).mpr (dis t ta ⟨0, decide_eq_true tT⟩)⟩
            have h1 := ht3.le t tc
            obtain ⟨u, l, e⟩ := List.exists_cons_of_ne_nil ht3.ne
            obtain ⟨ua, un⟩ := (ht3.mem u).mp (by rw [e]; exact List.mem_cons_self)
            have h2 := ht.le u (List.mem_filter.mp ua).1
            omega
          subst ed
          have all := quiet (n := m) hA (fun p hp => ho p (hA p hp).1 (hA p hp).2) ht hf h hL hf2 dis ht3 hf3 h3
          obtain ⟨z, l, ez⟩ := List.exists_cons_of_ne_nil hne3
          obtain ⟨z1, z2⟩ := (hL3 z).mp (by rw [ez]; exact List.mem_cons_self)
          exact z2 (all z z1)
      · -- both lead to some place: two places go
        obtain ⟨p, hp⟩ := Classical.not_forall.mp dis
        obtain ⟨pa, hp⟩ := Classical.not_imp.mp hp
        obtain ⟨h1, h2⟩ := Classical.not_imp.mp hp
        have h2 := Classical.not_not.mp h2
        have f2p : f2 p = false := Bool.eq_false_iff.mpr fun z => (hf2 p pa).mp z h2
        have ne : p ≠ y := fun e => (hf y ya).mp yf (e ▸ h1)
        have := len_lt2 pa ya ne f2p f2y
        exact (ih n (by omega) _ (by omega) (subB f2)).mono (by omega)
end
theorem rb_30 : rb 30 ≤ 4000000 := by decide +kernel
end PG

namespace G
open PySem PySem.Spec PyProof.Rows L2
/-! ### the least numbers -/
structure LeanP (l ks : List Int) (lf : Int → Int) (now : Int) : Prop where
  mem : ∀ x, x ∈ ks ↔ x ∈ l
  nd : ks.Nodup
  now0 : l = [] → now = 0
  now1 : ∀ x ∈ l, (∀ y ∈ l, y ≤ x) → now = lf x
  odd : ∀ x ∈ l, lf x % 2 = x % 2
  up : ∀ x ∈ l, ∀ y ∈ l, x ≤ y → lf x ≤ lf y
  first : ∀ x ∈ l, (∀ y ∈ l, x ≤ y) → lf x = x % 2
  next : ∀ x ∈ l, ∀ y ∈ l, x < y → (∀ z ∈ l, z ≤ x ∨ y ≤ z) → lf y = lf x + (x + y) % 2
def relean (lf : Int → Int) (r : Row) : Row := ⟨r.p, lf r.n, r.ws⟩
/-- lf gives the least numbers of a game -/
def LeanOf (g : List Row) (lf : Int → Int) : Prop := ∃ l ks now, LeanP l ks lf now ∧ ∀ x, x ∈ l ↔ x ∈ g.map Row.n
theorem get_relean {g : List Row} {lf : Int → Int} {p : Int} : (g.map (relean lf))[p.toNat]? = (g[p.toNat]?).map (relean lf) := List.getElem?_map ..
theorem own_relean {g : List Row} {lf : Int → Int} : ownAt (g.map (relean lf)) = ownAt g := by
  funext p
  unfold ownAt
  rw [get_relean]
  cases g[p.toNat]? <;> rfl
theorem ws_relean {g : List Row} {lf : Int → Int} : wsOf (g.map (relean lf)) = wsOf g := by
  funext p
  unfold wsOf
  rw [get_relean]
  cases g[p.toNat]? <;> rfl
theorem num_relean {g : List Row} {lf : Int → Int} {p : Int} (h : 0 ≤ p ∧ p < (g.length : Int)) : numAt (g.map (relean lf)) p = lf (numAt g p) := by
  obtain ⟨r, hr, _, e, _⟩ := row_at h
  rw [e]
  unfold numAt
  rw [get_relean, hr]
  rfl
theorem valid_relean {g : List Row} {lf : Int → Int} (h : ValidG g) (hl : ∀ r ∈ g, 0 ≤ lf r.n) : ValidG (g.map (relean lf)) := by
  refine ⟨by rw [List.length_map]; exact h.1, fun r hr => ?_⟩
  obtain ⟨r0, h0, rfl⟩ := List.mem_map.mp hr
  rw [List.length_map]
  obtain ⟨a, b, c, d, e⟩ := h.2 r0 h0
  exact ⟨a, hl r0 h0, c, d, e⟩
def uptoL (n : Nat) : List Int := (List.range n).map fun j : Nat => (j : Int)
/-- few enough parts -/
def FewOk (g : List Row) : Prop := ∀ lf, LeanOf g lf → PG.Few (ownAt g) (numAt (g.map (relean lf))) (wsOf g) (uptoL g.length) 16000000
theorem fewOk_small {g : List Row} (h : ValidG g) (hl : g.length ≤ 30) : FewOk g := fun lf _ => by
  refine (PG.few_rb (m := g.length) (fun p h0 h1 => ?_) 30 (uptoL g.length) (by unfold uptoL; rw [List.length_map, List.length_range]; exact hl) (fun p hp => ?_)).mono (Nat.le_trans PG.rb_30 (by omega))
  · obtain ⟨r, hr, e, _⟩ := row_at (g := g) ⟨h0, h1⟩
    rw [e]
    exact (h.2 r (List.mem_of_getElem? hr)).1
  · unfold uptoL at hp
    obtain ⟨j, hj, rfl⟩ := List.mem_map.mp hp
    have := List.mem_range.mp hj
    omega
end G

namespace G
open PySem PySem.Spec PyProof.Rows L2
/-! ### plain data: how deep, alike -/
theorem lay_rows : ∀ g : List Row, PyData.canLayAll0 (g.map rowD) = true
  | [] => rfl
  | r :: g => by
    show ((true && (true && (PyData.canLayAll0 (r.ws.map .int) && true))) && PyData.canLayAll0 (g.map rowD)) = true
    rw [lay_ints, lay_rows g]; rfl
theorem dep_rows : ∀ g : List Row, PyData.depthAll (g.map rowD) ≤ 2
  | [] => Nat.zero_le _
  | r :: g => by
    show max (max 0 (max 0 (max (PyData.depthAll (r.ws.map .int) + 1) 0)) + 1) (PyData.depthAll (g.map rowD)) ≤ 2
    rw [dep_ints]
    have := dep_rows g
    omega
theorem lay_game (g : List Row) : PyData.canLay0 (gameD g) = true := lay_rows g
theorem shaped_game (g : List Row) : SeqAt.shaped (gameD g) = true := by
  unfold SeqAt.shaped
  rw [lay_game, Bool.true_and, decide_eq_true_eq]
  show PyData.depthAll (g.map rowD) + 1 ≤ 64
  have := dep_rows g
  omega
theorem lay_handed (g : List Row) (ss : List Int) : PyData.canLay0 (.list [gameD g, intsD ss]) = true := by
  show (PyData.canLayAll0 (g.map rowD) && (PyData.canLayAll0 (ss.map .int) && true)) = true
  rw [lay_rows, lay_ints]; rfl
theorem shaped_handed (g : List Row) (ss : List Int) : SeqAt.shaped (.list [gameD g, intsD ss]) = true := by
  unfold SeqAt.shaped
  rw [lay_handed, Bool.true_and, decide_eq_true_eq]
  show max (PyData.depthAll (g.map rowD) + 1) (max (PyData.depthAll (ss.map .int) + 1) 0) + 1 ≤ 64
  rw [dep_ints]
  have := dep_rows g
  omega
theorem lay_two (xs ys : List Int) : PyData.canLay0 (.tuple [intsD xs, intsD ys]) = true := by
  show (PyData.canLayAll0 (xs.map .int) && (PyData.canLayAll0 (ys.map .int) && true)) = true
  rw [lay_ints, lay_ints]; rfl
theorem shaped_two (xs ys : List Int) : SeqAt.shaped (.tuple [intsD xs, intsD ys]) = true := by
  unfold SeqAt.shaped
  rw [lay_two, Bool.true_and, decide_eq_true_eq]
  show max (PyData.depthAll (xs.map .int) + 1) (max (PyData.depthAll (ys.map .int) + 1) 0) + 1 ≤ 64
  rw [dep_ints, dep_ints]
  omega
theorem range_snoc {f : Nat → V} (n : Nat) : (List.range (n + 1)).map f = (List.range n).map f ++ [f n] := by
  rw [List.range_succ, List.map_append]
  rfl
theorem ints_inj {xs ys : List Int} (h : xs.map PyData.int = ys.map PyData.int) : xs = ys := by
  have := congrArg (List.map toI) h
  rw [map_toI, map_toI] at this
  exact this
theorem rowD_inj {a b : Row} (h : rowD a = rowD b) : a = b := by
  obtain ⟨p, n, ws⟩ := a
  obtain ⟨p', n', ws'⟩ := b
  have h1 := PyData.tuple.inj h
  obtain ⟨e1, h2⟩ := List.cons.inj h1
  obtain ⟨e2, h3⟩ := List.cons.inj h2
  obtain ⟨e3, _⟩ := List.cons.inj h3
  cases PyData.int.inj e1
  cases PyData.int.inj e2
  cases ints_inj (PyData.list.inj e3)
  rfl
theorem gameD_inj {g g' : List Row} (h : gameD g = gameD g') : g = g' := by
  have h1 : g.map rowD = g'.map rowD := PyData.list.inj h
  exact List.map_inj_right (fun a b e => rowD_inj e) |>.mp h1
def spLaw (K : PySem.W.Frag) : Sp := fun vs H Q _ => ∃ (a : Addr) (ns : List Int), vs = [.ref a] ∧ SqL K H a (ns.map V.int) ∧ ns.length ≤ 63 ∧ ∀ H', Q (.bl true) H'
end G

namespace G
open PySem PySem.Spec PyProof.Rows L2 Relation
theorem ite_no {c : Bool} {A B : Prop} (h : c = false) (b : B) : if c = true then A else B := by rw [h]; exact b
theorem ite_yes {c : Bool} {A B : Prop} (h : c = true) (a : A) : if c = true then A else B := by rw [h]; exact a
theorem ne_of_same {a b : V} (h : a = b) : (!decide (a = b)) = false := by rw [decide_eq_true h]; rfl
/-! ### what is promised of winners and their steps; a comprehension over a range -/
def wAt (ws : List Int) (p : Int) : Int := (ws[p.toNat]?).getD 0
def InG (g : List Row) (p : Int) : Prop := 0 ≤ p ∧ p < (g.length : Int)
structure SolOk (g : List Row) (ws : List Int) (ss : List (Option Int)) : Prop where
  lenW : ws.length = g.length
  lenS : ss.length = g.length
  zo : ∀ p, InG g p → wAt ws p = 0 ∨ wAt ws p = 1
  own : ∀ p, InG g p → ownAt g p = wAt ws p → ∃ s, ss[p.toNat]? = some (some s)
  oth : ∀ p, InG g p → ownAt g p ≠ wAt ws p → ss[p.toNat]? = some none
  good : ∀ i, i = 0 ∨ i = 1 → PG.Good (gm g) i (fun p => InG g p ∧ wAt ws p = i) (stepAt ss)
def spWon (K : PySem.W.Frag) : Sp := fun vs H Q _ => ∃ (v : V) (g : List Row), vs = [v] ∧ Dp K H v (gameD g) ∧ ValidG g ∧ FewOk g ∧ ∀ H' a ws ss, Same H H' → H a = none → H' a = some (.lst (ws.map V.int)) → SolOk g ws ss → Q (.ref a) H'
def spSteps (K : PySem.W.Frag) : Sp := fun vs H Q _ => ∃ (v : V) (g : List Row), vs = [v] ∧ Dp K H v (gameD g) ∧ ValidG g ∧ FewOk g ∧ ∀ H' a ws ss, Same H H' → H a = none → H' a = some (.lst (ss.map optV)) → SolOk g ws ss → Q (.ref a) H'
/-- flaw, asked of steps without one -/
def spFlawN (K : PySem.W.Frag) : Sp := fun vs H Q _ => ∃ (vg : V) (al at_ : Addr) (g : List Row) (i : Int) (ps : List Int) (ss : List (Option Int)), vs = [vg, .int i, .ref al, .ref at_] ∧ Dp K H vg (gameD g) ∧ ValidG g ∧ (i = 0 ∨ i = 1) ∧ SqL K H al (ps.map V.int) ∧ SqL K H at_ (ss.map optV) ∧ StepsFor g i ss ps ∧ ps.Nodup ∧ (∀ p s, ss[p]? = some (some s) → s ∈ wsOf g (p : Nat)) ∧
  (∀ p ∈ ps, ∀ q ∈ edg g i ss p, q ∈ ps) ∧ ¬ Loses g i ss ps ∧ ∀ H', Same H H' → Q .non H'
section
variable {g : List Row} {ws ws' : List Int} {ss ss' : List (Option Int)}
theorem own01 (hv : ValidG g) {p : Int} (h : InG g p) : ownAt g p = 0 ∨ ownAt g p = 1 := by
  obtain ⟨r, hr, e, _⟩ := row_at h
  rw [e]
  exact (hv.2 r (List.mem_of_getElem? hr)).1
theorem SolOk.same (hv : ValidG g) (h : SolOk g ws ss) (h' : SolOk g ws' ss') : ws' = ws := by
  have k := PG.Good.same (n := g.length) (h.good 0 (.inl rfl)) (h.good 1 (.inr rfl)) (h'.good 0 (.inl rfl)) (h'.good 1 (.inr rfl)) (fun p a b => own01 hv ⟨a, b⟩) (fun p a => a.1) (fun p a => a.1) (fun p a => a.1) (fun p a => a.1)
    (fun p a b => (h.zo p ⟨a, b⟩).imp (fun z => ⟨⟨a, b⟩, z⟩) fun z => ⟨⟨a, b⟩, z⟩) (fun p a b => (h'.zo p ⟨a, b⟩).imp (fun z => ⟨⟨a, b⟩, z⟩) fun z => ⟨⟨a, b⟩, z⟩)
  have e : ∀ p, InG g p → wAt ws' p = wAt ws p := fun p hp => by
    rcases h.zo p hp with z | z
    · rw [z]; exact ((k.1 p).mp ⟨hp, z⟩).2
    · rw [z]; exact ((k.2 p).mp ⟨hp, z⟩).2
  apply List.ext_getElem
  · rw [h.lenW, h'.lenW]
  · intro j h1 h2
    have := e (j : Nat) ⟨by omega, by rw [← h'.lenW]; omega⟩
    unfold wAt at this
    rw [Int.toNat_natCast, List.getElem?_eq_getElem h1, List.getElem?_eq_getElem h2] at this
    exact this
theorem SolOk.way (h : SolOk g ws ss) {p s : Int} (hp : InG g p) (e : ss[p.toNat]? = some (some s)) : ownAt g p = wAt ws p ∧ s ∈ wsOf g p := by
  by_cases o : ownAt g p = wAt ws p
  · refine ⟨o, ?_⟩
    have := (h.good _ (h.zo p hp)).step p ⟨hp, rfl⟩ o
    have es : stepAt ss p = s := by unfold stepAt; rw [e]; rfl
    rw [es] at this
    exact this
  · rw [h.oth p hp o] at e
    cases e
theorem ws_at {g : List Row} {ws : List Int} {p : Int} (hl : ws.length = g.length) (h : InG g p) : (ws.map V.int)[p.toNat]? = some (.int (wAt ws p)) := by
  have hlt : p.toNat < ws.length := by unfold InG at h; omega
  unfold wAt
  rw [List.getElem?_map, List.getElem?_eq_getElem hlt]
  rfl
def upto (n : Nat) : List Int := (List.range n).map fun j : Nat => (j : Int)
theorem upto_succ (n : Nat) : upto (n + 1) = upto n ++ [(n : Int)] := by
  unfold upto
  rw [List.range_succ, List.map_append]
  rfl
theorem mem_upto {n : Nat} {p : Int} : p ∈ upto n ↔ 0 ≤ p ∧ p < (n : Int) := by
  unfold upto
  rw [List.mem_map]
  constructor
  · rintro ⟨j, hj, rfl⟩
    have := List.mem_range.mp hj
    omega
  · intro h
    exact ⟨p.toNat, List.mem_range.mpr (by omega), by omega⟩
theorem len_upto (n : Nat) : (upto n).length = n := by unfold upto; rw [List.length_map, List.length_range]
/-- those of the places from which one wins -/
def mineOf (g : List Row) (ws : List Int) (i : Int) : List Int := (upto g.length).filter fun p => decide (wAt ws p = i)
theorem mem_mine {i p : Int} : p ∈ mineOf g ws i ↔ InG g p ∧ wAt ws p = i := by
  unfold mineOf InG
  rw [List.mem_filter, mem_upto, decide_eq_true_eq]
theorem nodup_upto (n : Nat) : (upto n).Nodup := by
  unfold upto
  rw [List.nodup_iff_pairwise_ne, List.pairwise_map]
  exact (List.nodup_iff_pairwise_ne.mp List.nodup_range).imp fun h e => h (Int.ofNat.inj e)
theorem nodup_mine {i : Int} : (mineOf g ws i).Nodup := (nodup_upto _).filter _
theorem SolOk.steps (h : SolOk g ws ss) {i : Int} (hi : i = 0 ∨ i = 1) : StepsFor g i ss (mineOf g ws i) := ⟨h.lenS, fun p hp => by
  obtain ⟨hp, e⟩ := mem_mine.mp hp
  refine ⟨hp, fun o => ?_⟩
  obtain ⟨s, hs⟩ := h.own p hp (o.trans e.symm)
  exact ⟨s, hs, (h.way hp hs).2⟩⟩
theorem SolOk.shut (h : SolOk g ws ss) {i : Int} (hi : i = 0 ∨ i = 1) : ∀ p ∈ mineOf g ws i, ∀ q ∈ edg g i ss p, q ∈ mineOf g ws i := fun p hp q hq => mem_mine.mpr ((h.good i hi).stay p q (mem_mine.mp hp) (ed_edg.mpr hq))
theorem SolOk.wins (h : SolOk g ws ss) {i : Int} (hi : i = 0 ∨ i = 1) : ¬ Loses g i ss (mineOf g ws i) := fun ⟨v, hv, ho, t⟩ => ho ((h.good i hi).ring v (mem_mine.mp hv) (PG.tg_mono (fun p q z => ⟨mem_mine.mp z.1, ed_edg.mpr z.2.1, z.2.2⟩) t))
end
theorem lc_keepR {n : Nat} {g : TG} {tt : TT} {te : TE} {vs : List Nat} {σ : L2.St} {H1 : Hp} {D : Addr} {Qd : Hp → Prop} (f : Int → Bool) (nD : H1 D = none) (hz : n ≤ 1000)
    (hs : ∀ (i : Nat) (H : Hp) (Q : VK) (N : Hp → Prop), i < n → Same H1 H → (f (i : Nat) = true → ∀ H', Same H H' → Q (.int (i : Nat)) H') → (f (i : Nat) = false → ∀ H', Same H H' → N H') →
      g (.int (0 + (i : Nat))) (wipe σ vs) H fun σ2 H2 => wipe σ2 vs = wipe σ vs ∧ tt σ2 H2 fun b H3 => if b = true then te σ2 H3 Q else N H3)
    (hd : ∀ H, Same H1 H → H D = some (.lst (((upto n).filter f).map V.int)) → Qd H) :
    ∃ W : Nat → Nat → Hp → Prop, (∃ m, W 0 m (upd H1 D (.lst []))) ∧ ∀ i m H, W i m H →
      ((Itr 0 n).stop i H ∧ Qd H) ∨ ((Itr 0 n).go i H ∧ ∃ Nx : Hp → Prop, (∀ H', Nx H' → ∃ m', m' < m ∧ W (i + 1) m' H') ∧ ∀ x H', (Itr 0 n).yld i H x H' → g x (wipe σ vs) H' fun σ2 H2 => wipe σ2 vs = wipe σ vs ∧ tt σ2 H2 fun b H3 =>
        if b = true then te σ2 H3 fun y H4 => ∃ acc, H4 D = some (.lst acc) ∧ acc.length < sizeLine ∧ Nx (upd H4 D (.lst (acc ++ [y]))) else Nx H3) := by
  refine lc_range (lo := 0) (n := n) (fun i H => Same H1 H ∧ H D = some (.lst (((upto i).filter f).map V.int))) ⟨same_upd nD, by rw [upd_same]; rfl⟩ (fun i H hi p => ?_) (fun H p => hd H p.1 p.2)
  have step := upto_succ i
  have le : (((upto i).filter f).map V.int).length < sizeLine := small1000 (by
    rw [List.length_map]
    have := List.length_filter_le f (upto i)
    rw [len_upto] at this
    omega)
  refine hs i H _ _ hi p.1 (fun hf H' s => ⟨_, s _ _ p.2, le, fun b o e => ?_, ?_⟩) (fun hf H' s => ⟨p.1.trans s, ?_⟩)
  · rw [upd_ne (ne_of_none e nD)]
    exact s _ _ (p.1 _ _ e)
  · rw [upd_same, step, List.filter_append, List.filter_cons_of_pos hf, List.map_append]
    rfl
  · rw [s _ _ p.2, step, List.filter_append, List.filter_cons_of_neg (by rw [hf]; decide), List.filter_nil, List.append_nil]
end G

namespace G
open PySem PySem.Spec PyProof.Rows L2
/-! ### tuple(d), list(d.values()) -/
section
variable {prog : Program} {w : World} {A : Around} {E : Value → Shared → Prop} {s : Shared} {T : String} {r d : Addr} {n : Nat} {P : Nat → Value → Prop} {OK : Heap → Prop}
theorem collect_src {Q : List Value → Shared → Prop} (K : PySem.W.KdlSrc prog w T r d n P OK) (hh : A.handled = none) (hok : OK s.heap) (hn : n ≤ sizeLine)
    (hQ : ∀ (g : Heap) (tk : Nat) (ac : Array Value), (∀ b o, s.heap.get? b = some o → g.get? b = some o) → ItemsOf P ac n → Q ac.toList { s with heap := g, toks := tk }) : wpAny (model prog w) A (collect (.ref r)) Q E s := by
  unfold collect
  refine wpAny_bind (wpAny_runValue (codeAny_builtin F.entry_proto_collect ?_))
  rw [Around.under_plainId F.plain_proto_collect _]
  show wpAny _ A.in1 (newList [] >>= fun z => again (.builtin "list.__iadd__" ⟨[z, .ref r], []⟩)) _ _ s
  refine wpAny_bind (wpAny_newObj_type ?_)
  refine wpAny_pure ⟨plainId_quiet F.plain_list_iadd _, codeAny_builtin F.entry_list_iadd ?_⟩
  rw [Around.under_plainId F.plain_list_iadd _]
  show wpAny _ A.in1 (Builtin.List.listExtendWith (.ref s.heap.objs.size) (.ref r) (.ref s.heap.objs.size)) _ _ _
  have nS : (s.heap.push { cls := .type "list", data := .seq ([] : List Value).toArray }).get? s.heap.objs.size = some { cls := .type "list", data := .seq #[] 0 } := Heap.get?_push_size _ rfl
  obtain ⟨lr, ld⟩ := K.there s.heap hok
  have ok1 : OK (s.heap.push { cls := .type "list", data := .seq ([] : List Value).toArray }) := K.keep _ _ hok fun b _ o e => Heap.get?_push_of_some _ e
  refine wpAny_mono (PySem.W.kdl_extend (A := A) (R := fun rr t => rr = .ok (.ret (.ref s.heap.objs.size)) ∧ ∃ (g : Heap) (tk : Nat) (ac : Array Value) (c : Nat), t = { s with heap := g, toks := tk } ∧
      (∀ b o, s.heap.get? b = some o → g.get? b = some o) ∧ g.get? s.heap.objs.size = some { cls := .type "list", dict := none, data := .seq ac c, slots := #[] } ∧ ItemsOf P ac n)
    (s := { s with heap := s.heap.push { cls := .type "list", data := .seq ([] : List Value).toArray } }) K hh ok1 s.heap.objs.size (Nat.ne_of_gt lr) (Nat.ne_of_gt ld) _ 0 nS
    (fun g tk ac c hk e hi => ⟨rfl, g, tk, ac, c, rfl, fun b o q => hk b o (Nat.ne_of_lt (Heap.lt_size q)) (Heap.get?_push_of_some _ q), e, hi⟩) hn) (fun fin t h => ?_) (fun e t h => ?_)
  · cases fin with
    | done f =>
      obtain ⟨e, g, tk, ac, c, rfl, hk, nS2, hi⟩ := h
      cases e
      show wpAny _ A (load s.heap.objs.size >>= _) _ _ _
      exact wpAny_bind (wpAny_load nS2 (wpAny_pure (hQ g tk ac hk hi)))
    | again c2 =>
      refine ⟨h.1, codeAny_mono h.2 fun rr t2 hr => ?_⟩
      obtain ⟨rfl, g, tk, ac, c, rfl, hk, nS2, hi⟩ := hr
      show wpAny _ A (load s.heap.objs.size >>= _) _ _ _
      exact wpAny_bind (wpAny_load nS2 (wpAny_pure (hQ g tk ac hk hi)))
  · exact absurd h.1 (by simp)
theorem code_tuple_src {Q₁ : Value → Shared → Prop} (K : PySem.W.KdlSrc prog w T r d n P OK) (hh : A.handled = none) (hok : OK s.heap) (hn : n ≤ sizeLine)
    (h : ∀ (g : Heap) (tk : Nat) (ac : Array Value), (∀ b o, s.heap.get? b = some o → g.get? b = some o) → ItemsOf P ac n → Q₁ (.ref g.objs.size) { s with heap := g.push { cls := .type "tuple", data := .seq ac }, toks := tk })
    (h1 : (Value.type T == Value.type "tuple") = false) : codeAny (model prog w) A (.call (.builtin "tuple.__new__") ⟨[.type "tuple", .ref r], []⟩) (wants Q₁ E) s := by
  refine codeAny_of_tree ?_
  show wpAny _ A.in1 (do checkBuiltinCall "tuple.__new__" ⟨[.type "tuple", .ref r], []⟩; again (.builtin "tuple.__new__" ⟨[.type "tuple", .ref r], []⟩)) _ _ s
  refine wpAny_bind (wpAny_of_eq (F.newCall_tuple_1 _) (wpAny_pure ⟨plainId_quiet F.plain_tuple_new _, codeAny_builtin F.entry_tuple_new ?_⟩))
  rw [Around.under_plainId F.plain_tuple_new _]
  have ks := sub_tuple_self
  have ki := init_tuple_lookup
  have km := madeHere_tuple
  have kt : s.TypeIs (.ref r) T := K.type s hok
  have kh : A.in1.handled = none := hh
  wp_walk using wpAny_typeOf kt, collect_src (A := A.in1) K kh hok hn
  intro g tk ac hk hi
  show wpAny _ _ (Builtin.Tuple.tupleExact ac.toList.toArray >>= fun v => ret v) _ _ _
  unfold Builtin.Tuple.tupleExact
  refine wpAny_bind (wpAny_newObj_type ?_ (by show ac.toList.toArray.size ≤ sizeLine; simp only [Array.toArray_toList]; rw [hi.1]; exact hn))
  refine wpAny_pure ?_
  have ea : ac.toList.toArray = ac := by simp
  rw [ea]
  exact h g tk ac hk hi
theorem call_tuple_src {Q : Value → Shared → Prop} (K : PySem.W.KdlSrc prog w T r d n P OK) (hh : A.handled = none) (hok : OK s.heap) (hn : n ≤ sizeLine)
    (hQ : ∀ (g : Heap) (tk : Nat) (ac : Array Value), (∀ b o, s.heap.get? b = some o → g.get? b = some o) → ItemsOf P ac n → Q (.ref g.objs.size) { s with heap := g.push { cls := .type "tuple", data := .seq ac }, toks := tk }) :
    wpAny (model prog w) A (call (.type "tuple") [.ref r]) Q E s := by
  refine callType_codes (Q₁ := fun x t => t.TypeIs x "tuple" ∧ Q x t) F.called_tuple (F.typeCall_tuple_1 _) F.entry_object_init
    (code_tuple_src (A := A.in1) K hh hok hn (fun g tk ac hk hi => ⟨⟨_, Heap.get?_push_size _ rfl, rfl⟩, hQ g tk ac hk hi⟩) K.notTuple) fun x t ht => ?_
  exact ⟨ht.1, F.args_object_init_2 x _, object_init_meets F.called_tuple.init.lookup F.called_tuple.made (by decide) prog w A.in1 _ t ⟨ht.1, rfl, ht.2⟩⟩
end
/-- tuple(d): a new tuple of the keys -/
def rTupD : List V → Hp → VK → Prop := fun xs H Q => ∃ p kvs, xs = [.ref p] ∧ H p = some (.dK kvs) ∧ ∀ q, H q = none → Q (.ref q) (upd H q (.tup (kvs.map fun kv => kV kv.1)))
theorem call_tuple_dK {X : Cx} (hc : X.calm = true) : CallR X (.type "tuple") rTupD := by
  intro pins s σ H xs us Q I r h
  obtain ⟨p, kvs, rfl, hk, q⟩ := h
  obtain ⟨u, rfl, rx⟩ := vals1 r
  obtain rfl : u = Value.ref p := rx
  obtain ⟨z, lo, vs, rk, hd⟩ := (show ObjOk X.prog X.w H s.heap p (.dK kvs) from I.hok p _ hk)
  obtain ⟨ep, hat⟩ := hd.dictAt
  have hl : kvs.length = vs.length := Paired.length rk
  have hz : vs.length ≤ sizeLine := by rw [← hl]; exact z
  refine call_tuple_src (PySem.W.kdl_dict (knd := mixKind X.prog X.w) (kvs := vs) (ep := ep) lo) (I.ok.hd hc) hat hz fun g tk ac hkeep hacc => ?_
  have I2 : Inv X pins σ H { s with heap := g, toks := tk } := I.kept (t' := tk) hkeep
  refine ⟨.ref g.objs.size, upd H g.objs.size (.tup (kvs.map fun kv => kV kv.1)), I2.laid (t' := tk) (fun b o e => Heap.get?_push_of_some _ e) (Nat.le_refl _) (show ObjOk X.prog X.w _ _ _ (.tup _) from ⟨by rw [List.length_map]; exact z, ac.toList, ?_, ?_⟩), rfl, q _ (I2.hok.fresh (Nat.le_refl _))⟩
  · have el : ac.toList.length = ac.size := by simp
    refine vals_of_at (by rw [List.length_map, el, hacc.1, hl]) fun j x v h1 h2 => ?_
    obtain ⟨k, y, hky, hi⟩ := hacc.2 j v (by rw [← Array.getElem?_toList]; exact h2)
    have e1 : (kvs.map (·.1))[j]? = some k := by
      rw [KV.keys rk, List.getElem?_map, hky]; rfl
    have e2 : (kvs.map fun kv => kV kv.1)[j]? = some (kV k) := by
      rw [show (kvs.map fun kv => kV kv.1) = (kvs.map (·.1)).map kV from by rw [List.map_map]; rfl, List.getElem?_map, e1]; rfl
    rw [e2] at h1
    cases h1
    exact keyIs_rel hi
  · rw [Array.toArray_toList]; exact IsTup.new _ _
end G

namespace G
open PySem PySem.Spec PyProof.Rows L2
/-! ### {**a, **b} -/
section
variable {prog : Program} {w : World} {A : Around} {E : Value → Shared → Prop} {s : Shared}
theorem put_pairs {d : Addr} {kvs : List (Key × Value)} {k : Key} {key v : Value} {Q : Unit → Shared → Prop} (hk : (mixKind prog w).is k key = true) (hm : s.heap.DictOf (mixKind prog w) d kvs) (hz : kvs.length ≤ sizeLine)
    (hQ : ∀ g, g.DictOf (mixKind prog w) d (stored kvs k v) → Heap.SameBut d s.heap g → Q () { s with heap := g }) : wpAny (model prog w) A (dictPut d ((mixKind prog w).hash k) key v) Q E s := by
  obtain ⟨o, es, ep, ho, hc, hd, hks, hp, hn⟩ := hm
  have hes : es.size ≤ sizeLine := by
    have e1 := hp.length
    have e2 : es.toList.length = es.size := by simp
    omega
  unfold dictPut
  refine wpAny_bind (wpAny_dictFind_of hk ho hd hks ?_)
  have hx : (es.findIdx? fun e => (mixKind prog w).is k e.key) = kvs.findIdx? fun kv => decide (kv.1 = k) := by
    rw [← hp.findIdx k]
    obtain ⟨l⟩ := es
    simp
  cases hi : es.findIdx? fun e => (mixKind prog w).is k e.key with
  | some i =>
    have ha := any_of_findIdx_some (hx ▸ hi)
    refine wpAny_updateDict ho hd (hQ _ ⟨_, _, ep, Heap.get?_update_self _ ho (Obj.isFreed_of_dict (Obj.data_mapDict hd _)), hc.mapDict _, Obj.data_mapDict hd _, hks.modify _ _, ?_, ?_⟩ (Heap.SameBut.update ..))
    · have hl : (es.toList.findIdx? fun e => (mixKind prog w).is k e.key) = some i := by
        rw [← hi]
        obtain ⟨l⟩ := es
        simp
      have hm := hp.modify hn hl v
      rw [stored, if_pos ha]
      obtain ⟨l⟩ := es
      simpa using hm
    · rw [stored, if_pos ha, keys_map_store]
      exact hn
  | none =>
    have hno : k ∉ kvs.map (·.1) := not_mem_of_findIdx_none (hx ▸ hi)
    have ha : ¬ (kvs.any fun kv => decide (kv.1 = k)) = true := fun z => by
      obtain ⟨kv, h1, h2⟩ := List.any_eq_true.mp z
      exact hno (List.mem_map.mpr ⟨kv, h1, of_decide_eq_true h2⟩)
    refine wpAny_updateDictKeys (hz := hes) ho hd (hQ _ ⟨_, _, ep + 1, Heap.get?_update_self _ ho (Obj.isFreed_of_dict (Obj.data_mapDictKeys hd _)), hc.mapDictKeys _, Obj.data_mapDictKeys hd _, hks.push hk _, ?_, ?_⟩ (Heap.SameBut.update ..))
    · have hm := hp.append hk ((mixKind prog w).hash k) v
      rw [stored, if_neg ha]
      obtain ⟨l⟩ := es
      simpa using hm
    · rw [stored, if_neg ha, List.map_append, List.nodup_append]
      refine ⟨hn, by simp, fun x hx y hy => ?_⟩
      have : y = k := by simpa using hy
      rw [this]
      exact fun z => hno (z ▸ hx)
theorem key_noref {k : Key} {v : Value} (h : (mixKind prog w).is k v = true) : ∀ a, v ≠ .ref a := by
  rintro a rfl
  rcases keyIs_shape (k := k) (v := .ref a) h with ⟨i, t, _, e⟩ | ⟨x, t, _, e⟩ <;> cases e
theorem merge_map {d o : Addr} {kvs more : List (Key × Value)} {Q : Unit → Shared → Prop} (hdo : d ≠ o) (hoS : (o == sysModules) = false) (hd : s.heap.DictOf (mixKind prog w) d kvs) (ho : s.heap.DictOf (mixKind prog w) o more) (hz : kvs.length + more.length ≤ sizeLine)
    (hQ : ∀ g, g.DictOf (mixKind prog w) d (merged kvs more) → Heap.SameBut d s.heap g → Q () { s with heap := g }) : wpAny (model prog w) A (mergeMapping d (.ref o) false) Q E s := by
  obtain ⟨od, esd, epd, hod, hcd, hdd, hkd, hpd, hnd⟩ := id hd
  obtain ⟨oo, eso, epo, hoo, hco, hdo', hko, hpo, hno⟩ := id ho
  have hlen : more.length = eso.size := by rw [← hpo.length]; simp
  have loop : ∀ s1 : Shared, s1.heap = s.heap → { s1 with heap := s.heap } = s → wpAny (model prog w) A (forIn (List.range eso.size) PUnit.unit fun i (_ : PUnit) => (do
      let l ← dictEntries o
      match l[i]? with
      | some e => do
        holding [e.key, e.val] (dictPut d e.hash e.key e.val)
        let q ← dictEpoch o
        if (q != epo) = true then do
          unsupported "dict.changed-during-merge"
          pure (ForInStep.yield PUnit.unit)
        else pure (ForInStep.yield PUnit.unit)
      | x => do
        unsupported "dict.changed-during-merge"
        pure (ForInStep.yield PUnit.unit) : Sem (ForInStep PUnit))) (fun _ t => Q () t) E s := by
    intro _ _ _
    refine wpAny_forIn_list _ (fun rest _ t => ∃ g i, t = { s with heap := g } ∧ rest = List.range' i (eso.size - i) ∧ i ≤ eso.size ∧ g.DictOf (mixKind prog w) d (merged kvs (more.take i)) ∧ g.get? o = some oo ∧ Heap.SameBut d s.heap g) _ ?_ ?_ _ _
      ⟨s.heap, 0, rfl, by rw [List.range_eq_range', Nat.sub_zero], Nat.zero_le _, by simpa [merged] using hd, hoo, Heap.SameBut.refl _ _⟩
    · rintro x rest b t ⟨g, i, rfl, hr, hi, hg, hoo', hs⟩
      have hlt : i < eso.size := by
        apply Classical.byContradiction
        intro hc
        rw [Nat.sub_eq_zero_of_le (Nat.le_of_not_lt hc)] at hr
        cases hr
      rw [show eso.size - i = (eso.size - (i + 1)) + 1 by omega, List.range'_succ] at hr
      injection hr with h1 h2
      subst h1
      refine wpAny_bind (wpAny_dictEntries hoo' hdo' ?_)
      rw [Array.getElem?_eq_getElem hlt]
      obtain ⟨⟨k, v⟩, hkv⟩ : ∃ kv, more[x]? = some kv := ⟨more[x]'(by rw [hlen]; exact hlt), List.getElem?_eq_getElem _⟩
      obtain ⟨hkey, hval⟩ := hpo.get? (e := eso[x]) (by simp [hlt]) hkv
      obtain ⟨k2, hkey2, hhash⟩ := hko eso[x] (Array.getElem_mem hlt)
      obtain rfl : k2 = k := (mixKind prog w).inj _ _ _ hkey2 hkey
      show wpAny _ _ (holding [eso[x].key, eso[x].val] (dictPut d eso[x].hash eso[x].key eso[x].val) >>= _) _ _ _
      rw [hhash, hval]
      have hle : (merged kvs (more.take x)).length ≤ sizeLine := by
        have e1 := merged_length_le kvs (more.take x)
        have e2 : (more.take x).length ≤ more.length := by rw [List.length_take]; omega
        omega
      refine wpAny_bind (wpAny_holding (put_pairs (s := { s with heap := g }) hkey hg hle fun g2 hg2 hs2 => ?_))
      have hoo2 : g2.get? o = some oo := (hs2.2 o (Ne.symm hdo)).trans hoo'
      refine wpAny_bind (wpAny_dictEpoch hoo2 hdo' ?_)
      rw [if_neg (by simp)]
      exact wpAny_pure ⟨g2, x + 1, rfl, h2, hlt, by rw [merged_take_succ kvs more x (k2, v) hkv]; exact hg2, hoo2, hs.trans hs2⟩
    · rintro b t ⟨g, i, rfl, hr, hi, hg, hoo', hs⟩
      have hin : i = eso.size := by
        apply Classical.byContradiction
        intro hc
        rw [show eso.size - i = (eso.size - (i + 1)) + 1 by omega, List.range'_succ] at hr
        cases hr
      rw [hin, ← hlen, List.take_length] at hg
      exact hQ g hg hs
  unfold mergeMapping
  refine wpAny_bind (wpAny_isInstance ho.typeIs isSubtype_dict_dict ?_)
  rw [if_pos rfl]
  refine wpAny_bind (wpAny_specialOf ho.typeIs F.slot_dict_iter.lookup ?_)
  refine wpAny_bind (wpAny_pure ?_)
  simp only [beq_self_eq_true]
  rw [if_neg (by rw [hoS]; exact Bool.false_ne_true)]
  refine wpAny_bind (wpAny_dictEntries hod hdd ?_)
  have tail : wpAny (model prog w) A (do
      let es ← dictEntries o
      let size : Nat := es.size
      let epoch ← dictEpoch o
      forIn (List.range size) PUnit.unit fun i (_ : PUnit) => (do
        let l ← dictEntries o
        match l[i]? with
        | some e => do
          holding [e.key, e.val] (dictPut d e.hash e.key e.val)
          let q ← dictEpoch o
          if (q != epoch) = true then do
            unsupported "dict.changed-during-merge"
            pure (ForInStep.yield PUnit.unit)
          else pure (ForInStep.yield PUnit.unit)
        | x => do
          unsupported "dict.changed-during-merge"
          pure (ForInStep.yield PUnit.unit) : Sem (ForInStep PUnit))
      pure ()) Q E s := by
    refine wpAny_bind (wpAny_dictEntries hoo hdo' ?_)
    refine wpAny_bind (wpAny_dictEpoch hoo hdo' ?_)
    exact wpAny_bind (wpAny_mono (loop s rfl rfl) (fun _ t h => wpAny_pure h) fun _ _ h => h)
  split
  · refine wpAny_bind (wpAny_dictEntries hoo hdo' ?_)
    refine wpAny_bind ?_
    have nop : (forIn eso PUnit.unit fun e (_ : PUnit) => (match e.key with
        | Value.ref a => do
          let q ← specialOf e.key (Str.ofString "__eq__")
          if (q != some (Value.builtin "object.__eq__")) = true then
            if (Array.filter (fun x => x.hash == e.hash) eso).size > 1 then do
              unsupported "dict.merge-into-an-empty-dict:keys-of-equal-hash"
              pure (ForInStep.yield PUnit.unit)
            else pure (ForInStep.yield PUnit.unit)
          else pure (ForInStep.yield PUnit.unit)
        | x => pure (ForInStep.yield PUnit.unit) : Sem (ForInStep PUnit))) = pure PUnit.unit := by
      rw [← Array.forIn_toList]
      refine forIn_yield_id _ fun e he c => ?_
      obtain ⟨k, hk, _⟩ := hko e (Array.mem_toList_iff.mp he)
      have nr := key_noref hk
      cases hv : e.key with
      | ref a => exact absurd hv (nr a)
      | _ => rfl
    exact wpAny_of_eq nop tail
  · exact tail
end
end G

namespace G
open PySem PySem.Spec PyProof.Rows L2
theorem disp_two (a b : Sem Value) : dictDisplay [(none, a), (none, b)] = (do
    let d ← alloc { cls := .type "dict", data := .dict #[] }
    let m ← holding [.ref d] a
    (((holding [.ref d, m] (mergeMapping d m false)).onRaise fun x => do let _ ← holding [.ref d, m, x] (runValue (.builtin "proto.let_go" {}))).tryCatch fun e => do
        if ← isInstance e (.type "AttributeError") then
          rule "dict.display.not-a-mapping"; raiseError "TypeError" s!"'{← typeNameOf m}' object is not a mapping"
        throw e).onRaise fun x => do let _ ← holding [.ref d, x] (runValue (.builtin "proto.let_go" {}))
    let n ← holding [.ref d] b
    (((holding [.ref d, n] (mergeMapping d n false)).onRaise fun x => do let _ ← holding [.ref d, n, x] (runValue (.builtin "proto.let_go" {}))).tryCatch fun e => do
        if ← isInstance e (.type "AttributeError") then
          rule "dict.display.not-a-mapping"; raiseError "TypeError" s!"'{← typeNameOf n}' object is not a mapping"
        throw e).onRaise fun x => do let _ ← holding [.ref d, x] (runValue (.builtin "proto.let_go" {}))
    pure (.ref d)) := by
  unfold dictDisplay
  simp only [List.forIn_cons, List.forIn_nil, List.isEmpty_nil, if_true, pure_bind, bind_assoc]
/-- {**a, **b}, keys ints and texts: p the new dict -/
def tMerge (ta tb : TE) : TE := fun σ H Q => ∀ p, H p = none → ta σ (upd H p (.dK [])) fun x H1 => ∃ a ka, x = .ref a ∧ H1 a = some (.dK ka) ∧ a ≠ p ∧ H1 p = some (.dK []) ∧ ka.length ≤ 1000 ∧
  tb σ (upd H1 p (.dK (mergeK [] ka))) fun y H2 => ∃ b kb, y = .ref b ∧ H2 b = some (.dK kb) ∧ b ≠ p ∧ H2 p = some (.dK (mergeK [] ka)) ∧ kb.length ≤ 1000 ∧ Q (.ref p) (upd H2 p (.dK (mergeK (mergeK [] ka) kb)))
section
variable {X : Cx}
theorem merge_step {pins : List (Addr × Obj)} {σ : L2.St} {H : Hp} {s : Shared} {p a : Addr} {kp ka : List (Key × V)} {A : Around} {E : Value → Shared → Prop} {Q : Unit → Shared → Prop} {k1 k3 : Value → Sem Unit} {k2 : Value → Sem Unit} (I : Inv X pins σ H s) (hp : H p = some (.dK kp)) (ha : H a = some (.dK ka)) (hne : a ≠ p) (h1 : kp.length ≤ 1000) (h2 : ka.length ≤ 1000)
    (h : ∀ t, Inv X pins σ (upd H p (.dK (mergeK kp ka))) t → Q () t) :
    wpAny (model X.prog X.w) A ((((holding [.ref p, .ref a] (mergeMapping p (.ref a) false)).onRaise k1).tryCatch k2).onRaise k3) Q E s := by
  obtain ⟨_, hd, vs, rel, dd⟩ := dk_of I.hok hp
  obtain ⟨_, hd2, vs2, rel2, dd2⟩ := dk_of I.hok ha
  have l1 : vs.length ≤ 1000 := by rw [← rel.length]; exact h1
  have l2 : vs2.length ≤ 1000 := by rw [← rel2.length]; exact h2
  refine wpAny_onRaise (wpAny_tryCatch (wpAny_onRaise (wpAny_holding (merge_map (Ne.symm hne) hd2 dd dd2 (by rw [sizeLine_eq]; omega) fun g hg hs => h _ ?_))))
  have hz : (mergeK kp ka).length ≤ sizeLine := by
    have := length_mergeK ka kp
    rw [sizeLine_eq]; omega
  have he : ∃ q, g.get? p = some q := let ⟨q, _, _, hq, _⟩ := hg; ⟨q, hq⟩
  exact d_write (t' := s.toks) I (by rw [hp]; exact True.intro) hs he (dk_new hz hd (rel2.merge rel) hg)
theorem pe_merge2 {a b : Expr} {ta tb : TE} {pos : Pos} (ha : PE X a ta) (hb : PE X b tb) : PE X (.Dict [none, none] [a, b] pos) (tMerge ta tb) := by
  refine ⟨fun pins s σ H Q I q => ?_⟩
  have hn := I.hok.fresh (Nat.le_refl s.heap.objs.size)
  have I1 := I.laid (a := s.heap.objs.size) (o := .dK []) (h' := s.heap.push { cls := .type "dict", data := .dict #[] }) (t' := s.toks) (fun _ _ q => Heap.get?_push_of_some _ q) (Nat.le_refl _) (dk_empty s.heap I.big)
  rw [arm_eval_Dict]
  refine wpAny_bind (wpAny_standAt ?_)
  show wpAny _ _ (dictDisplay [(none, do let x ← eval a X.env; standAt pos; pure x), (none, do let x ← eval b X.env; standAt pos; pure x)]) _ _ s
  rw [disp_two]
  refine wpAny_bind (wpAny_alloc ?_)
  refine wpAny_bind (wpAny_holding (wpAny_bind (thn (ha.run pins _ σ _ _ I1 (q _ hn)) fun v s2 ⟨x, H2, I2, r, y, ka, ex, h1, h2, h3, h4, q2⟩ => wpAny_bind (wpAny_standAt (wpAny_pure ?_)))))
  subst ex
  obtain rfl : v = Value.ref y := r
  refine wpAny_bind (merge_step I2 h3 h1 h2 (by simp) h4 fun s3 I3 => ?_)
  refine wpAny_bind (wpAny_holding (wpAny_bind (thn (hb.run pins _ σ _ _ I3 q2) fun v s4 ⟨x, H4, I4, r, z, kb, ex, k1, k2, k3, k4, q4⟩ => wpAny_bind (wpAny_standAt (wpAny_pure ?_)))))
  subst ex
  obtain rfl : v = Value.ref z := r
  have hl : (mergeK [] ka).length ≤ 1000 := by
    have := length_mergeK ka []
    rw [List.length_nil] at this
    omega
  refine wpAny_bind (merge_step I4 k3 k1 k2 hl k4 fun s5 I5 => wpAny_pure ⟨.ref s.heap.objs.size, _, I5, rfl, q4⟩)
end
end G

namespace G
open PySem PySem.Spec PyProof.Rows L2
/-! ### dicts of ints, walked and made -/
def dkOf (ks : List Int) (f : Int → V) : List (Key × V) := ks.map fun p => (Sum.inl p, f p)
theorem len_dkOf (ks : List Int) (f : Int → V) : (dkOf ks f).length = ks.length := List.length_map _
theorem val_dkOf (f : Int → V) (p : Int) : ∀ ks : List Int, valV (dkOf ks f) (Sum.inl p) = if p ∈ ks then some (f p) else none
  | [] => rfl
  | x :: ks => by
    by_cases e : x = p
    · rw [if_pos (by rw [e]; exact List.mem_cons_self)]
      show valV ((Sum.inl x, f x) :: dkOf ks f) (Sum.inl p) = _
      rw [valV_pos (by show (Sum.inl x : Key) = Sum.inl p; rw [e]), e]
    · show valV ((Sum.inl x, f x) :: dkOf ks f) (Sum.inl p) = _
      rw [valV_neg (fun z => e (Sum.inl.inj z)), val_dkOf f p ks]
      by_cases m : p ∈ ks
      · rw [if_pos m, if_pos (List.mem_cons_of_mem _ m)]
      · rw [if_neg m, if_neg (fun z => (List.mem_cons.mp z).elim (fun q => e q.symm) m)]
theorem put_dkOf {ks : List Int} {f g : Int → V} {p : Int} {v : V} (h : p ∉ ks) (hg : ∀ q ∈ ks, g q = f q) (hp : g p = v) : putK (dkOf ks f) (Sum.inl p) v = dkOf (ks ++ [p]) g := by
  rw [putK_new v (by rw [val_dkOf, if_neg h])]
  unfold dkOf
  rw [List.map_append]
  have e : ks.map (fun q => ((Sum.inl q : Key), f q)) = ks.map (fun q => ((Sum.inl q : Key), g q)) := List.map_congr_left fun q hq => by rw [hg q hq]
  rw [e, ← hp]
  rfl
theorem set_dkOf {ks : List Int} {f g : Int → V} {p : Int} {v : V} (h : p ∈ ks) (hg : ∀ q ∈ ks, q ≠ p → g q = f q) (hp : g p = v) : putK (dkOf ks f) (Sum.inl p) v = dkOf ks g := by
  unfold putK
  rw [valV_any, val_dkOf, if_pos h, Option.isSome_some, if_pos rfl]
  unfold dkOf
  rw [List.map_map]
  refine List.map_congr_left fun q hq => ?_
  show (if (Sum.inl q : Key) = Sum.inl p then ((Sum.inl q : Key), v) else (Sum.inl q, f q)) = (Sum.inl q, g q)
  by_cases e : q = p
  · rw [if_pos (by rw [e]), e, hp]
  · rw [if_neg (fun z => e (Sum.inl.inj z)), hg q hq e]
theorem keys_dkOf (ks : List Int) (f : Int → V) : (dkOf ks f).map (fun kv => kV kv.1) = ks.map V.int := by
  unfold dkOf
  rw [List.map_map]
  rfl
theorem get_dkOf {ks : List Int} {f : Int → V} {i : Nat} {k : Key} {v : V} (h : (dkOf ks f)[i]? = some (k, v)) : ∃ p, ks[i]? = some p ∧ k = Sum.inl p ∧ v = f p := by
  unfold dkOf at h
  rw [List.getElem?_map] at h
  obtain ⟨p, hp, e⟩ := Option.map_eq_some_iff.mp h
  cases e
  exact ⟨p, hp, rfl, rfl⟩
def But (d : Addr) (H H' : Hp) : Prop := ∀ b o, b ≠ d → H b = some o → H' b = some o
theorem But.trans {d : Addr} {H H1 H2 : Hp} (a : But d H H1) (b : But d H1 H2) : But d H H2 := fun c o n h => b c o n (a c o n h)
theorem But.of {d : Addr} {H H1 : Hp} (a : Same H H1) : But d H H1 := fun c o _ h => a c o h
theorem But.upd {d : Addr} {H : Hp} {o : HO} : But d H (upd H d o) := fun c u n h => by rw [upd_ne n]; exact h
/-- lists and tuples stay -/
def SqS (K : PySem.W.Frag) (H H' : Hp) : Prop := (∀ a xs, SqL K H a xs → SqL K H' a xs) ∧ ∀ a xs, SqT K H a xs → SqT K H' a xs
theorem SqS.of {K : PySem.W.Frag} {H H' : Hp} (s : Same H H') : SqS K H H' := ⟨fun _ _ h => s.seq h, fun _ _ h => same_sqt s h⟩
theorem SqS.trans {K : PySem.W.Frag} {H H1 H2 : Hp} (a : SqS K H H1) (b : SqS K H1 H2) : SqS K H H2 := ⟨fun c x h => b.1 c x (a.1 c x h), fun c x h => b.2 c x (a.2 c x h)⟩
/-- what stands at d is a dict, locked or not -/
def DictAt (H : Hp) (d : Addr) : Prop := (∃ kvs, Rd H d (.dK kvs)) ∨ ∃ kvs, Rd H d (.dT kvs)
theorem SqS.but {K : PySem.W.Frag} {d : Addr} {H H' : Hp} (hd : DictAt H d) (b : But d H H') : SqS K H H' := by
  have ne : ∀ {a : Addr} {o : HO}, H a = some o → (∀ kvs, o ≠ .dK kvs) → (∀ kvs, o ≠ .dT kvs) → (∀ u kvs, o ≠ .frz u (.dK kvs)) → (∀ u kvs, o ≠ .frz u (.dT kvs)) → a ≠ d := fun e h1 h2 h3 h4 z => by
    subst z
    rcases hd with ⟨k, q | ⟨u, q⟩⟩ | ⟨k, q | ⟨u, q⟩⟩ <;> rw [e] at q <;> have q' := Option.some.inj q
    · exact h1 _ q'
    · exact h3 _ _ q'
    · exact h2 _ q'
    · exact h4 _ _ q'
  constructor
  · intro a xs h
    rcases h with (h | ⟨o, h⟩) | h
    · exact .inl (.inl (b _ _ (ne h (fun _ z => nomatch z) (fun _ z => nomatch z) (fun _ _ z => nomatch z) (fun _ _ z => nomatch z)) h))
    · exact .inl (.inr ⟨o, b _ _ (ne h (fun _ z => nomatch z) (fun _ z => nomatch z) (fun _ _ z => nomatch z) (fun _ _ z => nomatch z)) h⟩)
    · exact .inr h
  · intro a xs h
    rcases h with (h | ⟨o, h⟩) | h
    · exact .inl (.inl (b _ _ (ne h (fun _ z => nomatch z) (fun _ z => nomatch z) (fun _ _ z => nomatch z) (fun _ _ z => nomatch z)) h))
    · exact .inl (.inr ⟨o, b _ _ (ne h (fun _ z => nomatch z) (fun _ z => nomatch z) (fun _ _ z => nomatch z) (fun _ _ z => nomatch z)) h⟩)
    · exact .inr h
mutual
theorem dp_sq {K : PySem.W.Frag} {H H' : Hp} (s : SqS K H H') : ∀ (d : PyData) (v : V), Dp K H v d → Dp K H' v d
  | .none, _, h => by cases h; exact .non
  | .bool b, _, h => by cases h; exact .bl b
  | .int i, _, h => by cases h; exact .int i
  | .str x, _, h => by cases h; exact .str x
  | .list ds, _, h => by
    cases h with
    | lst hs ha => exact .lst (s.1 _ _ hs) (dp_sqAll s ds _ ha)
  | .tuple ds, _, h => by
    cases h with
    | tup hs ha => exact .tup (s.2 _ _ hs) (dp_sqAll s ds _ ha)
  | .dict _, _, h => by cases h
theorem dp_sqAll {K : PySem.W.Frag} {H H' : Hp} (s : SqS K H H') : ∀ (ds : List PyData) (vs : List V), DpAll K H vs ds → DpAll K H' vs ds
  | [], _, h => by cases h; exact .nil
  | d :: ds, _, h => by
    cases h with
    | cons h1 h2 => exact .cons (dp_sq s d _ h1) (dp_sqAll s ds _ h2)
end
/-- locked and set free again: all stays -/
theorem same_free {d : Addr} {u : HO} {o : Obj} {H H' : Hp} (hd : H d = some u) (s : Same (upd H d (.frz o u)) H') : Same H (upd H' d u) := fun b x e => by
  by_cases z : b = d
  · subst z
    rw [upd_same, ← hd, e]
  · rw [upd_ne z]
    exact s _ _ (by rw [upd_ne z]; exact e)
theorem rd_mono {H H' : Hp} {a : Addr} {u : HO} (s : Same H H') (h : Rd H a u) : Rd H' a u := h.imp (s _ _) fun ⟨o, q⟩ => ⟨o, s _ _ q⟩
theorem rd_but {d : Addr} {H H' : Hp} {a : Addr} {u : HO} (s : But d H H') (n : a ≠ d) (h : Rd H a u) : Rd H' a u := h.imp (s _ _ n) fun ⟨o, q⟩ => ⟨o, s _ _ n q⟩
theorem rd_inj {H : Hp} {a : Addr} {k k2 : List (Key × V)} (h : Rd H a (.dK k)) (h2 : H a = some (.dK k2)) : k = k2 := by
  rcases h with h | ⟨o, h⟩
  · rw [h2] at h
    exact (HO.dK.inj (Option.some.inj h)).symm
  · rw [h2] at h
    cases h
/-! ### comprehensions over the keys of a dict -/
theorem lc_dkeys {i : Nat} {g : TG} {tt : TT} {te : TE} {vs : List Nat} {σ : L2.St} {H : Hp} {Q : VK} {d : Addr} {ks : List Int} {f0 : Int → V} (f : Int → Bool) (h : Int → V) (hi : σ[i]? = some (some (.ref d))) (hd : H d = some (.dK (dkOf ks f0))) (hz : ks.length ≤ 1000)
    (hs : ∀ (p : Int) (H' : Hp) (Qe : VK) (N : Hp → Prop), p ∈ ks → But d H H' → Rd H' d (.dK (dkOf ks f0)) → (f p = true → ∀ H'', Same H' H'' → Qe (h p) H'') → (f p = false → ∀ H'', Same H' H'' → N H'') →
      g (.int p) (wipe σ vs) H' fun σ2 H2 => wipe σ2 vs = wipe σ vs ∧ tt σ2 H2 fun b H3 => if b = true then te σ2 H3 Qe else N H3)
    (hq : ∀ H' D, Same H H' → H D = none → H' D = some (.lst ((ks.filter f).map h)) → Q (.ref D) H') : tLockE (tLc (iKeys (tVar i)) g tt te vs) σ H Q := by
  refine ⟨d, _, hd, True.intro, fun od => ⟨_, hi, d, od, rfl, .inl ⟨_, upd_same, fun D nD => ?_⟩⟩⟩
  have nD' : H D = none ∧ D ≠ d := by
    by_cases z : D = d
    · rw [z, upd_same] at nD
      cases nD
    · rw [upd_ne z] at nD
      exact ⟨nD, z⟩
  refine lc_it walk_keys (fun j H' => Same (upd H d (.frz od (.dK (dkOf ks f0)))) H' ∧ H' D = some (.lst (((ks.take j).filter f).map h))) ⟨same_upd nD, by rw [upd_same]; rfl⟩ (fun j H' _ p => p.1 _ _ upd_same) (fun j x H1 H2 hj p y => ?_) (fun H' p => ⟨p.1 _ _ upd_same, ?_⟩)
  · obtain ⟨rfl, k, v, hk, rfl⟩ := y
    obtain ⟨q, hq', rfl, rfl⟩ := get_dkOf hk
    have bt : But d H H2 := fun b o n e => p.1 _ _ (by rw [upd_ne n]; exact e)
    have step : ks.take (j + 1) = ks.take j ++ [q] := by rw [List.take_add_one, hq']; rfl
    refine hs q H2 _ _ (List.mem_of_getElem? hq') bt (.inr ⟨od, p.1 _ _ upd_same⟩) (fun hf H'' s => ⟨_, s _ _ p.2, ?_, fun b o e => ?_, ?_⟩) (fun hf H'' s => ⟨p.1.trans s, ?_⟩)
    · exact small1000 (by
        rw [List.length_map]
        have h1 := List.length_filter_le f (ks.take j)
        have h2 : (ks.take j).length ≤ j := by rw [List.length_take]; omega
        rw [len_dkOf] at hj
        omega)
    · rw [upd_ne (ne_of_none e nD)]
      exact s _ _ (p.1 _ _ e)
    · rw [upd_same, step, List.filter_append, List.filter_cons_of_pos hf, List.map_append]
      rfl
    · rw [s _ _ p.2, step, List.filter_append, List.filter_cons_of_neg (by rw [hf]; decide), List.filter_nil, List.append_nil]
  · have e : ks.take (dkOf ks f0).length = ks := by rw [len_dkOf]; exact List.take_length
    have q := p.2
    rw [e] at q
    refine hq _ D (same_free hd p.1) nD'.1 ?_
    rw [upd_ne nD'.2]
    exact q
/-- a dict comprehension over anything walked, keys told one by one; P holds of what is made, and stays -/
theorem dc_it {J : It} {n : Nat} {G0 : Hp → Prop} {Y : Nat → Hp → V → Hp → Prop} (w : Walk J n G0 Y) {g : TG} {tt : TT} {tk tv : TE} {vs : List Nat} {σ : L2.St} {H1 : Hp} {D : Addr} {Qd : Hp → Prop} (Pv : Nat → Hp → Prop) (h0 : Pv 0 (upd H1 D (.dK []))) (hG : ∀ i H, i ≤ n → Pv i H → G0 H)
    (hs : ∀ i x H H', i < n → Pv i H → Y i H x H' → g x (wipe σ vs) H' fun σ2 H2 => wipe σ2 vs = wipe σ vs ∧ tt σ2 H2 fun b H3 =>
      if b = true then tk σ2 H3 fun y H4 => tv σ2 H4 fun z H5 => ∃ kvs k, y = kV k ∧ H5 D = some (.dK kvs) ∧ kvs.length < sizeLine ∧ Pv (i + 1) (upd H5 D (.dK (putK kvs k z))) else Pv (i + 1) H3) (hd : ∀ H, Pv n H → Qd H) :
    ∃ W : Nat → Nat → Hp → Prop, (∃ m, W 0 m (upd H1 D (.dK []))) ∧ ∀ i m H, W i m H →
      (J.stop i H ∧ Qd H) ∨ (J.go i H ∧ ∃ Nx : Hp → Prop, (∀ H', Nx H' → ∃ m', m' < m ∧ W (i + 1) m' H') ∧ ∀ x H', J.yld i H x H' → g x (wipe σ vs) H' fun σ2 H2 => wipe σ2 vs = wipe σ vs ∧ tt σ2 H2 fun b H3 =>
        if b = true then tk σ2 H3 fun y H4 => tv σ2 H4 fun z H5 => ∃ kvs k, y = kV k ∧ H5 D = some (.dK kvs) ∧ kvs.length < sizeLine ∧ Nx (upd H5 D (.dK (putK kvs k z))) else Nx H3) := by
  refine ⟨fun i m H => m = n - i ∧ i ≤ n ∧ Pv i H, ⟨n, by simp, Nat.zero_le _, h0⟩, ?_⟩
  rintro i m H ⟨rfl, hi, p⟩
  have q := hG i H hi p
  by_cases hlt : i < n
  · exact .inr ⟨w.goes i H hlt q, Pv (i + 1), fun H' p' => ⟨n - (i + 1), by omega, rfl, hlt, p'⟩, fun x H' y => hs i x H H' hlt p (w.yields i H x H' hlt q y)⟩
  · have e : i = n := by omega
    subst e
    exact .inl ⟨w.stops H q, hd H p⟩
/-- tuples stay -/
def KeepT (H H' : Hp) : Prop := ∀ b xs, H b = some (.tup xs) → H' b = some (.tup xs)
theorem KeepT.of {H H' : Hp} (s : Same H H') : KeepT H H' := fun b xs e => s b _ e
theorem KeepT.upd {H : Hp} {d : Addr} {o u : HO} (h : H d = some u) (n : ∀ xs, u ≠ .tup xs) : KeepT H (upd H d o) := fun b xs e => by
  rw [upd_ne (fun z => by rw [z, h] at e; exact n xs (Option.some.inj e))]
  exact e
/-- what is made, told one by one over a row of ints; D the new dict -/
theorem dc_ints {J : It} {n : Nat} {G0 : Hp → Prop} {Y : Nat → Hp → V → Hp → Prop} (w : Walk J n G0 Y) {g : TG} {tt : TT} {tk tv : TE} {vs : List Nat} {σ : L2.St} {H1 : Hp} {D : Addr} {Qd : Hp → Prop} (ks : List Int) (f : Int → Bool) (R : Int → V → Hp → Prop) (hR : ∀ p v H' H'', KeepT H' H'' → R p v H' → R p v H'')
    (hn : ks.length = n) (hz : ks.length ≤ 1000) (hN : ks.Nodup) (nD : H1 D = none) (hG : ∀ H, Same H1 H → G0 H) (hY : ∀ i H x H', i < n → Same H1 H → Y i H x H' → H' = H ∧ ∃ p, ks[i]? = some p ∧ x = .int p)
    (hs : ∀ (p : Int) (H' : Hp) (Qe : V → V → Hp → Prop) (N : Hp → Prop), p ∈ ks → Same H1 H' → (f p = true → ∀ v H'', Same H' H'' → R p v H'' → Qe (.int p) v H'') → (f p = false → ∀ H'', Same H' H'' → N H'') →
      g (.int p) (wipe σ vs) H' fun σ2 H2 => wipe σ2 vs = wipe σ vs ∧ tt σ2 H2 fun b H3 => if b = true then tk σ2 H3 fun y H4 => tv σ2 H4 fun z H5 => Qe y z H5 else N H3)
    (hq : ∀ H' h, Same H1 H' → H' D = some (.dK (dkOf (ks.filter f) h)) → (∀ p ∈ ks.filter f, R p (h p) H') → Qd H') :
    ∃ W : Nat → Nat → Hp → Prop, (∃ m, W 0 m (upd H1 D (.dK []))) ∧ ∀ i m H, W i m H →
      (J.stop i H ∧ Qd H) ∨ (J.go i H ∧ ∃ Nx : Hp → Prop, (∀ H', Nx H' → ∃ m', m' < m ∧ W (i + 1) m' H') ∧ ∀ x H', J.yld i H x H' → g x (wipe σ vs) H' fun σ2 H2 => wipe σ2 vs = wipe σ vs ∧ tt σ2 H2 fun b H3 =>
        if b = true then tk σ2 H3 fun y H4 => tv σ2 H4 fun z H5 => ∃ kvs k, y = kV k ∧ H5 D = some (.dK kvs) ∧ kvs.length < sizeLine ∧ Nx (upd H5 D (.dK (putK kvs k z))) else Nx H3) := by
  refine dc_it w (fun j H' => ∃ h, Same H1 H' ∧ H' D = some (.dK (dkOf ((ks.take j).filter f) h)) ∧ ∀ p ∈ (ks.take j).filter f, R p (h p) H') ⟨fun _ => .non, same_upd nD, by rw [upd_same]; rfl, fun p hp => by cases hp⟩ (fun j H' _ ⟨_, p, _⟩ => hG _ p) (fun j x H0 H2 hj ⟨h, p, pD, pR⟩ y => ?_) (fun H' ⟨h, p, pD, pR⟩ => ?_)
  · obtain ⟨rfl, q, hq', rfl⟩ := hY j H0 x H2 hj p y
    have step : ks.take (j + 1) = ks.take j ++ [q] := by rw [List.take_add_one, hq']; rfl
    have new : q ∉ ks.take j := by
      have hN' := hN.sublist (List.take_sublist (j + 1) ks)
      rw [step, List.nodup_append] at hN'
      exact fun z => hN'.2.2 q z q (List.mem_singleton.mpr rfl) rfl
    refine hs q H2 _ _ (List.mem_of_getElem? hq') p (fun hf v H'' s hv => ⟨_, Sum.inl q, rfl, s _ _ pD, ?_, fun a => if a = q then v else h a, fun b o e => ?_, ?_, fun a ha => ?_⟩) (fun hf H'' s => ⟨h, p.trans s, ?_, fun a ha => ?_⟩)
    · refine small1000 ?_
      rw [len_dkOf]
      have h1 := List.length_filter_le f (ks.take j)
      have h2 : (ks.take j).length ≤ j := by rw [List.length_take]; omega
      omega
    · rw [upd_ne (ne_of_none e nD)]
      exact s _ _ (p _ _ e)
    · rw [upd_same, step, List.filter_append, List.filter_cons_of_pos hf, List.filter_nil, put_dkOf (g := fun a => if a = q then v else h a) (fun z => new (List.mem_filter.mp z).1) (fun a ha => if_neg (c := a = q) fun z => new (by rw [← z]; exact (List.mem_filter.mp ha).1)) (if_pos rfl)]
    · rw [step, List.filter_append, List.filter_cons_of_pos hf, List.filter_nil] at ha
      have kt : KeepT H'' (upd H'' D (.dK (putK (dkOf ((ks.take j).filter f) h) (Sum.inl q) v))) := KeepT.upd (s _ _ pD) fun _ z => nomatch z
      refine hR _ _ _ _ kt ?_
      show R a (if a = q then v else h a) H''
      rcases List.mem_append.mp ha with z | z
      · rw [if_neg (c := a = q) fun e => new (by rw [← e]; exact (List.mem_filter.mp z).1)]
        exact hR _ _ _ _ (KeepT.of s) (pR a z)
      · have e : a = q := by simpa using z
        rw [if_pos e, e]
        exact hv
    · rw [s _ _ pD, step, List.filter_append, List.filter_cons_of_neg (by rw [hf]; decide), List.filter_nil, List.append_nil]
    · rw [step, List.filter_append, List.filter_cons_of_neg (by rw [hf]; decide), List.filter_nil, List.append_nil] at ha
      exact hR _ _ _ _ (KeepT.of s) (pR a ha)
  · rw [← hn, List.take_length] at pD pR
    exact hq H' h p pD pR
/-- {p: .. for p in d if f p} -/
theorem dc_dkeys {i : Nat} {g : TG} {tt : TT} {tk tv : TE} {vs : List Nat} {σ : L2.St} {H : Hp} {Q : VK} {d : Addr} {ks : List Int} {f0 : Int → V} (f : Int → Bool) (R : Int → V → Hp → Prop) (hR : ∀ p v H' H'', KeepT H' H'' → R p v H' → R p v H'') (hi : σ[i]? = some (some (.ref d))) (hd : H d = some (.dK (dkOf ks f0))) (hz : ks.length ≤ 1000) (hN : ks.Nodup)
    (hs : ∀ (p : Int) (H' : Hp) (Qe : V → V → Hp → Prop) (N : Hp → Prop), p ∈ ks → But d H H' → Rd H' d (.dK (dkOf ks f0)) → (f p = true → ∀ v H'', Same H' H'' → R p v H'' → Qe (.int p) v H'') → (f p = false → ∀ H'', Same H' H'' → N H'') →
      g (.int p) (wipe σ vs) H' fun σ2 H2 => wipe σ2 vs = wipe σ vs ∧ tt σ2 H2 fun b H3 => if b = true then tk σ2 H3 fun y H4 => tv σ2 H4 fun z H5 => Qe y z H5 else N H3)
    (hq : ∀ H' D h, Same H H' → H D = none → H' D = some (.dK (dkOf (ks.filter f) h)) → (∀ p ∈ ks.filter f, R p (h p) H') → Q (.ref D) H') : tLockE (tDc (iKeys (tVar i)) g tt tk tv vs) σ H Q := by
  refine ⟨d, _, hd, True.intro, fun od => ⟨_, hi, d, od, rfl, .inl ⟨_, upd_same, fun D nD => ?_⟩⟩⟩
  have nD' : H D = none ∧ D ≠ d := by
    by_cases z : D = d
    · rw [z, upd_same] at nD
      cases nD
    · rw [upd_ne z] at nD
      exact ⟨nD, z⟩
  refine dc_ints walk_keys ks f R hR (len_dkOf ks f0).symm hz hN nD (fun H' s => s _ _ upd_same) (fun j H0 x H2 hj s y => ?_) (fun p H' Qe N hp s h1 h2 => hs p H' Qe N hp (fun b o n e => s _ _ (by rw [upd_ne n]; exact e)) (.inr ⟨od, s _ _ upd_same⟩) h1 h2) (fun H' h s e r => ⟨s _ _ upd_same, ?_⟩)
  · obtain ⟨rfl, k, v, hk, rfl⟩ := y
    obtain ⟨q, hq', rfl, rfl⟩ := get_dkOf hk
    exact ⟨rfl, q, hq', rfl⟩
  · refine hq _ D h (same_free hd s) nD'.1 (by rw [upd_ne nD'.2]; exact e) fun p hp => ?_
    exact hR _ _ _ _ (KeepT.upd (s _ _ upd_same) fun _ z => nomatch z) (r p hp)
/-! ### lists made over a row of ints -/
theorem lc_ints {J : It} {n : Nat} {G0 : Hp → Prop} {Y : Nat → Hp → V → Hp → Prop} (w : Walk J n G0 Y) {g : TG} {tt : TT} {te : TE} {vs : List Nat} {σ : L2.St} {H1 : Hp} {D : Addr} {Qd : Hp → Prop} (ks : List Int) (f : Int → Bool) (h : Int → V)
    (hn : ks.length = n) (hz : ks.length ≤ 1000) (nD : H1 D = none) (hG : ∀ H, Same H1 H → G0 H) (hY : ∀ i H x H', i < n → Same H1 H → Y i H x H' → H' = H ∧ ∃ p, ks[i]? = some p ∧ x = .int p)
    (hs : ∀ (p : Int) (H' : Hp) (Qe : VK) (N : Hp → Prop), p ∈ ks → Same H1 H' → (f p = true → ∀ H'', Same H' H'' → Qe (h p) H'') → (f p = false → ∀ H'', Same H' H'' → N H'') →
      g (.int p) (wipe σ vs) H' fun σ2 H2 => wipe σ2 vs = wipe σ vs ∧ tt σ2 H2 fun b H3 => if b = true then te σ2 H3 Qe else N H3)
    (hq : ∀ H', Same H1 H' → H' D = some (.lst ((ks.filter f).map h)) → Qd H') :
    ∃ W : Nat → Nat → Hp → Prop, (∃ m, W 0 m (upd H1 D (.lst []))) ∧ ∀ i m H, W i m H →
      (J.stop i H ∧ Qd H) ∨ (J.go i H ∧ ∃ Nx : Hp → Prop, (∀ H', Nx H' → ∃ m', m' < m ∧ W (i + 1) m' H') ∧ ∀ x H', J.yld i H x H' → g x (wipe σ vs) H' fun σ2 H2 => wipe σ2 vs = wipe σ vs ∧ tt σ2 H2 fun b H3 =>
        if b = true then te σ2 H3 fun y H4 => ∃ acc, H4 D = some (.lst acc) ∧ acc.length < sizeLine ∧ Nx (upd H4 D (.lst (acc ++ [y]))) else Nx H3) := by
  refine lc_it w (fun j H' => Same H1 H' ∧ H' D = some (.lst (((ks.take j).filter f).map h))) ⟨same_upd nD, by rw [upd_same]; rfl⟩ (fun j H' _ p => hG _ p.1) (fun j x H0 H2 hj p y => ?_) (fun H' p => ?_)
  · obtain ⟨rfl, q, hq', rfl⟩ := hY j H0 x H2 hj p.1 y
    have step : ks.take (j + 1) = ks.take j ++ [q] := by rw [List.take_add_one, hq']; rfl
    refine hs q H2 _ _ (List.mem_of_getElem? hq') p.1 (fun hf H'' s => ⟨_, s _ _ p.2, ?_, fun b o e => ?_, ?_⟩) (fun hf H'' s => ⟨p.1.trans s, ?_⟩)
    · refine small1000 ?_
      rw [List.length_map]
      have h1 := List.length_filter_le f (ks.take j)
      have h2 : (ks.take j).length ≤ j := by rw [List.length_take]; omega
      omega
    · rw [upd_ne (ne_of_none e nD)]
      exact s _ _ (p.1 _ _ e)
    · rw [upd_same, step, List.filter_append, List.filter_cons_of_pos hf, List.map_append]
      rfl
    · rw [s _ _ p.2, step, List.filter_append, List.filter_cons_of_neg (by rw [hf]; decide), List.filter_nil, List.append_nil]
  · have q := p.2
    rw [← hn, List.take_length] at q
    exact hq H' p.1 q
theorem y_list {ks : List Int} {i : Nat} {H H' : Hp} {x : V} (y : YAt (ks.map V.int) i H x H') : H' = H ∧ ∃ p, ks[i]? = some p ∧ x = .int p := by
  obtain ⟨e, h⟩ := y
  rw [List.getElem?_map] at h
  obtain ⟨p, hp, rfl⟩ := Option.map_eq_some_iff.mp h
  exact ⟨e, p, hp, rfl⟩
theorem y_range {n i : Nat} {H H' : Hp} {x : V} (hi : i < n) (y : YFn (fun i => .int (0 + (i : Nat))) i H x H') : H' = H ∧ ∃ p, (upto n)[i]? = some p ∧ x = .int p := by
  obtain ⟨e, rfl⟩ := y
  refine ⟨e, (i : Int), ?_, by show V.int (0 + (i : Int)) = _; rw [Int.zero_add]⟩
  unfold upto
  rw [List.getElem?_map, List.getElem?_range hi]
  rfl
theorem dget_rd {H : Hp} {a : Addr} {ks : List Int} {f : Int → V} {p : Int} (h : Rd H a (.dK (dkOf ks f))) : DGet H a (.int p) (if p ∈ ks then some (f p) else none) := .inl ⟨_, Sum.inl p, h, rfl, (val_dkOf f p ks).symm⟩
theorem dget_some {H : Hp} {a : Addr} {ks : List Int} {f : Int → V} {p : Int} (h : Rd H a (.dK (dkOf ks f))) (hp : p ∈ ks) : DGet H a (.int p) (some (f p)) := by
  have := dget_rd (p := p) h
  rw [if_pos hp] at this
  exact this
theorem few_of {A T : List Int} (hT : T.Nodup) (s : ∀ p ∈ T, p ∈ A) : T.length ≤ A.length := by
  induction T generalizing A with
  | nil => exact Nat.zero_le _
  | cons x T ih =>
    obtain ⟨h1, h2⟩ := List.nodup_cons.mp hT
    have hx := s x List.mem_cons_self
    have := ih (A := A.erase x) h2 fun p hp => (List.mem_erase_of_ne (fun e => h1 (by rw [← e]; exact hp))).mpr (s p (List.mem_cons_of_mem _ hp))
    rw [List.length_erase_of_mem hx] at this
    have := List.length_pos_of_mem hx
    rw [List.length_cons]
    omega
theorem read_num {K : PySem.W.Frag} {g : List Row} {H : Hp} {ag : Addr} {xg : List V} (hG : SqL K H ag xg) (hGr : ∀ (i : Nat) (r : Row), g[i]? = some r → ∃ t w, xg[i]? = some (.ref t) ∧ SqT K H t [.int r.p, .int r.n, .ref w] ∧ SqL K H w (r.ws.map V.int)) {p : Int} (hp : InG g p) :
    ∃ t a b c, atI xg p = some (.ref t) ∧ SqT K H t [a, .int (numAt g p), c] ∧ a = .int (ownAt g p) ∧ b = c := by
  obtain ⟨r, hr0, e1, e2, e3⟩ := row_at hp
  obtain ⟨t, wy, ht, hTu, hW⟩ := hGr _ r hr0
  exact ⟨t, .int r.p, .ref wy, .ref wy, atI_int hp.1 ht, by rw [e2]; exact hTu, by rw [e1], rfl⟩
theorem some_if {c : Prop} [Decidable c] {α : Type} {v : α} : (if c then some v else none).isSome = decide c := by
  by_cases h : c
  · rw [if_pos h, decide_eq_true h]; rfl
  · rw [if_neg h, decide_eq_false h]; rfl
end G

namespace G
open PySem PySem.Spec PyProof.Rows L2
abbrev s_everywhere : Stmt := topS 29
theorem sc_everywhere : FnScope ["game", "place"] ["game"] (defScope s_everywhere) := ⟨rfl, rfl, rfl, by decide +kernel, rfl, by decide +kernel, by decide +kernel⟩
abbrev s_without : Stmt := topS 40
theorem sc_without : FnScope ["inside", "near", "place"] ["inside", "near"] (defScope s_without) := ⟨rfl, rfl, rfl, by decide +kernel, rfl, by decide +kernel, by decide +kernel⟩
abbrev s_leads : Stmt := topS 31
theorem sc_leads : FnScope ["row", "inside", "player", "found", "owner", "_", "ways", "way"] ["row", "inside", "player", "found"] (defScope s_leads) := ⟨rfl, rfl, rfl, by decide +kernel, rfl, by decide +kernel, by decide +kernel⟩
abbrev s_drawn : Stmt := topS 30
theorem sc_drawn : FnScope ["game", "inside", "player", "places", "found", "now", "fresh", "left", "place"] ["game", "inside", "player", "places"] (defScope s_drawn) := ⟨rfl, rfl, rfl, by decide +kernel, rfl, by decide +kernel, by decide +kernel⟩
def tV : Int → V := fun _ => .bl true
section
variable {P : Program} {w : World} {K : PySem.W.Frag} {mg : Str → Option Value} {base : Heap}
def spEverywhere (K : PySem.W.Frag) : Sp := fun vs H Q _ => ∃ (v : V) (g : List Row), vs = [v] ∧ Dp K H v (gameD g) ∧ g.length ≤ 1000 ∧ ∀ H' D, Same H H' → H D = none → H' D = some (.dK (dkOf (upto g.length) tV)) → Q (.ref D) H'
theorem ok_everywhere {f : Addr} {fd : FuncData} (B : Bt mg) (F : Fun K "everywhere" "everywhere" s_everywhere f fd) : FnOk P w K mg base (L2.CX P w) 1 f fd ["game"] (spEverywhere K) := by
  refine F.okX sc_everywhere (fun vs H Q E h => ?_) (fun cdv Ar outer s H vs Q E hr h => ?_)
  · obtain ⟨v, g, rfl, _⟩ := h
    rfl
  · obtain ⟨v, g, rfl, hg, hz, q⟩ := h
    refine ⟨_, (pss_one (ps_ret (pe_dc (own := [("place", 1)]) (by rfl) sc_everywhere.nd (pi_range1 (by rfl) B.range_ (pa_cons (pe_callB call_len_seq (by rfl) B.len_ (by decide +kernel) (pa_cons (pv 0) pa_nil)) pa_nil)) (blkOk_by (own := [("place", 1)]) (N := ["game", "place"]) (sc := defScope s_everywhere) (by decide +kernel)) (fun _ _ _ _ _ => (pg_name (i := 1) sc_everywhere.nd rfl (Or.inl rfl))) (fun _ _ _ _ _ => pts_nil) (fun _ _ _ _ _ => (pv 1)) (fun _ _ _ _ _ => pe_bl)))), ?_⟩
    obtain ⟨ag, xg, rfl, hG, hGl, hGr⟩ := dp_game hg
    refine ⟨_, rfl, _, _, rfl, .inl hG, _, rfl, by omega, by omega, fun D nD => ?_⟩
    rw [hGl, Int.toNat_natCast]
    refine dc_ints walk_range (upto g.length) (fun _ => true) (fun _ v _ => v = .bl true) (fun _ _ _ _ _ e => e) (len_upto _) (by rw [len_upto]; exact hz) (nodup_upto _) nD (fun _ _ => True.intro) (fun j H0 x H2 hj _ y => y_range hj y) (fun p H' Qe N hp sm h1 h2 => ⟨rfl, _, rfl, h1 rfl _ _ (Same.refl _) rfl⟩) (fun H' h sm e r => q H' D sm nD ?_)
    rw [e, List.filter_eq_self.mpr fun _ _ => rfl]
    rw [List.filter_eq_self.mpr fun _ _ => rfl] at r
    exact congrArg (fun z => some (HO.dK z)) (List.map_congr_left fun p hp => by rw [r p hp]; rfl)
def spWithout (K : PySem.W.Frag) : Sp := fun vs H Q _ => ∃ (a b : Addr) (A N : List Int) (fN : Int → V), vs = [.ref a, .ref b] ∧ H a = some (.dK (dkOf A tV)) ∧ H b = some (.dK (dkOf N fN)) ∧ b ≠ a ∧ A.Nodup ∧ A.length ≤ 1000 ∧
  ∀ H' D, Same H H' → H D = none → H' D = some (.dK (dkOf (A.filter fun p => decide (p ∉ N)) tV)) → Q (.ref D) H'
theorem ok_without {f : Addr} {fd : FuncData} (F : Fun K "without" "without" s_without f fd) : FnOk P w K mg base (L2.CX P w) 1 f fd ["inside", "near"] (spWithout K) := by
  refine F.okX sc_without (fun vs H Q E h => ?_) (fun cdv Ar outer s H vs Q E hr h => ?_)
  · obtain ⟨a, b, A, N, fN, rfl, _⟩ := h
    rfl
  · obtain ⟨a, b, A, N, fN, rfl, ha, hb, hne, hN, hz, q⟩ := h
    refine ⟨_, (pss_one (ps_ret (pe_lock (pe_dc (own := [("place", 2)]) (by rfl) sc_without.nd (pi_keys (pv 0)) (blkOk_by (own := [("place", 2)]) (N := ["inside", "near", "place"]) (sc := defScope s_without) (by decide +kernel)) (fun _ _ _ _ _ => (pg_name (i := 2) sc_without.nd rfl (Or.inl rfl))) (fun _ _ _ _ _ => (pts_one (pt_cmp (pc_dnotin (hu_of hr) (pv 2) (pv 1))))) (fun _ _ _ _ _ => (pv 2)) (fun _ _ _ _ _ => pe_bl))))), ?_⟩
    refine dc_dkeys (d := a) (ks := A) (f0 := tV) (fun p => decide (p ∉ N)) (fun _ v _ => v = .bl true) (fun _ _ _ _ _ e => e) rfl ha hz hN (fun p H' Qe Nx hp bt rd h1 h2 => ?_) (fun H' D h sm nD e r => q H' D sm nD ?_)
    · refine ⟨rfl, _, rfl, _, rfl, _, _, rfl, dget_rd (.inl (bt _ _ hne hb)), _, rfl, ?_⟩
      rw [some_if, ← decide_not]
      cases hc : decide (p ∉ N) with
      | true => exact iteT ⟨_, rfl, h1 hc _ _ (Same.refl _) rfl⟩
      | false => exact iteF (h2 hc _ (Same.refl _))
    · rw [e]
      exact congrArg (fun z => some (HO.dK z)) (List.map_congr_left fun p hp => by rw [r p hp]; rfl)
def leadsM (r : Row) (A F : List Int) (i : Int) : Bool := if r.p = i then r.ws.any (fun q => decide (q ∈ F)) else (r.ws.filter fun q => decide (q ∈ A)).all fun q => decide (q ∈ F)
def spLeads (K : PySem.W.Frag) : Sp := fun vs H Q _ => ∃ (vr : V) (r : Row) (ai af : Addr) (i : Int) (A F : List Int) (fF : Int → V), vs = [vr, .ref ai, .int i, .ref af] ∧ Dp K H vr (rowD r) ∧ Rd H ai (.dK (dkOf A tV)) ∧ Rd H af (.dK (dkOf F fF)) ∧ r.ws.length ≤ 1000 ∧
  ∀ H', Same H H' → Q (.bl (leadsM r A F i)) H'
theorem ok_leads {f : Addr} {fd : FuncData} (B : Bt mg) (F : Fun K "leads" "leads" s_leads f fd) : FnOk P w K mg base (L2.CX P w) 1 f fd ["row", "inside", "player", "found"] (spLeads K) := by
  refine F.okX sc_leads (fun vs H Q E h => ?_) (fun cdv Ar outer s H vs Q E hr h => ?_)
  · obtain ⟨vr, r, ai, af, i, A, F', fF, rfl, _⟩ := h
    rfl
  · obtain ⟨vr, r, ai, af, i, A, F', fF, rfl, hrw, hA, hF, hz, q⟩ := h
    refine ⟨_, (pss_cons (ps_asg (pv 0) (pg_tup (by rfl) (pgs_cons (pg_name (i := 4) sc_leads.nd rfl (Or.inl rfl)) (pgs_cons (pg_name (i := 5) sc_leads.nd rfl (Or.inl rfl)) (pgs_cons (pg_name (i := 6) sc_leads.nd rfl (Or.inl rfl)) pgs_nil)))))
      (pss_cons (ps_if (pt_cmpR op_eq (pv 4) (pv 2) (nomark _)) (pss_one (ps_ret (pe_callB (cr_any rfl) (by rfl) B.any_ (by decide +kernel) (pa_cons (pe_lc (own := [("way", 7)]) (by rfl) sc_leads.nd (pi_list (pv 6)) (blkOk_by (own := [("way", 7)]) (N := ["row", "inside", "player", "found", "owner", "_", "ways", "way"]) (sc := defScope s_leads) (by decide +kernel)) (fun _ _ _ _ _ => (pg_name (i := 7) sc_leads.nd rfl (Or.inl rfl))) (fun _ _ _ _ _ => pts_nil) (fun _ _ _ _ _ => (pe_cmp (pc_din (hu_of hr) (pv 7) (pv 3))))) pa_nil)))) pss_nil)
      (pss_one (ps_ret (pe_callB (cr_all rfl) (by rfl) B.all_ (by decide +kernel) (pa_cons (pe_lc (own := [("way", 7)]) (by rfl) sc_leads.nd (pi_list (pv 6)) (blkOk_by (own := [("way", 7)]) (N := ["row", "inside", "player", "found", "owner", "_", "ways", "way"]) (sc := defScope s_leads) (by decide +kernel)) (fun _ _ _ _ _ => (pg_name (i := 7) sc_leads.nd rfl (Or.inl rfl))) (fun _ _ _ _ _ => (pts_one (pt_cmp (pc_din (hu_of hr) (pv 7) (pv 1))))) (fun _ _ _ _ _ => (pe_cmp (pc_din (hu_of hr) (pv 7) (pv 3))))) pa_nil)))))), ?_⟩
    obtain ⟨t, wy, rfl, hT, hW⟩ := dp_row hrw
    refine ⟨_, rfl, t, _, rfl, hT, rfl, _, _, rfl, _, _, rfl, _, _, rfl, rfl, ?_⟩
    refine ⟨_, rfl, _, rfl, rfl, _, rfl, ite2 (fun e => ?_) (fun e => ?_)⟩
    · have ep : r.p = i := V.int.inj (of_decide_eq_true e)
      have em : leadsM r A F' i = r.ws.any fun q => decide (q ∈ F') := if_pos ep
      rw [em] at q
      refine ⟨_, rfl, wy, rfl, ⟨_, hW⟩, fun D nD => lc_ints walk_list r.ws (fun _ => true) (fun p => .bl (decide (p ∈ F'))) (List.length_map _).symm hz nD (fun H' sm => sm.seq hW) (fun j H0 x H2 _ _ y => y_list y) (fun p H' Qe N hp sm h1 h2 => ?_) (fun H' sm hD => ?_)⟩
      · refine ⟨rfl, _, rfl, _, rfl, _, _, rfl, dget_rd (rd_mono sm hF), ?_⟩
        rw [some_if]
        exact h1 rfl _ (Same.refl _)
      · rw [List.filter_eq_self.mpr fun _ _ => rfl] at hD
        refine ⟨D, r.ws.map (fun p => decide (p ∈ F')), rfl, .inl (.inl (by rw [hD, List.map_map]; rfl)), ?_⟩
        rw [List.any_map]
        exact q _ sm
    · have ep : ¬ r.p = i := fun z => e (decide_eq_true (congrArg V.int z))
      have em : leadsM r A F' i = (r.ws.filter fun q => decide (q ∈ A)).all fun q => decide (q ∈ F') := if_neg ep
      rw [em] at q
      refine ⟨_, rfl, wy, rfl, ⟨_, hW⟩, fun D nD => lc_ints walk_list r.ws (fun p => decide (p ∈ A)) (fun p => .bl (decide (p ∈ F'))) (List.length_map _).symm hz nD (fun H' sm => sm.seq hW) (fun j H0 x H2 _ _ y => y_list y) (fun p H' Qe N hp sm h1 h2 => ?_) (fun H' sm hD => ?_)⟩
      · refine ⟨rfl, _, rfl, _, rfl, _, _, rfl, dget_rd (rd_mono sm hA), _, rfl, ?_⟩
        rw [some_if]
        cases hc : decide (p ∈ A) with
        | false => exact iteF (h2 hc _ (Same.refl _))
        | true =>
          refine iteT ⟨_, rfl, _, rfl, _, _, rfl, dget_rd (rd_mono sm hF), ?_⟩
          rw [some_if]
          exact h1 hc _ (Same.refl _)
      · refine ⟨D, (r.ws.filter fun q => decide (q ∈ A)).map (fun p => decide (p ∈ F')), rfl, .inl (.inl (by rw [hD, List.map_map]; rfl)), ?_⟩
        rw [List.all_map]
        exact q _ sm
end
end G

namespace G
open PySem PySem.Spec PyProof.Rows L2
section
variable {P : Program} {w : World} {K : PySem.W.Frag} {mg : Str → Option Value} {base : Heap}
abbrev layG (g : List Row) (A : List Int) (i : Int) (T : List Int) : Nat → Int → Bool := PG.lay (ownAt g) (wsOf g) A i T
abbrev LedG (g : List Row) (A : List Int) (i : Int) (T : List Int) (p : Int) : Prop := PG.Led (ownAt g) (wsOf g) A i T p
abbrev RkdG (g : List Row) (A : List Int) (i : Int) (T : List Int) (rk : Int → Nat) : Prop := PG.Rkd (ownAt g) (wsOf g) A i T rk
def rkV (rk : Int → Nat) : Int → V := fun p => .int (rk p : Nat)
theorem leads_lay {g : List Row} {A F : List Int} {i p : Int} {S : Int → Bool} {r : Row} (h : g[p.toNat]? = some r) (hp : InG g p) (hF : ∀ q, q ∈ F ↔ S q = true) : leadsM r A F i = PG.ldB (ownAt g) (wsOf g) A i S p := by
  obtain ⟨r2, h2, e1, e2, e3⟩ := row_at hp
  rw [h] at h2
  cases h2
  have eS : (fun q => decide (q ∈ F)) = S := by
    funext q
    by_cases z : q ∈ F
    · rw [decide_eq_true z, (hF q).mp z]
    · rw [decide_eq_false z]
      cases hS : S q with
      | false => rfl
      | true => exact absurd ((hF q).mpr hS) z
  unfold leadsM PG.ldB
  rw [e1, e3, eS]
/-- what is asked of a part of a game -/
structure PartOk (g : List Row) (A : List Int) : Prop where
  inG : ∀ p ∈ A, InG g p
  nd : A.Nodup
  few : A.length ≤ 1000
  tot : PG.Tot (wsOf g) A
  sz : ∀ r ∈ g, r.ws.length ≤ 1000
def spDrawn (K : PySem.W.Frag) : Sp := fun vs H Q _ => ∃ (vg : V) (g : List Row) (ai al : Addr) (i : Int) (A T : List Int), vs = [vg, .ref ai, .int i, .ref al] ∧ Dp K H vg (gameD g) ∧ H ai = some (.dK (dkOf A tV)) ∧ SqL K H al (T.map V.int) ∧ PartOk g A ∧ T.Nodup ∧ (∀ p ∈ T, p ∈ A) ∧
  ∀ H' D ks rk, Same H H' → H D = none → H' D = some (.dK (dkOf ks (rkV rk))) → ks.Nodup → (∀ p, p ∈ ks ↔ LedG g A i T p) → RkdG g A i T rk → Q (.ref D) H'
theorem part_all {g : List Row} (hv : ValidG g) : PartOk g (upto g.length) := by
  refine ⟨fun p hp => mem_upto.mp hp, nodup_upto _, by rw [len_upto]; have := hv.1; omega, fun p hp => ?_, fun r hr => Nat.le_trans (hv.2 r hr).len (by have := hv.1; omega)⟩
  obtain ⟨r, hr, _, _, e⟩ := row_at (mem_upto.mp hp)
  obtain ⟨_, _, h3, h4, _⟩ := hv.2 r (List.mem_of_getElem? hr)
  obtain ⟨x, l, ex⟩ := List.exists_cons_of_ne_nil h3
  have hx : x ∈ r.ws := by rw [ex]; exact List.mem_cons_self
  exact ⟨x, by rw [e]; exact hx, mem_upto.mpr (h4 x hx)⟩
theorem lock_set {t : TE} {i : Nat} {D : Ends} {σ : L2.St} {H : Hp} (h : tLockE t σ H fun v H' => D.nx (σ.set i (some v)) H') : tLock (tAsg t (gName i)) D σ H := h
theorem ok_drawn {f : Addr} {fd : FuncData} (B : Bt mg) (F : Fun K "drawn" "drawn" s_drawn f fd) (C_leads : Cal P w K mg base 1 "leads" (spLeads K)) : FnOk P w K mg base (L2.CX P w) 2 f fd ["game", "inside", "player", "places"] (spDrawn K) := by
  refine F.okX sc_drawn (fun vs H Q E h => ?_) (fun cdv Ar outer s H vs Q E hr h => ?_)
  · obtain ⟨vg, g, ai, al, i, A, T, rfl, _⟩ := h
    rfl
  · obtain ⟨vg, g, ai, al, i, A, T, rfl, hg, hA, hL, ok, hTn, hTA, q⟩ := h
    refine ⟨_, (pss_cons (ps_set (i := 4) sc_drawn.nd rfl (Or.inr rfl) (pe_dc (own := [("place", 8)]) (by rfl) sc_drawn.nd (pi_list (pv 3)) (blkOk_by (own := [("place", 8)]) (N := ["game", "inside", "player", "places", "found", "now", "fresh", "left", "place"]) (sc := defScope s_drawn) (by decide +kernel)) (fun _ _ _ _ _ => (pg_name (i := 8) sc_drawn.nd rfl (Or.inl rfl))) (fun _ _ _ _ _ => pts_nil) (fun _ _ _ _ _ => (pv 8)) (fun _ _ _ _ _ => pe_int)))
      (pss_cons (ps_set (i := 5) sc_drawn.nd rfl (Or.inl rfl) pe_int)
      (pss_cons (ps_set (i := 6) sc_drawn.nd rfl (Or.inl rfl) (pv 3))
      (pss_cons (ps_while (passes_of rfl) (pt_cmpR op_gt (pe_callB call_len_seq (by rfl) B.len_ (by decide +kernel) (pa_cons (pv 6) pa_nil)) pe_int (nomark _)) (pss_cons (ps_aug (i := 5) sc_drawn.nd rfl (Or.inl rfl) pe_int ip_add)
      (pss_cons (ps_lock (ps_setLc (i := 7) (own := [("place", 8)]) (by rfl) sc_drawn.nd rfl rfl (sw_true rfl rfl rfl (by decide +kernel)) (pi_keys (pv 1)) (blkOk_by (own := [("place", 8)]) (N := ["game", "inside", "player", "places", "found", "now", "fresh", "left", "place"]) (sc := defScope s_drawn) (by decide +kernel)) (fun _ _ _ _ _ => (pg_name (i := 8) sc_drawn.nd rfl (Or.inl rfl))) (fun _ _ _ _ _ => (pts_one (pt_cmp (pc_dnotin (hu_of hr) (pv 8) (pv 4))))) (fun _ _ _ _ _ => (pv 8))))
      (pss_cons (ps_setLc (i := 6) (own := [("place", 8)]) (by rfl) sc_drawn.nd rfl rfl (sw_true rfl rfl rfl (by decide +kernel)) (pi_list (pv 7)) (blkOk_by (own := [("place", 8)]) (N := ["game", "inside", "player", "places", "found", "now", "fresh", "left", "place"]) (sc := defScope s_drawn) (by decide +kernel)) (fun _ _ _ _ _ => (pg_name (i := 8) sc_drawn.nd rfl (Or.inl rfl))) (fun _ _ _ _ _ => (pts_one (pt_val (pe_cal C_leads hr (by decide) (by rfl) (pa_cons (pe_ix (kr_ix_list (K := K) rfl) (pv 0) (pv 8) (fun _ _ => rfl)) (pa_cons (pv 1) (pa_cons (pv 2) (pa_cons (pv 4) pa_nil)))))))) (fun _ _ _ _ _ => (pv 8)))
      (pss_one (ps_for (passes_of rfl) rfl (pi_list (pv 6)) (pg_name (i := 8) sc_drawn.nd rfl (Or.inl rfl)) (pss_one (ps_dput (hu_of hr) (pv 4) (pv 8) (pv 5) rfl))))))))
      (pss_one (ps_ret (pv 4))))))), ?_⟩
    obtain ⟨ag, xg, rfl, hG, hGl, hGr⟩ := dp_game hg
    obtain ⟨rk, hrk⟩ := PG.rank_ex (ownAt g) (wsOf g) A i T
    have hTl : T.length ≤ 1000 := Nat.le_trans (few_of hTn hTA) ok.few
    -- found = {place: 0 for place in places}
    refine ⟨_, rfl, al, rfl, ⟨_, hL⟩, fun D nD => dc_ints walk_list T (fun _ => true) (fun _ v _ => v = .int 0) (fun _ _ _ _ _ e => e) (List.length_map _).symm hTl hTn nD (fun H' sm => sm.seq hL) (fun j H0 x H2 _ _ y => y_list y) (fun p H' Qe N hp sm h1 h2 => ⟨rfl, _, rfl, h1 rfl _ _ (Same.refl _) rfl⟩) (fun H1 h0 sm1 e r => ?_)⟩
    rw [List.filter_eq_self.mpr fun _ _ => rfl] at e r
    have hD1 : H1 D = some (.dK (dkOf T (rkV rk))) := by
      rw [e]
      refine congrArg (fun z => some (HO.dK z)) (List.map_congr_left fun p hp => ?_)
      rw [r p hp]
      have l0 : PG.lay (ownAt g) (wsOf g) A i T 0 p = true := decide_eq_true hp
      have := PG.rk_le hrk l0
      have e0 : rk p = 0 := by omega
      show (_, V.int 0) = (_, V.int ((rk p : Nat) : Int))
      rw [e0]
      rfl
    -- now = 0; fresh = places
    refine ⟨_, rfl, ?_⟩
    have base0 : ∀ p, PG.lay (ownAt g) (wsOf g) A i [] 1 p = PG.lay (ownAt g) (wsOf g) A i [] 0 p := fun p => by
      have z : ∀ q, PG.lay (ownAt g) (wsOf g) A i [] 0 q = false := fun q => rfl
      show (PG.lay (ownAt g) (wsOf g) A i [] 0 p || (decide (p ∈ A) && PG.ldB (ownAt g) (wsOf g) A i (PG.lay (ownAt g) (wsOf g) A i [] 0) p)) = _
      rw [z p, Bool.false_or]
      by_cases ha : p ∈ A
      · rw [decide_eq_true ha, Bool.true_and]
        unfold PG.ldB
        by_cases o : ownAt g p = i
        · rw [if_pos o]
          exact List.any_eq_false.mpr fun x _ => by rw [z x]; decide
        · rw [if_neg o]
          obtain ⟨y, hy, hya⟩ := ok.tot p ha
          exact List.all_eq_false.mpr ⟨y, List.mem_filter.mpr ⟨hy, decide_eq_true hya⟩, by rw [z y]; decide⟩
      · rw [decide_eq_false ha, Bool.false_and]
    refine ⟨fun m σ H' => ∃ (n : Nat) (ks fr : List Int) (af : Addr) (y7 y8 : Option V), σ = [some (.ref ag), some (.ref ai), some (.int i), some (.ref al), some (.ref D), some (.int (n : Nat)), some (.ref af), y7, y8] ∧ Same H H' ∧ H' D = some (.dK (dkOf ks (rkV rk))) ∧ ks.Nodup ∧ (∀ p, p ∈ ks ↔ PG.lay (ownAt g) (wsOf g) A i T n p = true) ∧
      SqL K H' af (fr.map V.int) ∧ (fr = [] → ∀ p, PG.lay (ownAt g) (wsOf g) A i T (n + 1) p = PG.lay (ownAt g) (wsOf g) A i T n p) ∧ m = 2 * (A.filter fun p => decide (p ∉ ks)).length + (if fr = [] then 0 else 1), ⟨_, 0, T, T, al, none, none, rfl, sm1, hD1, hTn, fun p => ?_, sm1.seq hL, fun e => ?_, rfl⟩, fun m σ H' hW => ?_⟩
    · show p ∈ T ↔ decide (p ∈ T) = true
      rw [decide_eq_true_eq]
    · subst e
      exact base0
    obtain ⟨n, ks, fr, af, y7, y8, rfl, sm, hD, hN, hK, hF, hE, rfl⟩ := hW
    have inA : ∀ p ∈ ks, p ∈ A := fun p hp => PG.lay_in hTA ((hK p).mp hp)
    have neD : D ≠ ai := (ne_of_none hA nD).symm
    refine ⟨_, rfl, af, _, rfl, .inl hF, _, _, rfl, rfl, _, rfl, ite2 (fun e => ?_) (fun e => ?_)⟩
    · have hfr : fr ≠ [] := fun z => by
        have : (((fr.map V.int).length : Nat) : Int) > 0 := of_decide_eq_true e
        rw [z] at this
        exact absurd this (by decide)
      -- now += 1; left; fresh
      refine ⟨fun σ' H'' => ∃ (ks2 fr2 : List Int) (af2 : Addr) (z7 z8 : Option V), σ' = [some (.ref ag), some (.ref ai), some (.int i), some (.ref al), some (.ref D), some (.int ((n + 1 : Nat) : Int)), some (.ref af2), z7, z8] ∧ Same H H'' ∧ H'' D = some (.dK (dkOf ks2 (rkV rk))) ∧ ks2.Nodup ∧ (∀ p, p ∈ ks2 ↔ PG.lay (ownAt g) (wsOf g) A i T (n + 1) p = true) ∧
        SqL K H'' af2 (fr2.map V.int) ∧ (fr2 = [] → ∀ p, PG.lay (ownAt g) (wsOf g) A i T (n + 1 + 1) p = PG.lay (ownAt g) (wsOf g) A i T (n + 1) p) ∧ 2 * (A.filter fun p => decide (p ∉ ks2)).length + (if fr2 = [] then 0 else 1) < 2 * (A.filter fun p => decide (p ∉ ks)).length + (if fr = [] then 0 else 1), fun σ' H'' ⟨ks2, fr2, af2, z7, z8, h1, h2, h3, h4, h5, h6, h7, h8⟩ => ⟨_, h8, n + 1, ks2, fr2, af2, z7, z8, h1, h2, h3, h4, h5, h6, h7, rfl⟩, ?_⟩
      refine ⟨_, rfl, _, _, rfl, rfl, ?_⟩
      refine lock_set (lc_dkeys (d := ai) (ks := A) (f0 := tV) (fun p => decide (p ∉ ks)) V.int rfl (sm _ _ hA) ok.few (fun p Hc Qe Nx hp bt rd h1 h2 => ?_) (fun H2 L sm2 nL hL2 => ?_))
      · refine ⟨rfl, _, rfl, _, rfl, _, _, rfl, dget_rd (.inl (bt _ _ neD hD)), _, rfl, ?_⟩
        rw [some_if, ← decide_not]
        cases hc : decide (p ∉ ks) with
        | true => exact iteT ⟨_, rfl, h1 hc _ (Same.refl _)⟩
        | false => exact iteF (h2 hc _ (Same.refl _))
      have hD2 := sm2 _ _ hD
      have s2 : Same H H2 := sm.trans sm2
      have hlf : (A.filter fun p => decide (p ∉ ks)).length ≤ 1000 := Nat.le_trans (List.length_filter_le _ _) ok.few
      refine ⟨_, rfl, L, rfl, ⟨_, .inl (.inl hL2)⟩, fun R nR => lc_ints walk_list (A.filter fun p => decide (p ∉ ks)) (fun p => PG.ldB (ownAt g) (wsOf g) A i (PG.lay (ownAt g) (wsOf g) A i T n) p) V.int (List.length_map _).symm hlf nR (fun Hc sm => sm.seq (.inl (.inl hL2))) (fun j H0 x H2 _ _ y => y_list y) (fun p Hc Qe Nx hp smc h1 h2 => ?_) (fun H3 sm3 hR3 => ?_)⟩
      · have hpA : p ∈ A := (List.mem_filter.mp hp).1
        have hpG := ok.inG p hpA
        obtain ⟨r, hr0, _⟩ := row_at hpG
        obtain ⟨t, wy, ht, hTu, hW⟩ := hGr _ r hr0
        have sc : Same H Hc := s2.trans smc
        refine ⟨rfl, _, rfl, _, rfl, ag, _, p, _, rfl, rfl, sc.seq hG, atI_int hpG.1 ht, _, rfl, _, rfl, _, rfl, _, r, ai, D, i, A, ks, rkV rk, rfl, ?_, .inl (sc _ _ hA), .inl (smc _ _ hD2), ok.sz r (List.mem_of_getElem? hr0), fun Hd smd => ⟨_, rfl, ?_⟩⟩
        · exact .tup (same_sqt sc hTu) (.cons (.int _) (.cons (.int _) (.cons (.lst (sc.seq hW) (dpa_ints' _)) .nil)))
        rw [leads_lay hr0 hpG hK]
        cases hc : PG.ldB (ownAt g) (wsOf g) A i (PG.lay (ownAt g) (wsOf g) A i T n) p with
        | true => exact iteT ⟨_, rfl, h1 hc _ smd⟩
        | false => exact iteF (h2 hc _ smd)
      -- for place in fresh: found[place] = now
      generalize hfr2 : ((A.filter fun p => decide (p ∉ ks)).filter fun p => PG.ldB (ownAt g) (wsOf g) A i (PG.lay (ownAt g) (wsOf g) A i T n) p) = fr2 at hR3
      have mem2 : ∀ p, p ∈ fr2 ↔ p ∈ A ∧ p ∉ ks ∧ PG.ldB (ownAt g) (wsOf g) A i (PG.lay (ownAt g) (wsOf g) A i T n) p = true := fun p => by
        rw [← hfr2, List.mem_filter, List.mem_filter, decide_eq_true_eq, and_assoc]
      have nd2 : fr2.Nodup := by rw [← hfr2]; exact (ok.nd.filter _).filter _
      have s3 : Same H H3 := s2.trans sm3
      have hD3 := sm3 _ _ hD2
      have step : ∀ p, PG.lay (ownAt g) (wsOf g) A i T (n + 1) p = true ↔ p ∈ ks ∨ p ∈ fr2 := fun p => by
        show (PG.lay (ownAt g) (wsOf g) A i T n p || (decide (p ∈ A) && PG.ldB (ownAt g) (wsOf g) A i (PG.lay (ownAt g) (wsOf g) A i T n) p)) = true ↔ _
        rw [Bool.or_eq_true, Bool.and_eq_true, decide_eq_true_eq, ← hK p, mem2 p]
        by_cases z : p ∈ ks
        · exact ⟨fun _ => .inl z, fun _ => .inl z⟩
        · exact ⟨fun h => h.imp_right fun ⟨a, b⟩ => ⟨a, z, b⟩, fun h => h.imp_right fun ⟨a, _, b⟩ => ⟨a, b⟩⟩
      have hrk2 : ∀ p ∈ fr2, rk p = n + 1 := fun p hp => by
        have h1 := (step p).mpr (.inr hp)
        have h2 := PG.rk_le hrk h1
        have h3 : ¬ rk p ≤ n := fun z => by
          have := PG.lay_le z (hrk p ⟨_, h1⟩).1
          exact ((mem2 p).mp hp).2.1 ((hK p).mpr this)
        omega
      have neR : R ≠ D := (ne_of_none hD2 nR).symm
      refine ⟨_, rfl, R, rfl, ⟨_, .inl (.inl hR3)⟩, for_list (K := K) (a := R) (xs := fr2.map V.int) (fun j σ H4 => ∃ z8 : Option V, σ = [some (.ref ag), some (.ref ai), some (.int i), some (.ref al), some (.ref D), some (.int ((n : Int) + 1)), some (.ref R), some (.ref L), z8] ∧ Same H H4 ∧ H4 R = some (.lst (fr2.map V.int)) ∧ H4 D = some (.dK (dkOf (ks ++ fr2.take j) (rkV rk))))
        ⟨y8, rfl, s3, hR3, by rw [List.take_zero, List.append_nil]; exact hD3⟩ (fun j σ H4 _ ⟨_, _, _, h, _⟩ => .inl (.inl h)) (fun j x σ H4 hj ⟨z8, es, s4, hR4, hD4⟩ => ?_) (fun σ H4 ⟨z8, es, s4, hR4, hD4⟩ => ?_)⟩
      · subst es
        rw [List.getElem?_map] at hj
        obtain ⟨p, hp, rfl⟩ := Option.map_eq_some_iff.mp hj
        have st : fr2.take (j + 1) = fr2.take j ++ [p] := by rw [List.take_add_one, hp]; rfl
        have new : p ∉ ks ++ fr2.take j := fun z => by
          rcases List.mem_append.mp z with z | z
          · exact ((mem2 p).mp (List.mem_of_getElem? hp)).2.1 z
          · have hN' := nd2.sublist (List.take_sublist (j + 1) fr2)
            rw [st, List.nodup_append] at hN'
            exact hN'.2.2 p z p (List.mem_singleton.mpr rfl) rfl
        refine ⟨_, rfl, _, rfl, _, rfl, D, _, rfl, DPut.k (k := Sum.inl p) hD4 ?_, ?_⟩
        · refine small1000 ?_
          rw [len_dkOf]
          have := few_of (T := ks ++ fr2.take (j + 1)) (A := A) (by
            rw [st, ← List.append_assoc]
            refine nodup_snoc ?_ new
            rw [List.nodup_append]
            refine ⟨hN, nd2.sublist (List.take_sublist _ _), fun a ha b hb e => ?_⟩
            exact ((mem2 b).mp (List.mem_of_mem_take hb)).2.1 (e ▸ ha)) (fun a ha => by
              rcases List.mem_append.mp ha with z | z
              · exact inA a z
              · exact ((mem2 a).mp (List.mem_of_mem_take z)).1)
          rw [st, List.length_append, List.length_append, List.length_singleton] at this
          rw [List.length_append]
          have := ok.few
          omega
        · refine ⟨_, rfl, fun b o eo => ?_, ?_, ?_⟩
          · rw [upd_ne (ne_of_none eo nD)]
            exact s4 _ _ eo
          · rw [upd_ne neR]
            exact hR4
          · rw [upd_same, st, ← List.append_assoc, put_dkOf (g := rkV rk) new (fun _ _ => rfl)]
            show V.int ((rk p : Nat) : Int) = V.int ((n : Int) + 1)
            rw [hrk2 p (List.mem_of_getElem? hp)]
            rfl
      · subst es
        rw [List.length_map, List.take_length] at hD4
        have nd3 : (ks ++ fr2).Nodup := List.nodup_append.mpr ⟨hN, nd2, fun a ha b hb e => ((mem2 b).mp hb).2.1 (e ▸ ha)⟩
        refine ⟨ks ++ fr2, fr2, R, _, _, rfl, s4, hD4, nd3, fun p => ?_, .inl (.inl hR4), fun e => ?_, ?_⟩
        · rw [step p, List.mem_append]
        · have st : ∀ p, PG.lay (ownAt g) (wsOf g) A i T (n + 1) p = PG.lay (ownAt g) (wsOf g) A i T n p := fun p => by
            rw [Bool.eq_iff_iff, step p, e, ← hK p]
            simp
          have e1 := PG.lay_stable st (n + 1) (by omega)
          have e2 := PG.lay_stable st (n + 1 + 1) (by omega)
          intro p
          rw [e1, e2]
        · rw [if_neg hfr]
          by_cases z : fr2 = []
          · rw [if_pos z, z, List.append_nil]
            omega
          · rw [if_neg z]
            have hlt : (A.filter fun p => decide (p ∉ ks ++ fr2)).length < (A.filter fun p => decide (p ∉ ks)).length := by
              obtain ⟨x, l, hx⟩ := List.exists_cons_of_ne_nil z
              have hxm := (mem2 x).mp (by rw [hx]; exact List.mem_cons_self)
              have h1 : x ∈ A.filter fun p => decide (p ∉ ks) := List.mem_filter.mpr ⟨hxm.1, decide_eq_true hxm.2.1⟩
              have h2 := few_of (T := A.filter fun p => decide (p ∉ ks ++ fr2)) (A := (A.filter fun p => decide (p ∉ ks)).erase x) (ok.nd.filter _) (fun p hp => by
                obtain ⟨h3, h4⟩ := List.mem_filter.mp hp
                have h5 := of_decide_eq_true h4
                rw [List.mem_append, not_or] at h5
                refine (List.mem_erase_of_ne (fun e => h5.2 (by rw [e, hx]; exact List.mem_cons_self))).mpr (List.mem_filter.mpr ⟨h3, decide_eq_true h5.1⟩))
              rw [List.length_erase_of_mem h1] at h2
              have := List.length_pos_of_mem h1
              omega
            omega
    · have hfr : fr = [] := by
        cases fr with
        | nil => rfl
        | cons x l =>
          exact absurd (decide_eq_true (by show (0 : Int) < (((x :: l).map V.int).length : Int); rw [List.length_map, List.length_cons]; omega)) e
      have st := PG.lay_stable (hE hfr)
      refine ⟨_, rfl, q H' D ks rk sm nD hD hN (fun p => ⟨fun hp => ⟨n, (hK p).mp hp⟩, fun ⟨k, hk⟩ => (hK p).mpr ?_⟩) hrk⟩
      by_cases z : n ≤ k
      · rw [st k z] at hk
        exact hk
      · exact PG.lay_le (by omega) hk
end
end G

namespace G
open PySem PySem.Spec PyProof.Rows L2
abbrev s_leading_step : Stmt := topS 42
theorem sc_leading_step : FnScope ["game", "inside", "player", "near", "place", "owner", "_", "ways", "way"] ["game", "inside", "player", "near", "place"] (defScope s_leading_step) := ⟨rfl, rfl, rfl, by decide +kernel, rfl, by decide +kernel, by decide +kernel⟩
abbrev s_claimed : Stmt := topS 41
theorem sc_claimed : FnScope ["game", "inside", "player", "near", "place"] ["game", "inside", "player", "near"] (defScope s_claimed) := ⟨rfl, rfl, rfl, by decide +kernel, rfl, by decide +kernel, by decide +kernel⟩
abbrev LdG (g : List Row) (A : List Int) (i : Int) (T : List Int) (rk : Int → Nat) (p : Int) (o : Option Int) : Prop := PG.LdStep (ownAt g) (wsOf g) A i T rk p o
section
variable {P : Program} {w : World} {K : PySem.W.Frag} {mg : Str → Option Value} {base : Heap}
def spLead (K : PySem.W.Frag) : Sp := fun vs H Q _ => ∃ (vg : V) (g : List Row) (ai an : Addr) (i p : Int) (A T ks : List Int) (rk : Int → Nat), vs = [vg, .ref ai, .int i, .ref an, .int p] ∧ Dp K H vg (gameD g) ∧ Rd H ai (.dK (dkOf A tV)) ∧ Rd H an (.dK (dkOf ks (rkV rk))) ∧ PartOk g A ∧ (∀ p, p ∈ ks ↔ LedG g A i T p) ∧ RkdG g A i T rk ∧ (∀ p ∈ T, p ∈ A) ∧ p ∈ ks ∧
  ∀ H' o, Same H H' → LdG g A i T rk p o → Q (optV o) H'
theorem ok_leading_step {f : Addr} {fd : FuncData} (F : Fun K "leading_step" "leading_step" s_leading_step f fd) : FnOk P w K mg base (L2.CX P w) 1 f fd ["game", "inside", "player", "near", "place"] (spLead K) := by
  refine F.okX sc_leading_step (fun vs H Q E h => ?_) (fun cdv Ar outer s H vs Q E hr h => ?_)
  · obtain ⟨vg, g, ai, an, i, p, A, T, ks, rk, rfl, _⟩ := h
    rfl
  · obtain ⟨vg, g, ai, an, i, p, A, T, ks, rk, rfl, hg, hA, hK, ok, hks, hrk, hTA, hp, q⟩ := h
    refine ⟨_, (pss_cons (ps_asg (pe_ix ix_list (pv 0) (pv 4) (fun _ _ => rfl)) (pg_tup (by rfl) (pgs_cons (pg_name (i := 5) sc_leading_step.nd rfl (Or.inl rfl)) (pgs_cons (pg_name (i := 6) sc_leading_step.nd rfl (Or.inl rfl)) (pgs_cons (pg_name (i := 7) sc_leading_step.nd rfl (Or.inl rfl)) pgs_nil)))))
      (pss_cons (ps_if (pt_cmpR op_ne (pv 5) (pv 2) (nomark _)) (pss_one (ps_ret pe_non)) pss_nil)
      (pss_cons (ps_if (pt_cmpR op_eq (pe_dget (hu_of hr) (pv 3) (pv 4) (fun _ _ => rfl)) pe_int (nomark _)) (pss_one (ps_ret (pe_ix ix_list (pe_lc (own := [("way", 8)]) (by rfl) sc_leading_step.nd (pi_list (pv 7)) (blkOk_by (own := [("way", 8)]) (N := ["game", "inside", "player", "near", "place", "owner", "_", "ways", "way"]) (sc := defScope s_leading_step) (by decide +kernel)) (fun _ _ _ _ _ => (pg_name (i := 8) sc_leading_step.nd rfl (Or.inl rfl))) (fun _ _ _ _ _ => (pts_one (pt_cmp (pc_din (hu_of hr) (pv 8) (pv 1))))) (fun _ _ _ _ _ => (pv 8))) pe_int (fun _ _ => rfl)))) pss_nil)
      (pss_one (ps_ret (pe_ix ix_list (pe_lc (own := [("way", 8)]) (by rfl) sc_leading_step.nd (pi_list (pv 7)) (blkOk_by (own := [("way", 8)]) (N := ["game", "inside", "player", "near", "place", "owner", "_", "ways", "way"]) (sc := defScope s_leading_step) (by decide +kernel)) (fun _ _ _ _ _ => (pg_name (i := 8) sc_leading_step.nd rfl (Or.inl rfl))) (fun _ _ _ _ _ => (pts_one (PW.pt (pw_and (pt_cmp (pc_din (hu_of hr) (pv 8) (pv 3))) (pw_and1 (pt_cmpR op_lt (pe_dget (hu_of hr) (pv 3) (pv 8) (fun _ _ => rfl)) (pe_dget (hu_of hr) (pv 3) (pv 4) (fun _ _ => rfl)) (nomark _))))))) (fun _ _ _ _ _ => (pv 8))) pe_int (fun _ _ => rfl))))))), ?_⟩
    obtain ⟨ag, xg, rfl, hG, hGl, hGr⟩ := dp_game hg
    have hl : LedG g A i T p := (hks p).mp hp
    have hpA : p ∈ A := let ⟨k, hk⟩ := hl; PG.lay_in hTA hk
    have hpG := ok.inG p hpA
    obtain ⟨r, hr0, e1, e2, e3⟩ := row_at hpG
    obtain ⟨t, wy, ht, hTu, hW⟩ := hGr _ r hr0
    have hz : r.ws.length ≤ 1000 := ok.sz r (List.mem_of_getElem? hr0)
    refine ⟨_, rfl, _, rfl, ag, _, p, _, rfl, rfl, hG, atI_int hpG.1 ht, t, _, rfl, hTu, rfl, _, _, rfl, _, _, rfl, _, _, rfl, rfl, ?_⟩
    refine ⟨_, rfl, _, rfl, rfl, _, rfl, ite2 (fun e => ?_) (fun e => ?_)⟩
    · have ne : ownAt g p ≠ i := fun z => by
        rw [e1] at z
        rw [z, decide_eq_true rfl] at e
        cases e
      exact q H none (Same.refl _) ⟨fun _ => rfl, fun z => absurd z ne⟩
    · have eo : ownAt g p = i := by
        rw [e1]
        apply Classical.byContradiction
        intro z
        exact e (by rw [decide_eq_false fun y => z (V.int.inj y)]; rfl)
      refine ⟨_, rfl, _, rfl, an, _, rfl, dget_some hK hp, rfl, _, rfl, ite2 (fun e => ?_) (fun e => ?_)⟩
      · have z0 : rk p = 0 := by
          have := V.int.inj (of_decide_eq_true e)
          omega
        have hT : p ∈ T := (PG.rk_zero hrk hl).mp z0
        refine ⟨_, rfl, wy, rfl, ⟨_, hW⟩, fun D nD => lc_ints walk_list r.ws (fun q => decide (q ∈ A)) V.int (List.length_map _).symm hz nD (fun H' sm => sm.seq hW) (fun j H0 x H2 _ _ y => y_list y) (fun x H' Qe N hx sm h1 h2 => ?_) (fun H' sm hD => ?_)⟩
        · refine ⟨rfl, _, rfl, _, rfl, _, _, rfl, dget_rd (rd_mono sm hA), _, rfl, ?_⟩
          rw [some_if]
          cases hc : decide (x ∈ A) with
          | true => exact iteT ⟨_, rfl, h1 hc _ (Same.refl _)⟩
          | false => exact iteF (h2 hc _ (Same.refl _))
        · obtain ⟨y, hy, hyA⟩ := ok.tot p hpA
          rw [e3] at hy
          obtain ⟨z, l, hzl⟩ : ∃ z l, (r.ws.filter fun q => decide (q ∈ A)) = z :: l := by
            cases hf : r.ws.filter fun q => decide (q ∈ A) with
            | nil =>
              have : y ∈ r.ws.filter fun q => decide (q ∈ A) := List.mem_filter.mpr ⟨hy, decide_eq_true hyA⟩
              rw [hf] at this
              cases this
            | cons z l => exact ⟨z, l, rfl⟩
          have hzm : z ∈ r.ws.filter fun q => decide (q ∈ A) := by rw [hzl]; exact List.mem_cons_self
          obtain ⟨hz1, hz2⟩ := List.mem_filter.mp hzm
          rw [hzl] at hD
          exact ⟨D, _, 0, _, rfl, rfl, .inl (.inl hD), atI_nat (j := 0) rfl, q H' (some z) sm ⟨fun n => absurd eo n, fun _ => ⟨z, rfl, by rw [e3]; exact hz1, fun _ => of_decide_eq_true hz2, fun n => absurd hT n⟩⟩⟩
      · have hT : p ∉ T := fun z => by
          rw [show rkV rk p = V.int ((rk p : Nat) : Int) from rfl, (PG.rk_zero hrk hl).mpr z] at e
          exact e rfl
        have rdp := dget_some (f := rkV rk) hK hp
        refine ⟨_, rfl, wy, rfl, ⟨_, hW⟩, fun D nD => lc_ints walk_list r.ws (fun q => decide (q ∈ ks) && decide (rk q < rk p)) V.int (List.length_map _).symm hz nD (fun H' sm => sm.seq hW) (fun j H0 x H2 _ _ y => y_list y) (fun x H' Qe N hx sm h1 h2 => ?_) (fun H' sm hD => ?_)⟩
        · have rk2 := rd_mono sm hK
          refine ⟨rfl, _, rfl, _, rfl, _, _, rfl, dget_rd rk2, _, rfl, ?_⟩
          rw [some_if]
          cases hc : decide (x ∈ ks) with
          | false => exact iteF (h2 (by rw [hc]; rfl) _ (Same.refl _))
          | true =>
            refine iteT ⟨_, rfl, _, rfl, an, _, rfl, dget_some rk2 (of_decide_eq_true hc), _, rfl, _, rfl, an, _, rfl, dget_some rk2 hp, _, _, rfl, rfl, _, rfl, ?_⟩
            have ed : decide (((rk x : Nat) : Int) < ((rk p : Nat) : Int)) = decide (rk x < rk p) := decide_eq_decide.mpr (by omega)
            rw [ed]
            cases hc2 : decide (rk x < rk p) with
            | true => exact iteT ⟨_, rfl, h1 (by rw [hc, hc2]; rfl) _ (Same.refl _)⟩
            | false => exact iteF (h2 (by rw [hc, hc2]; rfl) _ (Same.refl _))
        · obtain ⟨y, hy, hyL, hyr⟩ := PG.rk_own hrk hl hT eo
          rw [e3] at hy
          obtain ⟨z, l, hzl⟩ : ∃ z l, (r.ws.filter fun q => decide (q ∈ ks) && decide (rk q < rk p)) = z :: l := by
            cases hf : r.ws.filter fun q => decide (q ∈ ks) && decide (rk q < rk p) with
            | nil =>
              have : y ∈ r.ws.filter fun q => decide (q ∈ ks) && decide (rk q < rk p) := List.mem_filter.mpr ⟨hy, by rw [decide_eq_true ((hks y).mpr hyL), decide_eq_true hyr]; rfl⟩
              rw [hf] at this
              cases this
            | cons z l => exact ⟨z, l, rfl⟩
          have hzm : z ∈ r.ws.filter fun q => decide (q ∈ ks) && decide (rk q < rk p) := by rw [hzl]; exact List.mem_cons_self
          obtain ⟨hz1, hz2⟩ := List.mem_filter.mp hzm
          rw [Bool.and_eq_true, decide_eq_true_eq, decide_eq_true_eq] at hz2
          rw [hzl] at hD
          exact ⟨D, _, 0, _, rfl, rfl, .inl (.inl hD), atI_nat (j := 0) rfl, q H' (some z) sm ⟨fun n => absurd eo n, fun _ => ⟨z, rfl, by rw [e3]; exact hz1, fun n => absurd n hT, fun _ => ⟨(hks z).mp hz2.1, hz2.2⟩⟩⟩⟩
/-- pairs of a winner and its step, told place by place -/
def PairAt (i : Int) (St : Int → Option Int → Prop) (p : Int) (v : V) (H : Hp) : Prop := ∃ t o, v = .ref t ∧ H t = some (.tup [.int i, optV o]) ∧ St p o
def spClaimed (K : PySem.W.Frag) : Sp := fun vs H Q _ => ∃ (vg : V) (g : List Row) (ai an : Addr) (i : Int) (A T ks : List Int) (rk : Int → Nat), vs = [vg, .ref ai, .int i, .ref an] ∧ Dp K H vg (gameD g) ∧ H ai = some (.dK (dkOf A tV)) ∧ H an = some (.dK (dkOf ks (rkV rk))) ∧ ai ≠ an ∧ PartOk g A ∧ ks.Nodup ∧ (∀ p, p ∈ ks ↔ LedG g A i T p) ∧ RkdG g A i T rk ∧ (∀ p ∈ T, p ∈ A) ∧
  ∀ H' D h, Same H H' → H D = none → H' D = some (.dK (dkOf ks h)) → (∀ p ∈ ks, PairAt i (LdG g A i T rk) p (h p) H') → Q (.ref D) H'
theorem ok_claimed {f : Addr} {fd : FuncData} (F : Fun K "claimed" "claimed" s_claimed f fd) (C_leading_step : Cal P w K mg base 1 "leading_step" (spLead K)) : FnOk P w K mg base (L2.CX P w) 2 f fd ["game", "inside", "player", "near"] (spClaimed K) := by
  refine F.okX sc_claimed (fun vs H Q E h => ?_) (fun cdv Ar outer s H vs Q E hr h => ?_)
  · obtain ⟨vg, g, ai, an, i, A, T, ks, rk, rfl, _⟩ := h
    rfl
  · obtain ⟨vg, g, ai, an, i, A, T, ks, rk, rfl, hg, hA, hK, hne, ok, hN, hks, hrk, hTA, q⟩ := h
    refine ⟨_, (pss_one (ps_ret (pe_lock (pe_dc (own := [("place", 4)]) (by rfl) sc_claimed.nd (pi_keys (pv 3)) (blkOk_by (own := [("place", 4)]) (N := ["game", "inside", "player", "near", "place"]) (sc := defScope s_claimed) (by decide +kernel)) (fun _ _ _ _ _ => (pg_name (i := 4) sc_claimed.nd rfl (Or.inl rfl))) (fun _ _ _ _ _ => pts_nil) (fun _ _ _ _ _ => (pv 4)) (fun _ _ _ _ _ => (pe_tup (pa_cons (pv 2) (pa_cons (pe_cal C_leading_step hr (by decide) (by rfl) (pa_cons (pv 0) (pa_cons (pv 1) (pa_cons (pv 2) (pa_cons (pv 3) (pa_cons (pv 4) pa_nil)))))) pa_nil)))))))), ?_⟩
    have hz : ks.length ≤ 1000 := Nat.le_trans (few_of hN fun p hp => let ⟨k, hk⟩ := (hks p).mp hp; PG.lay_in hTA hk) ok.few
    refine dc_dkeys (d := an) (ks := ks) (f0 := rkV rk) (fun _ => true) (PairAt i (LdG g A i T rk)) (fun p v H1 H2 kt ⟨t, o, e, ht, x⟩ => ⟨t, o, e, kt _ _ ht, x⟩) rfl hK hz hN (fun p H' Qe Nx hp bt rd h1 h2 => ?_) (fun H' D h sm nD e r => ?_)
    · refine ⟨rfl, _, rfl, _, rfl, _, rfl, _, rfl, _, rfl, _, rfl, _, rfl, _, g, ai, an, i, p, A, T, ks, rk, rfl, dp_sq (SqS.but (.inl ⟨_, .inl hK⟩) bt) _ _ hg, .inl (bt _ _ hne hA), rd, ok, hks, hrk, hTA, hp, fun H2 o sm2 x => ⟨by show 2 ≤ sizeLine; decide, fun t nt => ?_⟩⟩
      exact h1 rfl _ _ (sm2.trans (same_upd nt)) ⟨t, o, rfl, upd_same, x⟩
    · rw [List.filter_eq_self.mpr fun _ _ => rfl] at e r
      exact q H' D h sm nD e r
end
end G

namespace G
open PySem PySem.Spec PyProof.Rows L2
abbrev s_settle : Stmt := topS 39
theorem sc_settle : FnScope ["game", "inside", "known", "greatest", "player", "goals", "near", "far", "lost", "found", "taken", "place", "left"] ["game", "inside", "known"] (defScope s_settle) := ⟨rfl, rfl, rfl, by decide +kernel, rfl, by decide +kernel, by decide +kernel⟩
abbrev s_settled_inside : Stmt := topS 38
theorem sc_settled_inside : FnScope ["game", "inside", "known", "key"] ["game", "inside", "known"] (defScope s_settled_inside) := ⟨rfl, rfl, rfl, by decide +kernel, rfl, by decide +kernel, by decide +kernel⟩
theorem merge_dk {h h2 : Int → V} : ∀ (ks2 ks1 : List Int), (ks1 ++ ks2).Nodup → (∀ p ∈ ks2, h p = h2 p) → mergeK (dkOf ks1 h) (dkOf ks2 h2) = dkOf (ks1 ++ ks2) h
  | [], ks1, _, _ => by rw [List.append_nil]; rfl
  | p :: l, ks1, hn, hp => by
    have new : p ∉ ks1 := fun z => (List.nodup_append.mp hn).2.2 p z p List.mem_cons_self rfl
    have st : putK (dkOf ks1 h) (Sum.inl p) (h2 p) = dkOf (ks1 ++ [p]) h := put_dkOf new (fun _ _ => rfl) (hp p List.mem_cons_self)
    have ih := merge_dk (h := h) (h2 := h2) l (ks1 ++ [p]) (by rw [List.append_assoc]; exact hn) fun q hq => hp q (List.mem_cons_of_mem _ hq)
    rw [List.append_assoc] at ih
    rw [show (ks1 ++ p :: l) = ks1 ++ ([p] ++ l) from rfl, ← ih, ← st]
    rfl
theorem merge_nil {ks : List Int} {h : Int → V} (hn : ks.Nodup) : mergeK [] (dkOf ks h) = dkOf ks h := by
  have := merge_dk (h := h) (h2 := h) ks [] hn fun _ _ => rfl
  exact this
abbrev SolG (g : List Row) (A : List Int) (w : Int → Int) (s : Int → Option Int) : Prop := PG.SolM (ownAt g) (numAt g) (wsOf g) A w s
/-- at r stands what is told of a part -/
def SolAt (g : List Row) (H : Hp) (r : Addr) (A : List Int) : Prop := ∃ ks h w s, H r = some (.dK (dkOf ks h)) ∧ ks.Nodup ∧ (∀ p, p ∈ ks ↔ p ∈ A) ∧ (∀ p ∈ A, ∃ t, h p = .ref t ∧ H t = some (.tup [.int (w p), optV (s p)])) ∧ SolG g A w s
def KnOk (g : List Row) (H : Hp) (kvs : List (List Key × V)) : Prop := ∀ (A : List Int) v, valV kvs (A.map Sum.inl) = some v → ∃ r, v = .ref r ∧ SolAt g H r A
theorem SolAt.but {g : List Row} {H H' : Hp} {r k : Addr} {A : List Int} {kvs : List (List Key × V)} (hk : H k = some (.dT kvs)) (b : But k H H') (h : SolAt g H r A) : SolAt g H' r A := by
  obtain ⟨ks, f, w, s, h1, h2, h3, h4, h5⟩ := h
  refine ⟨ks, f, w, s, b _ _ (ne_of h1 hk fun z => nomatch z) h1, h2, h3, fun p hp => ?_, h5⟩
  obtain ⟨t, e, ht⟩ := h4 p hp
  exact ⟨t, e, b _ _ (ne_of ht hk fun z => nomatch z) ht⟩
theorem KnOk.but {g : List Row} {H H' : Hp} {k : Addr} {kvs kvs' : List (List Key × V)} (hk : H k = some (.dT kvs')) (b : But k H H') (h : KnOk g H kvs) : KnOk g H' kvs := fun A v hv => let ⟨r, e, z⟩ := h A v hv; ⟨r, e, z.but hk b⟩
theorem PartOk.sub {g : List Row} {A T ks : List Int} {i : Int} (ok : PartOk g A) (hks : ∀ p, p ∈ ks ↔ LedG g A i T p) : PartOk g (A.filter fun p => decide (p ∉ ks)) := by
  refine ⟨fun p hp => ok.inG p (List.mem_filter.mp hp).1, ok.nd.filter _, Nat.le_trans (List.length_filter_le _ _) ok.few, ?_, ok.sz⟩
  refine PG.tot_out (own := ownAt g) (i := i) (T := T) ok.tot fun p => ?_
  rw [List.mem_filter, decide_eq_true_eq, hks p]
theorem map_inl_inj {A B : List Int} (h : (A.map Sum.inl : List Key) = B.map Sum.inl) : A = B := (List.map_inj_right fun a b e => Sum.inl.inj e).mp h
theorem choose_o {X : Int → Option Int → Prop} {ks : List Int} (h : ∀ p ∈ ks, ∃ o, X p o) : ∃ s : Int → Option Int, ∀ p ∈ ks, X p (s p) := by
  have : ∀ p, ∃ o, p ∈ ks → X p o := fun p => by
    by_cases z : p ∈ ks
    · obtain ⟨o, ho⟩ := h p z
      exact ⟨o, fun _ => ho⟩
    · exact ⟨none, fun y => absurd y z⟩
  exact ⟨fun p => Classical.choose (this p), fun p hp => Classical.choose_spec (this p) hp⟩
section
variable {P : Program} {w : World} {K : PySem.W.Frag} {mg : Str → Option Value} {base : Heap}
abbrev FewG (g : List Row) (A : List Int) (N : Nat) : Prop := PG.Few (ownAt g) (numAt g) (wsOf g) A N
def lineN : Nat := 16000000
theorem lt_line {n : Nat} (h : n ≤ lineN) : n < sizeLine := by rw [sizeLine_eq]; unfold lineN at h; omega
def spSI (K : PySem.W.Frag) (n : Nat) : Sp := fun vs H Q _ => ∃ (vg : V) (g : List Row) (ai ak : Addr) (A : List Int) (kvs : List (List Key × V)) (N : Nat), vs = [vg, .ref ai, .ref ak] ∧ Dp K H vg (gameD g) ∧ (∀ p, InG g p → ownAt g p = 0 ∨ ownAt g p = 1) ∧ H ai = some (.dK (dkOf A tV)) ∧ H ak = some (.dT kvs) ∧ PartOk g A ∧ A.length ≤ n ∧ FewG g A N ∧ kvs.length + N ≤ lineN ∧ KnOk g H kvs ∧
  ∀ H' r kvs', But ak H H' → H' ak = some (.dT kvs') → kvs'.length ≤ kvs.length + N → KnOk g H' kvs' → SolAt g H' r A → Q (.ref r) H'
def spSettle (K : PySem.W.Frag) (n : Nat) : Sp := fun vs H Q _ => ∃ (vg : V) (g : List Row) (ai ak : Addr) (A : List Int) (kvs : List (List Key × V)) (N : Nat), vs = [vg, .ref ai, .ref ak] ∧ Dp K H vg (gameD g) ∧ (∀ p, InG g p → ownAt g p = 0 ∨ ownAt g p = 1) ∧ H ai = some (.dK (dkOf A tV)) ∧ H ak = some (.dT kvs) ∧ PartOk g A ∧ A ≠ [] ∧ A.length ≤ n ∧ FewG g A N ∧ kvs.length + N ≤ lineN ∧ KnOk g H kvs ∧
  ∀ H' r kvs', But ak H H' → H' ak = some (.dT kvs') → kvs'.length + 1 ≤ kvs.length + N → KnOk g H' kvs' → SolAt g H' r A → Q (.ref r) H'
theorem ok_settle0 {f : Addr} {fd : FuncData} (F : Fun K "settle" "settle" s_settle f fd) : FnOk P w K mg base (L2.CX P w) 3 f fd ["game", "inside", "known"] (spSettle K 0) := by
  refine F.okX sc_settle (fun vs H Q E h => ?_) (fun cdv Ar outer s H vs Q E hr h => ?_)
  · obtain ⟨vg, g, ai, ak, A, kvs, N, rfl, _⟩ := h
    rfl
  · obtain ⟨vg, g, ai, ak, A, kvs, N, _, _, _, _, _, _, hne, hl, _⟩ := h
    exact absurd (List.eq_nil_of_length_eq_zero (by omega)) hne
theorem ok_settled_inside {n : Nat} {f : Addr} {fd : FuncData} (B : Bt mg) (F : Fun K "settled_inside" "settled_inside" s_settled_inside f fd) (C_settle : Cal P w K mg base (2 * n + 3) "settle" (spSettle K n)) : FnOk P w K mg base (L2.CX P w) (2 * n + 3 + 1) f fd ["game", "inside", "known"] (spSI K n) := by
  refine F.okX sc_settled_inside (fun vs H Q E h => ?_) (fun cdv Ar outer s H vs Q E hr h => ?_)
  · obtain ⟨vg, g, ai, ak, A, kvs, N, rfl, _⟩ := h
    rfl
  · obtain ⟨vg, g, ai, ak, A, kvs, N, rfl, hg, ho, hA, hk, ok, hl, fw, hz, kn, q⟩ := h
    refine ⟨_, (pss_cons (ps_if (pt_cmpR op_eq (pe_callB call_lenD (by rfl) B.len_ (by decide +kernel) (pa_cons (pv 1) pa_nil)) pe_int (nomark _)) (pss_one (ps_ret pe_dnewK)) pss_nil)
      (pss_cons (ps_set (i := 3) sc_settled_inside.nd rfl (Or.inl rfl) (pe_callTy (call_tuple_dK rfl) (by rfl) B.tuple_ (by decide +kernel) (pa_cons (pv 1) pa_nil)))
      (pss_cons (ps_if (pt_cmp (pc_dnotin (hu_of hr) (pv 3) (pv 2))) (pss_one (ps_dput (hu_of hr) (pv 2) (pv 3) (pe_cal C_settle hr (Nat.le_refl _) (by rfl) (pa_cons (pv 0) (pa_cons (pv 1) (pa_cons (pv 2) pa_nil)))) rfl)) pss_nil)
      (pss_one (ps_ret (pe_dget (hu_of hr) (pv 2) (pv 3) (fun _ _ => rfl))))))), ?_⟩
    refine ⟨_, rfl, ai, _, rfl, hA, rfl, _, rfl, ite2 (fun e => ?_) (fun e => ?_)⟩
    · have e0 : A = [] := by
        have := V.int.inj (of_decide_eq_true e)
        rw [len_dkOf] at this
        exact List.eq_nil_of_length_eq_zero (by omega)
      subst e0
      intro p np
      have bt : But ak H (upd H p (.dK [])) := But.of (same_upd np)
      exact q _ p kvs bt (by rw [upd_ne (ne_of_none hk np)]; exact hk) (by omega) (kn.but hk bt) ⟨[], fun _ => .non, fun _ => 0, fun _ => none, by rw [upd_same]; rfl, List.nodup_nil, fun _ => Iff.rfl, (fun p hp => nomatch hp), PG.SolM.nil⟩
    · have hne : A ≠ [] := fun z => e (by rw [z]; rfl)
      refine ⟨_, rfl, ai, _, rfl, hA, fun b nb => ?_⟩
      have sb : Same H (upd H b (.tup ((dkOf A tV).map fun kv => kV kv.1))) := same_upd nb
      have hb : (upd H b (.tup ((dkOf A tV).map fun kv => kV kv.1))) b = some (.tup ((A.map Sum.inl : List Key).map kV)) := by
        rw [upd_same, keys_dkOf, List.map_map]
        rfl
      generalize upd H b (.tup ((dkOf A tV).map fun kv => kV kv.1)) = H1 at sb hb ⊢
      have hk1 := sb _ _ hk
      have nebk : b ≠ ak := (ne_of_none hk nb).symm
      refine ⟨_, rfl, _, rfl, ak, _, rfl, DGet.t hk1 hb, _, rfl, ?_⟩
      refine if_key (fun σ' H' => σ' = [some vg, some (.ref ai), some (.ref ak), some (.ref b)] ∧ ∃ kvs' r, But ak H H' ∧ H' ak = some (.dT kvs') ∧ kvs'.length ≤ kvs.length + N ∧ KnOk g H' kvs' ∧ valV kvs' (A.map Sum.inl) = some (.ref r) ∧ SolAt g H' r A ∧ H' b = some (.tup ((A.map Sum.inl : List Key).map kV))) (fun eb key => ?_) (fun eb => ?_) (fun σ' H' hP => ?_)
      · obtain ⟨N1, N2, eN, _⟩ := fw.inv hne
        refine ⟨_, rfl, _, rfl, _, rfl, vg, g, ai, ak, A, kvs, N, rfl, dp_mono sb _ _ hg, ho, sb _ _ hA, hk1, ok, hne, hl, fw, hz, kn.but hk (But.of sb), fun H2 r kvs2 bt hk2 hl2 kn2 sol2 => ?_⟩
        have hb2 := bt _ _ nebk hb
        refine ⟨_, rfl, _, rfl, ak, _, rfl, DPut.t (k := A.map Sum.inl) hk2 hb2 (lt_line (by omega)), key _ _ ⟨rfl, putK kvs2 (A.map Sum.inl) (.ref r), r, ?_, by rw [upd_same], ?_, fun A' v hv => ?_, ?_, ?_, ?_⟩⟩
        · exact ((But.of sb).trans bt).trans But.upd
        · have := length_putK kvs2 (A.map Sum.inl : List Key) (.ref r)
          omega
        · rw [valV_put] at hv
          by_cases z : (A'.map Sum.inl : List Key) = A.map Sum.inl
          · rw [if_pos z] at hv
            cases hv
            rw [map_inl_inj z]
            exact ⟨r, rfl, sol2.but hk2 But.upd⟩
          · rw [if_neg z] at hv
            exact (kn2.but hk2 But.upd) A' v hv
        · rw [valV_put, if_pos rfl]
        · exact sol2.but hk2 But.upd
        · rw [upd_ne nebk]; exact hb2
      · cases hv : valV kvs (A.map Sum.inl) with
        | none => rw [hv] at eb; cases eb
        | some v =>
          obtain ⟨r, rfl, sol⟩ := kn A v hv
          exact ⟨rfl, kvs, r, But.of sb, hk1, by omega, kn.but hk (But.of sb), hv, sol.but hk (But.of sb), hb⟩
      · obtain ⟨rfl, kvs', r, bt, hk2, hl2, kn2, hv, sol, hb2⟩ := hP
        refine ⟨_, rfl, _, rfl, ak, _, rfl, ?_, q H' r kvs' bt hk2 hl2 kn2 sol⟩
        have := DGet.t hk2 hb2
        rw [hv] at this
        exact this
end
end G

namespace G
open PySem PySem.Spec PyProof.Rows L2
section
variable {P : Program} {w : World} {K : PySem.W.Frag} {mg : Str → Option Value} {base : Heap}
theorem ok_settle {n : Nat} {f : Addr} {fd : FuncData} (B : Bt mg) (F : Fun K "settle" "settle" s_settle f fd) (C_drawn : Cal P w K mg base 2 "drawn" (spDrawn K)) (C_without : Cal P w K mg base 1 "without" (spWithout K)) (C_claimed : Cal P w K mg base 2 "claimed" (spClaimed K))
    (C_settled_inside : Cal P w K mg base (2 * n + 3 + 1) "settled_inside" (spSI K n)) : FnOk P w K mg base (L2.CX P w) (2 * n + 3 + 1 + 1) f fd ["game", "inside", "known"] (spSettle K (n + 1)) := by
  refine F.okX sc_settle (fun vs H Q E h => ?_) (fun cdv Ar outer s H vs Q E hr h => ?_)
  · obtain ⟨vg, g, ai, ak, A, kvs, N, rfl, _⟩ := h
    rfl
  · obtain ⟨vg, g, ai, ak, A, kvs, N, rfl, hg, ho, hA, hk, ok, hne, hl, fw, hz, kn, q⟩ := h
    refine ⟨_, (pss_cons (ps_set (i := 3) sc_settle.nd rfl (Or.inr rfl) (pe_callB (cr_max rfl) (by rfl) B.max_ (by decide +kernel) (pa_cons (pe_lock (pe_lc (own := [("place", 11)]) (by rfl) sc_settle.nd (pi_keys (pv 1)) (blkOk_by (own := [("place", 11)]) (N := ["game", "inside", "known", "greatest", "player", "goals", "near", "far", "lost", "found", "taken", "place", "left"]) (sc := defScope s_settle) (by decide +kernel)) (fun _ _ _ _ _ => (pg_name (i := 11) sc_settle.nd rfl (Or.inl rfl))) (fun _ _ _ _ _ => pts_nil) (fun _ _ _ _ _ => (pe_ix (kr_ix_tup (K := K) rfl) (pe_ix (kr_ix_list (K := K) rfl) (pv 0) (pv 11) (fun _ _ => rfl)) pe_int (fun _ _ => rfl))))) pa_nil)))
      (pss_cons (ps_set (i := 4) sc_settle.nd rfl (Or.inr rfl) (pe_op op_mod (pv 3) pe_int))
      (pss_cons (ps_lock (ps_setLc (i := 5) (own := [("place", 11)]) (by rfl) sc_settle.nd rfl rfl (sw_true rfl rfl rfl (by decide +kernel)) (pi_keys (pv 1)) (blkOk_by (own := [("place", 11)]) (N := ["game", "inside", "known", "greatest", "player", "goals", "near", "far", "lost", "found", "taken", "place", "left"]) (sc := defScope s_settle) (by decide +kernel)) (fun _ _ _ _ _ => (pg_name (i := 11) sc_settle.nd rfl (Or.inl rfl))) (fun _ _ _ _ _ => (pts_one (pt_cmpR op_eq (pe_ix (kr_ix_tup (K := K) rfl) (pe_ix (kr_ix_list (K := K) rfl) (pv 0) (pv 11) (fun _ _ => rfl)) pe_int (fun _ _ => rfl)) (pv 3) (nomark _)))) (fun _ _ _ _ _ => (pv 11))))
      (pss_cons (ps_set (i := 6) sc_settle.nd rfl (Or.inl rfl) (pe_cal C_drawn hr (by omega) (by rfl) (pa_cons (pv 0) (pa_cons (pv 1) (pa_cons (pv 4) (pa_cons (pv 5) pa_nil))))))
      (pss_cons (ps_set (i := 7) sc_settle.nd rfl (Or.inr rfl) (pe_cal C_settled_inside hr (by omega) (by rfl) (pa_cons (pv 0) (pa_cons (pe_cal C_without hr (by omega) (by rfl) (pa_cons (pv 1) (pa_cons (pv 6) pa_nil))) (pa_cons (pv 2) pa_nil)))))
      (pss_cons (ps_lock (ps_setLc (i := 8) (own := [("place", 11)]) (by rfl) sc_settle.nd rfl rfl (sw_true rfl rfl rfl (by decide +kernel)) (pi_keys (pv 7)) (blkOk_by (own := [("place", 11)]) (N := ["game", "inside", "known", "greatest", "player", "goals", "near", "far", "lost", "found", "taken", "place", "left"]) (sc := defScope s_settle) (by decide +kernel)) (fun _ _ _ _ _ => (pg_name (i := 11) sc_settle.nd rfl (Or.inl rfl))) (fun _ _ _ _ _ => (pts_one (pt_cmpR op_ne (pe_ix (kr_ix_tup (K := K) rfl) (pe_dget (hu_of hr) (pv 7) (pv 11) (fun _ _ => rfl)) pe_int (fun _ _ => rfl)) (pv 4) (nomark _)))) (fun _ _ _ _ _ => (pv 11))))
      (pss_cons (ps_if (pt_cmpR op_eq (pe_callB call_len_seq (by rfl) B.len_ (by decide +kernel) (pa_cons (pv 8) pa_nil)) pe_int (nomark _)) (pss_cons (ps_set (i := 9) sc_settle.nd rfl (Or.inl rfl) (pe_cal C_claimed hr (by omega) (by rfl) (pa_cons (pv 0) (pa_cons (pv 1) (pa_cons (pv 4) (pa_cons (pv 6) pa_nil))))))
      (pss_one (ps_ret (pe_merge2 (pv 7) (pv 9))))) pss_nil)
      (pss_cons (ps_set (i := 10) sc_settle.nd rfl (Or.inl rfl) (pe_cal C_drawn hr (by omega) (by rfl) (pa_cons (pv 0) (pa_cons (pv 1) (pa_cons (pe_op op_sub pe_int (pv 4)) (pa_cons (pv 8) pa_nil))))))
      (pss_cons (ps_set (i := 9) sc_settle.nd rfl (Or.inl rfl) (pe_cal C_claimed hr (by omega) (by rfl) (pa_cons (pv 0) (pa_cons (pv 1) (pa_cons (pe_op op_sub pe_int (pv 4)) (pa_cons (pv 10) pa_nil))))))
      (pss_cons (ps_for (passes_of rfl) rfl (pi_list (pv 8)) (pg_name (i := 11) sc_settle.nd rfl (Or.inl rfl)) (pss_one (ps_dput (hu_of hr) (pv 9) (pv 11) (pe_dget (hu_of hr) (pv 7) (pv 11) (fun _ _ => rfl)) rfl)))
      (pss_cons (ps_set (i := 12) sc_settle.nd rfl (Or.inl rfl) (pe_cal C_settled_inside hr (by omega) (by rfl) (pa_cons (pv 0) (pa_cons (pe_cal C_without hr (by omega) (by rfl) (pa_cons (pv 1) (pa_cons (pv 10) pa_nil))) (pa_cons (pv 2) pa_nil)))))
      (pss_one (ps_ret (pe_merge2 (pv 9) (pv 12))))))))))))))), ?_⟩
    obtain ⟨ag, xg, rfl, hG, hGl, hGr⟩ := dp_game hg
    -- greatest
    refine lc_dkeys (d := ai) (ks := A) (f0 := tV) (fun _ => true) (fun p => .int (numAt g p)) rfl hA ok.few (fun p H' Qe Nx hp bt rd h1 h2 => ?_) (fun H1 L1 sm1 nL1 hL1 => ⟨L1, A.map (numAt g), rfl, .inl (.inl ?_), ?_, fun d hd1 hd2 => ?_⟩)
    · obtain ⟨t, a, b, c, e1, e2, _, _⟩ := read_num hG hGr (ok.inG p hp)
      have sq := SqS.but (K := K) (.inl ⟨_, .inl hA⟩) bt
      exact ⟨rfl, _, rfl, _, rfl, _, _, _, _, rfl, rfl, sq.1 _ _ hG, e1, _, _, _, _, rfl, rfl, sq.2 _ _ e2, atI_nat (j := 1) rfl, h1 rfl _ (Same.refl _)⟩
    · rw [hL1, List.filter_eq_self.mpr fun _ _ => rfl, List.map_map]
      rfl
    · rw [List.length_map]
      exact List.length_pos_iff.mpr hne
    have dle : ∀ p ∈ A, numAt g p ≤ d := fun p hp => hd2 _ (List.mem_map_of_mem hp)
    obtain ⟨p0, hp0, ep0⟩ := List.mem_map.mp hd1
    have hdE : (d : Int) = numAt g p0 := ep0.symm
    -- player
    refine ⟨_, rfl, _, _, rfl, rfl, (by show (0:Int) < 2; decide), ?_⟩
    -- goals
    refine lock_set (lc_dkeys (d := ai) (ks := A) (f0 := tV) (fun p => decide (numAt g p = d)) V.int rfl (sm1 _ _ hA) ok.few (fun p H' Qe Nx hp bt rd h1 h2 => ?_) (fun H2 L2 sm2 nL2 hL2 => ?_))
    · obtain ⟨t, a, b, c, e1, e2, _, _⟩ := read_num hG hGr (ok.inG p hp)
      have sq := (SqS.of (K := K) sm1).trans (SqS.but (.inl ⟨_, .inl (sm1 _ _ hA)⟩) bt)
      refine ⟨rfl, _, rfl, _, rfl, _, _, _, _, rfl, rfl, sq.1 _ _ hG, e1, _, _, _, _, rfl, rfl, sq.2 _ _ e2, atI_nat (j := 1) rfl, _, rfl, rfl, _, rfl, ?_⟩
      have ed : decide (V.int (numAt g p) = V.int d) = decide (numAt g p = d) := decide_eq_decide.mpr ⟨V.int.inj, congrArg V.int⟩
      rw [ed]
      cases hc : decide (numAt g p = d) with
      | true => exact iteT ⟨_, rfl, h1 hc _ (Same.refl _)⟩
      | false => exact iteF (h2 hc _ (Same.refl _))
    have s2 : Same H H2 := sm1.trans sm2
    generalize hT0 : A.filter (fun p => decide (numAt g p = d)) = T at hL2
    have hTm : ∀ p, p ∈ T ↔ p ∈ A ∧ numAt g p = d := fun p => by rw [← hT0, List.mem_filter, decide_eq_true_eq]
    have hTA : ∀ p ∈ T, p ∈ A := fun p hp => ((hTm p).mp hp).1
    have hTn : T.Nodup := by rw [← hT0]; exact ok.nd.filter _
    have top : PG.TopOf (numAt g) A d T := ⟨dle, hTm, fun z => by
      have : p0 ∈ T := (hTm p0).mpr ⟨hp0, ep0⟩
      rw [z] at this
      cases this⟩
    have i01 : d % 2 = 0 ∨ d % 2 = 1 := by omega
    -- near
    refine ⟨_, rfl, _, rfl, _, rfl, _, rfl, _, g, ai, L2, d % 2, A, T, rfl, dp_mono s2 _ _ hg, s2 _ _ hA, .inl (.inl hL2), ok, hTn, hTA, fun H3 Nr ks rk sm3 nN hN nd hks hrk => ?_⟩
    have s3 : Same H H3 := s2.trans sm3
    have hNH : H Nr = none := Same.free s2 nN
    have nA : Nr ≠ ai := (ne_of_none hA hNH).symm
    obtain ⟨N1, N2, eN, few1, few2⟩ := fw.inv hne
    generalize hBd : A.filter (fun p => decide (p ∉ ks)) = Bs
    have hBm : ∀ p, p ∈ Bs ↔ p ∈ A ∧ ¬ LedG g A (d % 2) T p := fun p => by rw [← hBd, List.mem_filter, decide_eq_true_eq, hks p]
    have okB : PartOk g Bs := by rw [← hBd]; exact ok.sub hks
    have condB : ∀ p ∈ A, decide (p ∉ ks) = true ↔ ¬ LedG g A (d % 2) T p := fun p _ => by rw [decide_eq_true_eq, hks p]
    have fewB : FewG g Bs N1 := by rw [← hBd]; exact few1 d T _ top condB
    have lB : Bs.length ≤ n := by
      have : p0 ∈ ks := (hks p0).mpr ⟨0, decide_eq_true ((hTm p0).mpr ⟨hp0, ep0⟩)⟩
      have := PG.len_lt (f := fun p => decide (p ∉ ks)) hp0 (decide_eq_false fun z => z this)
      rw [hBd] at this
      omega
    -- far
    refine ⟨_, rfl, _, rfl, _, rfl, ai, Nr, A, ks, rkV rk, rfl, s3 _ _ hA, hN, nA, ok.nd, ok.few, fun H4 Br sm4 nB hB => ?_⟩
    rw [hBd] at hB
    have s4 : Same H H4 := s3.trans sm4
    refine ⟨_, rfl, _, g, Br, ak, Bs, kvs, N1, rfl, dp_mono s4 _ _ hg, ho, hB, s4 _ _ hk, okB, lB, fewB, by omega, kn.but hk (But.of s4), fun H5 fr kvs5 bt5 hk5 hl5 kn5 sol5 => ?_⟩
    obtain ⟨ks1, f1, w1, s1, hfr, nd1, mem1, val1, sol1⟩ := sol5
    have b5 : But ak H H5 := (But.of s4).trans bt5
    have neak : ∀ {x : Addr} {o : HO}, H x = some o → (∀ k, o ≠ .dT k) → x ≠ ak := fun e h z => by rw [z, hk] at e; exact h _ (Option.some.inj e).symm
    have aiak : ai ≠ ak := neak hA fun _ z => nomatch z
    have hA5 : H5 ai = some (.dK (dkOf A tV)) := b5 _ _ aiak hA
    have Nak : Nr ≠ ak := (ne_of_none hk hNH).symm
    have hN5 : H5 Nr = some (.dK (dkOf ks (rkV rk))) := bt5 _ _ Nak (sm4 _ _ hN)
    have hg5 : Dp K H5 (.ref ag) (gameD g) := dp_sq (SqS.but (.inr ⟨_, .inl hk⟩) b5) _ _ hg
    -- lost
    refine lock_set (lc_dkeys (d := fr) (ks := ks1) (f0 := f1) (fun p => decide (w1 p ≠ d % 2)) V.int rfl hfr ?_ (fun p H' Qe Nx hp bt rd h1 h2 => ?_) (fun H6 L6 sm6 nL6 hL6 => ?_))
    · exact Nat.le_trans (few_of nd1 fun p hp => (mem1 p).mp hp) okB.few
    · obtain ⟨t, et, ht⟩ := val1 p ((mem1 p).mp hp)
      have ntf : t ≠ fr := ne_of ht hfr fun z => nomatch z
      refine ⟨rfl, _, rfl, _, rfl, fr, _, rfl, dget_some rd hp, t, _, 0, _, et, rfl, .inl (.inl (bt _ _ ntf ht)), atI_nat (j := 0) rfl, _, rfl, rfl, _, rfl, ?_⟩
      have ed : (!decide (V.int (w1 p) = V.int (d % 2))) = decide (w1 p ≠ d % 2) := by
        rw [← decide_not]
        exact decide_eq_decide.mpr ⟨fun z y => z (congrArg V.int y), fun z y => z (V.int.inj y)⟩
      rw [ed]
      cases hc : decide (w1 p ≠ d % 2) with
      | true => exact iteT ⟨_, rfl, h1 hc _ (Same.refl _)⟩
      | false => exact iteF (h2 hc _ (Same.refl _))
    generalize hL0 : ks1.filter (fun p => decide (w1 p ≠ d % 2)) = L at hL6
    have hLm : ∀ p, p ∈ L ↔ p ∈ Bs ∧ w1 p ≠ d % 2 := fun p => by rw [← hL0, List.mem_filter, decide_eq_true_eq, mem1 p]
    have ndL : L.Nodup := by rw [← hL0]; exact nd1.filter _
    have hLA : ∀ p ∈ L, p ∈ A := fun p hp => ((hBm p).mp ((hLm p).mp hp).1).1
    have b6 : But ak H H6 := b5.trans (But.of sm6)
    have hk6 := sm6 _ _ hk5
    have kn6 := kn5.but hk5 (But.of sm6)
    have val6 : ∀ p ∈ Bs, ∃ t, f1 p = .ref t ∧ H6 t = some (.tup [.int (w1 p), optV (s1 p)]) := fun p hp => let ⟨t, e, ht⟩ := val1 p hp; ⟨t, e, sm6 _ _ ht⟩
    have hfr6 := sm6 _ _ hfr
    have hA6 := sm6 _ _ hA5
    have hN6 := sm6 _ _ hN5
    have hg6 := dp_mono sm6 _ _ hg5
    have hl5' : kvs5.length ≤ kvs.length + N1 := hl5
    -- if len(lost) == 0
    refine ⟨_, rfl, L6, _, rfl, .inl (.inl (.inl hL6)), rfl, _, rfl, ?_⟩
    refine if_key (fun σ' H' => H' = H6 ∧ L ≠ [] ∧ σ' = [some (.ref ag), some (.ref ai), some (.ref ak), some (.int d), some (.int (d % 2)), some (.ref L2), some (.ref Nr), some (.ref fr), some (.ref L6), none, none, none, none]) (fun eb key => ?_) (fun eb => ?_) (fun σ' H' hP => ?_)
    · have eL : L = [] := by
        have := V.int.inj (of_decide_eq_true eb)
        rw [List.length_map] at this
        exact List.eq_nil_of_length_eq_zero (by omega)
      -- found = claimed(game, inside, player, near); return {**far, **found}
      refine ⟨_, rfl, _, rfl, _, rfl, _, rfl, _, g, ai, Nr, d % 2, A, T, ks, rk, rfl, hg6, hA6, hN6, nA.symm, ok, nd, hks, hrk, hTA, fun H7 D7 f7 sm7 nD7 hD7 pr7 => ?_⟩
      have hfr7 := sm7 _ _ hfr6
      have hk7 := sm7 _ _ hk6
      have fD : fr ≠ D7 := ne_of_none hfr6 nD7
      refine fun r nr => ⟨_, rfl, fr, dkOf ks1 f1, rfl, by rw [upd_ne (ne_of_none hfr7 nr)]; exact hfr7, ne_of_none hfr7 nr, upd_same, by rw [len_dkOf]; exact Nat.le_trans (few_of nd1 fun p hp => (mem1 p).mp hp) okB.few, ?_⟩
      have Dr : D7 ≠ r := ne_of_none hD7 nr
      refine ⟨_, rfl, D7, dkOf ks f7, rfl, by rw [upd_ne Dr, upd_ne Dr]; exact hD7, Dr, upd_same, by rw [len_dkOf]; exact Nat.le_trans (few_of nd fun p hp => let ⟨k, hk⟩ := (hks p).mp hp; PG.lay_in hTA hk) ok.few, ?_⟩
      obtain ⟨s7, hs7⟩ := choose_o (X := fun p o => ∃ t, f7 p = .ref t ∧ H7 t = some (.tup [.int (d % 2), optV o]) ∧ LdG g A (d % 2) T rk p o) (ks := ks) fun p hp => let ⟨t, o, a, b, c⟩ := pr7 p hp; ⟨o, t, a, b, c⟩
      have dis : ∀ p ∈ ks1, p ∉ ks := fun p hp z => ((hBm p).mp ((mem1 p).mp hp)).2 ((hks p).mp z)
      have nd12 : (ks1 ++ ks).Nodup := List.nodup_append.mpr ⟨nd1, nd, fun a ha b hb e => dis a ha (e ▸ hb)⟩
      let ff : Int → V := fun p => if p ∈ ks1 then f1 p else f7 p
      have em : mergeK (mergeK [] (dkOf ks1 f1)) (dkOf ks f7) = dkOf (ks1 ++ ks) ff := by
        rw [merge_nil nd1, show dkOf ks1 f1 = dkOf ks1 ff from List.map_congr_left fun p hp => by show (_, f1 p) = (_, ff p); rw [show ff p = f1 p from if_pos hp]]
        exact merge_dk ks ks1 nd12 fun p hp => if_neg fun z => dis p z hp
      rw [em]
      have sm8 : Same H7 (upd (upd (upd H7 r (.dK [])) r (.dK (mergeK [] (dkOf ks1 f1)))) r (.dK (dkOf (ks1 ++ ks) ff))) := fun b o e => by
        have nb := ne_of_none e nr
        rw [upd_ne nb, upd_ne nb, upd_ne nb]
        exact e
      refine q _ r kvs5 (b6.trans (But.of (sm7.trans sm8))) (sm8 _ _ hk7) (by omega) (kn6.but hk6 (But.of (sm7.trans sm8))) ⟨ks1 ++ ks, ff, fun _ => d % 2, fun p => if p ∈ ks1 then s1 p else s7 p, upd_same, nd12, fun p => ?_, fun p hp => ?_, ?_⟩
      · rw [List.mem_append, mem1 p, hBm p, hks p]
        constructor
        · rintro (z | ⟨k, hk⟩)
          · exact z.1
          · exact PG.lay_in hTA hk
        · intro z
          by_cases y : LedG g A (d % 2) T p
          · exact .inr y
          · exact .inl ⟨z, y⟩
      · by_cases z : p ∈ ks1
        · have pb := (mem1 p).mp z
          obtain ⟨t, e, ht⟩ := val6 p pb
          have wi : w1 p = d % 2 := Classical.byContradiction fun y => by
            have := (hLm p).mpr ⟨pb, y⟩
            rw [eL] at this
            cases this
          refine ⟨t, (if_pos z).trans e, ?_⟩
          show _ = some (HO.tup [.int (d % 2), optV (if p ∈ ks1 then s1 p else s7 p)])
          rw [sm8 _ _ (sm7 _ _ ht), wi, if_pos z]
        · have pk : p ∈ ks := by
            apply Classical.byContradiction
            intro y
            exact z ((mem1 p).mpr ((hBm p).mpr ⟨hp, fun l => y ((hks p).mpr l)⟩))
          obtain ⟨t, e, ht, _⟩ := hs7 p pk
          refine ⟨t, (if_neg z).trans e, ?_⟩
          show _ = some (HO.tup [.int (d % 2), optV (if p ∈ ks1 then s1 p else s7 p)])
          rw [sm8 _ _ ht, if_neg z]
      · refine PG.SolM.all (T := T) (B := Bs) (rk := rk) rfl i01 (fun p hp => ho p (ok.inG p hp)) ok.tot hTm dle hrk hBm sol1 (fun p hp => Classical.byContradiction fun y => ?_) (fun p l => ?_) (fun p hp => if_pos ((mem1 p).mpr hp))
        · have := (hLm p).mpr ⟨hp, y⟩
          rw [eL] at this
          cases this
        · have pk := (hks p).mpr l
          have nk : p ∉ ks1 := fun z => dis p z pk
          show LdG g A (d % 2) T rk p (if p ∈ ks1 then s1 p else s7 p)
          rw [if_neg nk]
          obtain ⟨_, _, _, x⟩ := hs7 p pk
          exact x
    · refine ⟨rfl, fun z => ?_, rfl⟩
      rw [z] at eb
      cases eb
    -- the other one wins somewhere
    obtain ⟨rfl, neL, rfl⟩ := hP
    have j01 : (1 : Int) - d % 2 = 0 ∨ (1 : Int) - d % 2 = 1 := by omega
    refine ⟨_, rfl, _, rfl, _, rfl, _, _, rfl, rfl, _, rfl, _, g, ai, L6, 1 - d % 2, A, L, rfl, hg6, hA6, .inl (.inl hL6), ok, ndL, hLA, fun H7 Tr ks2 rk2 sm7 nT hT nd2 hks2 hrk2 => ?_⟩
    have hA7 := sm7 _ _ hA6
    refine ⟨_, rfl, _, rfl, _, rfl, _, _, rfl, rfl, _, rfl, _, g, ai, Tr, 1 - d % 2, A, L, ks2, rk2, rfl, dp_mono sm7 _ _ hg6, hA7, hT, ne_of_none hA6 nT, ok, nd2, hks2, hrk2, hLA, fun H8 D8 f8 sm8 nD8 hD8 pr8 => ?_⟩
    obtain ⟨s8, hs8⟩ := choose_o (X := fun p o => ∃ t, f8 p = .ref t ∧ H8 t = some (.tup [.int (1 - d % 2), optV o]) ∧ LdG g A (1 - d % 2) L rk2 p o) (ks := ks2) fun p hp => let ⟨t, o, a, b, c⟩ := pr8 p hp; ⟨o, t, a, b, c⟩
    have Lks2 : ∀ p ∈ L, p ∈ ks2 := fun p hp => (hks2 p).mpr ⟨0, decide_eq_true hp⟩
    have sm68 := sm7.trans sm8
    have hfr8 := sm68 _ _ hfr6
    have hL8 := sm68 _ _ hL6
    have neD : ∀ {x : Addr} {o : HO}, H' x = some o → x ≠ D8 := fun e => ne_of_none (sm7 _ _ e) nD8
    -- for place in lost: found[place] = far[place]
    refine ⟨_, rfl, L6, rfl, ⟨_, .inl (.inl hL8)⟩, for_list (K := K) (a := L6) (xs := L.map V.int) (fun jj σ H9 => ∃ y : Option V, σ = [some (.ref ag), some (.ref ai), some (.ref ak), some (.int d), some (.int (d % 2)), some (.ref L2), some (.ref Nr), some (.ref fr), some (.ref L6), some (.ref D8), some (.ref Tr), y, none] ∧
        But D8 H8 H9 ∧ H9 D8 = some (.dK (dkOf ks2 fun p => if p ∈ L.take jj then f1 p else f8 p))) ⟨none, rfl, fun _ _ _ e => e, by
          rw [hD8]
          rfl⟩ (fun jj σ H9 _ ⟨_, _, bt, _⟩ => .inl (.inl (bt _ _ (neD hL6) hL8))) (fun jj x σ H9 hj ⟨y, es, bt, hD9⟩ => ?_) (fun σ H9 ⟨y, es, bt, hD9⟩ => ?_)⟩
    · subst es
      rw [List.getElem?_map] at hj
      obtain ⟨p, hp, rfl⟩ := Option.map_eq_some_iff.mp hj
      have pL := List.mem_of_getElem? hp
      have pk1 : p ∈ ks1 := (mem1 p).mpr ((hLm p).mp pL).1
      have st : L.take (jj + 1) = L.take jj ++ [p] := by rw [List.take_add_one, hp]; rfl
      refine ⟨_, rfl, _, rfl, fr, _, rfl, dget_some (.inl (bt _ _ (neD hfr6) hfr8)) pk1, _, rfl, _, rfl, D8, _, rfl, DPut.k (k := Sum.inl p) hD9 ?_, _, rfl, bt.trans But.upd, ?_⟩
      · refine small1000 ?_
        rw [len_dkOf]
        exact Nat.le_trans (few_of nd2 fun p hp => let ⟨k, hk⟩ := (hks2 p).mp hp; PG.lay_in hLA hk) ok.few
      · rw [upd_same]
        refine congrArg (fun z => some (HO.dK z)) (set_dkOf (Lks2 p pL) (fun q hq ne => ?_) ?_)
        · rw [st]
          by_cases z : q ∈ L.take jj
          · rw [if_pos z, if_pos (List.mem_append_left _ z)]
          · rw [if_neg z, if_neg (fun y => (List.mem_append.mp y).elim z fun y => ne (List.mem_singleton.mp y))]
        · rw [st, if_pos (List.mem_append_right _ (List.mem_singleton.mpr rfl))]
    subst es
    rw [List.length_map, List.take_length] at hD9
    have sm69 : Same H' H9 := fun b o e => bt _ _ (neD e) (sm68 _ _ e)
    have nTD : Tr ≠ D8 := ne_of_none hT nD8
    have hT9 : H9 Tr = some (.dK (dkOf ks2 (rkV rk2))) := bt _ _ nTD (sm8 _ _ hT)
    have hA9 := sm69 _ _ hA6
    have neTA : Tr ≠ ai := (ne_of_none hA6 nT).symm
    generalize hCd : A.filter (fun p => decide (p ∉ ks2)) = Cs
    have hCm : ∀ p, p ∈ Cs ↔ p ∈ A ∧ ¬ LedG g A (1 - d % 2) L p := fun p => by rw [← hCd, List.mem_filter, decide_eq_true_eq, hks2 p]
    have okC : PartOk g Cs := by rw [← hCd]; exact ok.sub hks2
    have lC : Cs.length ≤ n := by
      obtain ⟨y, l, ey⟩ := List.exists_cons_of_ne_nil neL
      have yL : y ∈ L := by rw [ey]; exact List.mem_cons_self
      have := PG.len_lt (f := fun p => decide (p ∉ ks2)) (hLA y yL) (decide_eq_false fun z => z (Lks2 y yL))
      rw [hCd] at this
      omega
    have fewC : FewG g Cs N2 := by
      rw [← hCd]
      refine few2 d T _ w1 s1 L _ top condB (by rw [hBd]; exact sol1) (fun p => by rw [hBd]; exact hLm p) neL fun p _ => ?_
      rw [decide_eq_true_eq, hks2 p]
    refine ⟨_, rfl, _, rfl, _, rfl, ai, Tr, A, ks2, rkV rk2, rfl, hA9, hT9, neTA, ok.nd, ok.few, fun H10 Cr sm10 nC hC => ?_⟩
    rw [hCd] at hC
    have s10 : Same H' H10 := sm69.trans sm10
    have hk10 := s10 _ _ hk6
    refine ⟨_, rfl, _, g, Cr, ak, Cs, kvs5, N2, rfl, dp_mono s10 _ _ hg6, ho, hC, hk10, okC, lC, fewC, by omega, kn6.but hk6 (But.of s10), fun H11 lr kvs11 bt11 hk11 hl11 kn11 sol11 => ?_⟩
    obtain ⟨ks3, f3, w3, s3', hlr, nd3, mem3, val3, sol3⟩ := sol11
    have D8ak : D8 ≠ ak := (neD hk6).symm
    have hD11 : H11 D8 = some (.dK (dkOf ks2 fun p => if p ∈ L then f1 p else f8 p)) := bt11 _ _ D8ak (sm10 _ _ hD9)
    -- return {**found, **left}
    refine fun r nr => ⟨_, rfl, D8, dkOf ks2 fun p => if p ∈ L then f1 p else f8 p, rfl, by rw [upd_ne (ne_of_none hD11 nr)]; exact hD11, ne_of_none hD11 nr, upd_same, by rw [len_dkOf]; exact Nat.le_trans (few_of nd2 fun p hp => let ⟨k, hk⟩ := (hks2 p).mp hp; PG.lay_in hLA hk) ok.few, ?_⟩
    have lrr : lr ≠ r := ne_of_none hlr nr
    refine ⟨_, rfl, lr, dkOf ks3 f3, rfl, by rw [upd_ne lrr, upd_ne lrr]; exact hlr, lrr, upd_same, by rw [len_dkOf]; exact Nat.le_trans (few_of nd3 fun p hp => (mem3 p).mp hp) okC.few, ?_⟩
    have dis : ∀ p ∈ ks2, p ∉ ks3 := fun p hp z => ((hCm p).mp ((mem3 p).mp z)).2 ((hks2 p).mp hp)
    have nd23 : (ks2 ++ ks3).Nodup := List.nodup_append.mpr ⟨nd2, nd3, fun a ha b hb e => dis a ha (e ▸ hb)⟩
    let ff : Int → V := fun p => if p ∈ ks2 then (if p ∈ L then f1 p else f8 p) else f3 p
    have em : mergeK (mergeK [] (dkOf ks2 fun p => if p ∈ L then f1 p else f8 p)) (dkOf ks3 f3) = dkOf (ks2 ++ ks3) ff := by
      rw [merge_nil nd2, show (dkOf ks2 fun p => if p ∈ L then f1 p else f8 p) = dkOf ks2 ff from List.map_congr_left fun p hp => by show (_, (if p ∈ L then f1 p else f8 p)) = (_, ff p); rw [show ff p = (if p ∈ L then f1 p else f8 p) from if_pos hp]]
      exact merge_dk ks3 ks2 nd23 fun p hp => if_neg fun z => dis p z hp
    rw [em]
    have sm12 : Same H11 (upd (upd (upd H11 r (.dK [])) r (.dK (mergeK [] (dkOf ks2 fun p => if p ∈ L then f1 p else f8 p)))) r (.dK (dkOf (ks2 ++ ks3) ff))) := fun b o e => by
      have nb := ne_of_none e nr
      rw [upd_ne nb, upd_ne nb, upd_ne nb]
      exact e
    have b11 : But ak H' H11 := (But.of s10).trans bt11
    have keep : ∀ {t : Addr} {xs : List V}, H' t = some (.tup xs) → H11 t = some (.tup xs) := fun e => b11 _ _ (ne_of e hk6 fun z => nomatch z) e
    refine q _ r kvs11 (b6.trans (b11.trans (But.of sm12))) (sm12 _ _ hk11) (by omega) (kn11.but hk11 (But.of sm12)) ⟨ks2 ++ ks3, ff, fun p => if p ∈ ks2 then 1 - d % 2 else w3 p, fun p => if p ∈ L then s1 p else if p ∈ ks2 then s8 p else s3' p, upd_same, nd23, fun p => ?_, fun p hp => ?_, ?_⟩
    · rw [List.mem_append, mem3 p, hCm p, hks2 p]
      constructor
      · rintro (⟨k, hk⟩ | z)
        · exact PG.lay_in hLA hk
        · exact z.1
      · intro z
        by_cases y : LedG g A (1 - d % 2) L p
        · exact .inl y
        · exact .inr ⟨z, y⟩
    · show ∃ t, ff p = .ref t ∧ _ = some (HO.tup [.int (if p ∈ ks2 then 1 - d % 2 else w3 p), optV (if p ∈ L then s1 p else if p ∈ ks2 then s8 p else s3' p)])
      by_cases z : p ∈ ks2
      · rw [if_pos z, show ff p = (if p ∈ L then f1 p else f8 p) from if_pos z]
        by_cases y : p ∈ L
        · obtain ⟨pb, pw⟩ := (hLm p).mp y
          obtain ⟨t, e, ht⟩ := val6 p pb
          have wj : w1 p = 1 - d % 2 := by
            have := sol1.zo p pb
            omega
          refine ⟨t, by rw [if_pos y]; exact e, ?_⟩
          rw [if_pos y, sm12 _ _ (keep ht), wj]
        · obtain ⟨t, e, ht, _⟩ := hs8 p z
          have ntD : t ≠ D8 := ne_of ht hD8 fun z => nomatch z
          have ntk : t ≠ ak := ne_of ht (sm68 _ _ hk6) fun z => nomatch z
          refine ⟨t, by rw [if_neg y]; exact e, ?_⟩
          rw [if_neg y, if_pos z, sm12 _ _ (bt11 _ _ ntk (sm10 _ _ (bt _ _ ntD ht)))]
      · have nl : p ∉ L := fun y => z (Lks2 p y)
        have pc : p ∈ Cs := (hCm p).mpr ⟨hp, fun l => z ((hks2 p).mpr l)⟩
        obtain ⟨t, e, ht⟩ := val3 p pc
        refine ⟨t, (if_neg z).trans e, ?_⟩
        rw [if_neg z, if_neg nl, if_neg z, sm12 _ _ ht]
    · have nk2 : ∀ p ∈ Cs, p ∉ ks2 := fun p hp z => ((hCm p).mp hp).2 ((hks2 p).mp z)
      refine PG.SolM.two (i := d % 2) (j := 1 - d % 2) (T := T) (B := Bs) (L := L) (C := Cs) (rk := rk2) (w1 := w1) (w2 := w3) (s1 := s1) (s2 := s3') (N := []) (rn := rk) i01 rfl (fun p hp => ho p (ok.inG p hp)) hBm sol1 hLm hrk2 hCm sol3 (fun p l nl => ?_) (fun p hp => if_pos hp) (fun p hp => ?_) (fun p l => if_pos ((hks2 p).mpr l)) (fun p hp => if_neg (nk2 p hp))
      · show LdG g A (1 - d % 2) L rk2 p (if p ∈ L then s1 p else if p ∈ ks2 then s8 p else s3' p)
        have pk := (hks2 p).mpr l
        rw [if_neg nl, if_pos pk]
        obtain ⟨_, _, _, x⟩ := hs8 p pk
        exact x
      · show (if p ∈ L then s1 p else if p ∈ ks2 then s8 p else s3' p) = s3' p
        rw [if_neg fun y => nk2 p hp (Lks2 p y), if_neg (nk2 p hp)]
end
end G

namespace G
open PySem PySem.Spec PyProof.Rows L2
abbrev s_least_numbers : Stmt := topS 34
theorem sc_least_numbers : FnScope ["numbers", "least", "now", "number"] ["numbers"] (defScope s_least_numbers) := ⟨rfl, rfl, rfl, by decide +kernel, rfl, by decide +kernel, by decide +kernel⟩
abbrev s_lean : Stmt := topS 33
theorem sc_lean : FnScope ["game", "least", "row", "player", "number", "ways"] ["game"] (defScope s_lean) := ⟨rfl, rfl, rfl, by decide +kernel, rfl, by decide +kernel, by decide +kernel⟩
theorem max_in : ∀ {l : List Int}, l ≠ [] → ∃ u ∈ l, ∀ y ∈ l, y ≤ u := fun {l} h => ⟨maxL l, (maxL_spec h).1, (maxL_spec h).2⟩
/-- one number more, none less than the others -/
theorem LeanP.same {l ks : List Int} {lf : Int → Int} {now x : Int} (h : LeanP l ks lf now) (hx : x ∈ l) (hm : ∀ y ∈ l, y ≤ x) : LeanP (l ++ [x]) ks lf now ∧ x % 2 = now % 2 ∧ lf x = now := by
  have m : ∀ y, y ∈ l ++ [x] ↔ y ∈ l := fun y => by
    rw [List.mem_append, List.mem_singleton]
    exact ⟨fun z => z.elim id fun e => e ▸ hx, .inl⟩
  have e := h.now1 x hx hm
  refine ⟨⟨fun y => (h.mem y).trans (m y).symm, h.nd, fun z => by simp at z, fun y hy hy2 => h.now1 y ((m y).mp hy) fun z hz => hy2 z ((m z).mpr hz), fun y hy => h.odd y ((m y).mp hy), fun a ha b hb => h.up a ((m a).mp ha) b ((m b).mp hb), fun y hy hy2 => h.first y ((m y).mp hy) fun z hz => hy2 z ((m z).mpr hz),
    fun a ha b hb lt hz => h.next a ((m a).mp ha) b ((m b).mp hb) lt fun z hz' => hz z ((m z).mpr hz')⟩, ?_, e.symm⟩
  rw [e, h.odd x hx]
theorem LeanP.more {l ks : List Int} {lf : Int → Int} {now x : Int} (h : LeanP l ks lf now) (hx : x ∉ l) (hm : ∀ y ∈ l, y ≤ x) (n2 : Int) (hn : n2 = if x % 2 ≠ now % 2 then now + 1 else now) : LeanP (l ++ [x]) (ks ++ [x]) (fun y => if y = x then n2 else lf y) n2 := by
  have lt : ∀ y ∈ l, y < x := fun y hy => by
    have := hm y hy
    have : y ≠ x := fun e => hx (e ▸ hy)
    omega
  have ne : ∀ y ∈ l, y ≠ x := fun y hy e => hx (e ▸ hy)
  have m : ∀ y, y ∈ l ++ [x] ↔ y ∈ l ∨ y = x := fun y => by rw [List.mem_append, List.mem_singleton]
  have fx : (fun y : Int => if y = x then n2 else lf y) x = n2 := if_pos rfl
  have fl : ∀ y ∈ l, (fun y : Int => if y = x then n2 else lf y) y = lf y := fun y hy => if_neg (ne y hy)
  generalize (fun y => if y = x then n2 else lf y) = F at fx fl ⊢
  have par : n2 % 2 = x % 2 := by
    rw [hn]
    by_cases e : x % 2 ≠ now % 2
    · rw [if_pos e]; omega
    · rw [if_neg e]; omega
  have le : ∀ y ∈ l, lf y ≤ n2 := fun y hy => by
    obtain ⟨u, hu, hu2⟩ := max_in (l := l) (fun e => by rw [e] at hy; cases hy)
    have h1 := h.up y hy u hu (hu2 y hy)
    have h2 := h.now1 u hu hu2
    have : now ≤ n2 := by
      rw [hn]
      by_cases e : x % 2 ≠ now % 2
      · rw [if_pos e]; omega
      · rw [if_neg e]; omega
    omega
  refine ⟨fun y => ?_, ?_, fun z => by simp at z, fun y hy hy2 => ?_, fun y hy => ?_, fun a ha b hb hab => ?_, fun y hy hy2 => ?_, fun a ha b hb hab hz => ?_⟩
  · rw [List.mem_append, List.mem_append, h.mem y]
  · exact nodup_snoc h.nd fun z => hx ((h.mem x).mp z)
  · rcases (m y).mp hy with z | z
    · have := hy2 x ((m x).mpr (.inr rfl))
      have := lt y z
      omega
    · rw [z]; exact fx.symm
  · rcases (m y).mp hy with z | z
    · rw [fl y z]; exact h.odd y z
    · rw [z, fx]; exact par
  · rcases (m a).mp ha with z | z
    · rcases (m b).mp hb with y | y
      · rw [fl a z, fl b y]; exact h.up a z b y hab
      · rw [y, fx, fl a z]; exact le a z
    · rcases (m b).mp hb with y | y
      · have := lt b y
        omega
      · rw [y, z]; exact Int.le_refl _
  · rcases (m y).mp hy with z | z
    · rw [fl y z]; exact h.first y z fun w hw => hy2 w ((m w).mpr (.inl hw))
    · have emp : l = [] := by
        cases hl : l with
        | nil => rfl
        | cons a b =>
          have ha : a ∈ l := by rw [hl]; exact List.mem_cons_self
          have h1 := hy2 a ((m a).mpr (.inl ha))
          have := lt a ha
          omega
      rw [z, fx, hn, h.now0 emp]
      by_cases e : x % 2 ≠ 0 % 2
      · rw [if_pos e]; omega
      · rw [if_neg e]; omega
  · rcases (m a).mp ha with z | z
    · rcases (m b).mp hb with y | y
      · rw [fl a z, fl b y]; exact h.next a z b y hab fun w hw => hz w ((m w).mpr (.inl hw))
      · rw [y, fx, fl a z]
        have am : ∀ w ∈ l, w ≤ a := fun w hw => by
          rcases hz w ((m w).mpr (.inl hw)) with q | q
          · exact q
          · have := lt w hw
            omega
        have e := h.now1 a z am
        have o := h.odd a z
        rw [hn, e]
        by_cases e2 : x % 2 ≠ lf a % 2
        · rw [if_pos e2]; omega
        · rw [if_neg e2]; omega
    · rcases (m b).mp hb with y | y
      · have := lt b y
        omega
      · omega
section
variable {P : Program} {w : World} {K : PySem.W.Frag} {mg : Str → Option Value} {base : Heap}
def spLeast (K : PySem.W.Frag) : Sp := fun vs H Q _ => ∃ (a : Addr) (ns : List Int), vs = [.ref a] ∧ SqL K H a (ns.map V.int) ∧ ns.length ≤ 1000 ∧ ∀ H' D ks lf now l, Same H H' → H D = none → H' D = some (.dK (dkOf ks fun x => .int (lf x))) → LeanP l ks lf now → (∀ x, x ∈ l ↔ x ∈ ns) → Q (.ref D) H'
theorem ok_least_numbers {f : Addr} {fd : FuncData} (B : Bt mg) (F : Fun K "least_numbers" "least_numbers" s_least_numbers f fd) : FnOk P w K mg base (L2.CX P w) 1 f fd ["numbers"] (spLeast K) := by
  refine F.okX sc_least_numbers (fun vs H Q E h => ?_) (fun cdv Ar outer s H vs Q E hr h => ?_)
  · obtain ⟨a, ns, rfl, _⟩ := h
    rfl
  · obtain ⟨a, ns, rfl, hS, hz, q⟩ := h
    refine ⟨_, (pss_cons (ps_set (i := 1) sc_least_numbers.nd rfl (Or.inl rfl) pe_dnewK)
      (pss_cons (ps_set (i := 2) sc_least_numbers.nd rfl (Or.inl rfl) pe_int)
      (pss_cons (ps_for (passes_of rfl) rfl (pi_list (pe_callB cr_sortedI (by rfl) B.sorted_ (by decide +kernel) (pa_cons (pv 0) pa_nil))) (pg_name (i := 3) sc_least_numbers.nd rfl (Or.inl rfl)) (pss_cons (ps_if (pt_cmpR op_ne (pe_op op_mod (pv 3) pe_int) (pe_op op_mod (pv 2) pe_int) (nomark _)) (pss_one (ps_aug (i := 2) sc_least_numbers.nd rfl (Or.inl rfl) pe_int ip_add)) pss_nil)
      (pss_one (ps_dput (hu_of hr) (pv 1) (pv 3) (pv 2) rfl))))
      (pss_one (ps_ret (pv 1)))))), ?_⟩
    refine fun D nD => ?_
    refine ⟨_, rfl, a, ns, rfl, (same_upd nD).seq hS, fun ss L pm so nL => ⟨L, rfl, ⟨_, .inl (.inl upd_same)⟩, ?_⟩⟩
    have sD : Same H (upd H D (.dK [])) := same_upd nD
    have LD : D ≠ L := fun e => by
      rw [← e, upd_same] at nL
      cases nL
    have nLH : H L = none := Same.free sD nL
    have hle : ∀ (j : Nat) (x : Int), ss[j]? = some x → ∀ y ∈ ss.take j, y ≤ x := fun j x hx y hy => by
      have e : ss = ss.take j ++ ss.drop j := (List.take_append_drop j ss).symm
      rw [e, List.pairwise_append] at so
      refine so.2.2 y hy x ?_
      have : (ss.drop j)[0]? = some x := by rw [List.getElem?_drop, Nat.add_zero]; exact hx
      exact List.mem_of_getElem? this
    have hlen : ss.length ≤ 1000 := by rw [pm.length_eq]; exact hz
    refine for_list (K := K) (a := L) (xs := ss.map V.int) (fun j σ H' => ∃ (ks : List Int) (lf : Int → Int) (now : Int) (y3 : Option V), σ = [some (.ref a), some (.ref D), some (.int now), y3] ∧ Same H H' ∧ H' L = some (.lst (ss.map V.int)) ∧ H' D = some (.dK (dkOf ks fun x => .int (lf x))) ∧ LeanP (ss.take j) ks lf now)
      ⟨[], fun _ => 0, 0, none, rfl, sD.trans (same_upd nL), upd_same, by rw [upd_ne LD, upd_same]; rfl, ?_⟩ (fun j σ H' _ ⟨_, _, _, _, _, _, h, _⟩ => .inl (.inl h)) (fun j x σ H' hj ⟨ks, lf, now, y3, es, sm, hL, hD, hp⟩ => ?_) (fun σ H' ⟨ks, lf, now, y3, es, sm, hL, hD, hp⟩ => ?_)
    · exact ⟨fun _ => Iff.rfl, List.nodup_nil, fun _ => rfl, (fun x hx => nomatch hx), (fun x hx => nomatch hx), (fun x hx => nomatch hx), (fun x hx => nomatch hx), (fun x hx => nomatch hx)⟩
    · subst es
      rw [List.getElem?_map] at hj
      obtain ⟨x, hx, rfl⟩ := Option.map_eq_some_iff.mp hj
      have st : ss.take (j + 1) = ss.take j ++ [x] := by rw [List.take_add_one, hx]; rfl
      have lx := hle j x hx
      have hlk : (dkOf ks fun x => V.int (lf x)).length < sizeLine := by
        refine small1000 ?_
        rw [len_dkOf]
        have := few_of hp.nd fun p hp' => (hp.mem p).mp hp'
        have h2 : (ss.take j).length ≤ ss.length := by rw [List.length_take]; omega
        omega
      refine ⟨_, rfl, _, _, rfl, rfl, (by show (0:Int) < 2; decide), _, rfl, _, _, rfl, rfl, (by show (0:Int) < 2; decide), rfl, _, rfl, ?_⟩
      have ed : (!decide (V.int (x % 2) = V.int (now % 2))) = decide (x % 2 ≠ now % 2) := by
        rw [← decide_not]
        exact decide_eq_decide.mpr ⟨fun z y => z (congrArg V.int y), fun z y => z (V.int.inj y)⟩
      rw [ed]
      refine if_key (fun σ' H'' => H'' = H' ∧ σ' = [some (.ref a), some (.ref D), some (.int (if x % 2 ≠ now % 2 then now + 1 else now)), some (.int x)]) (fun eb key => ?_) (fun eb => ?_) (fun σ' H'' hP => ?_)
      · have e := of_decide_eq_true eb
        exact ⟨_, rfl, _, _, rfl, rfl, key _ _ ⟨rfl, by rw [if_pos e]; rfl⟩⟩
      · have e := of_decide_eq_false eb
        exact ⟨rfl, by rw [if_neg e]; rfl⟩
      · obtain ⟨rfl, rfl⟩ := hP
        refine ⟨_, rfl, _, rfl, _, rfl, D, _, rfl, DPut.k (k := Sum.inl x) hD hlk, ?_⟩
        have sm2 : Same H (upd H'' D (.dK (putK (dkOf ks fun x => V.int (lf x)) (Sum.inl x) (.int (if x % 2 ≠ now % 2 then now + 1 else now))))) := fun b o e => by
          rw [upd_ne (ne_of_none e nD)]
          exact sm _ _ e
        by_cases z : x ∈ ss.take j
        · obtain ⟨h1, h2, h3⟩ := hp.same z lx
          have e : (if x % 2 ≠ now % 2 then now + 1 else now) = now := if_neg fun y => y h2
          rw [e] at sm2 ⊢
          exact ⟨ks, lf, now, _, rfl, sm2, by rw [upd_ne LD.symm]; exact hL, by rw [upd_same, set_dkOf (g := fun x => .int (lf x)) ((hp.mem x).mpr z) (fun _ _ _ => rfl) (by show V.int (lf x) = _; rw [h3])], by rw [st]; exact h1⟩
        · have h1 := hp.more z lx _ rfl
          refine ⟨_, _, _, _, rfl, sm2, by rw [upd_ne LD.symm]; exact hL, ?_, by rw [st]; exact h1⟩
          rw [upd_same, put_dkOf (g := fun y => .int (if y = x then (if x % 2 ≠ now % 2 then now + 1 else now) else lf y)) (fun y => z ((hp.mem x).mp y)) (fun y hy => ?_) ?_]
          · show V.int (if x = x then _ else lf x) = _
            rw [if_pos rfl]
          · show V.int (if y = x then _ else lf y) = V.int (lf y)
            rw [if_neg fun e => z (by rw [← e]; exact (hp.mem y).mp hy)]
    · subst es
      rw [List.length_map, List.take_length] at hp
      exact ⟨_, rfl, q H' D ks lf now ss sm nD hD hp fun x => pm.mem_iff⟩
end
end G

namespace G
open PySem PySem.Spec PyProof.Rows L2
abbrev s_settled : Stmt := topS 37
theorem sc_settled : FnScope ["game", "found", "place"] ["game"] (defScope s_settled) := ⟨rfl, rfl, rfl, by decide +kernel, rfl, by decide +kernel, by decide +kernel⟩
abbrev s_won : Stmt := topS 36
theorem sc_won : FnScope ["game", "winner", "_"] ["game"] (defScope s_won) := ⟨rfl, rfl, rfl, by decide +kernel, rfl, by decide +kernel, by decide +kernel⟩
/-! ### rows made anew -/
/-- at D a new list of new rows -/
structure FreshRows (H H' : Hp) (D : Addr) (ts : List Addr) (gs : List Row) : Prop where
  lst : H' D = some (.lst (ts.map V.ref))
  len : ts.length = gs.length
  row : ∀ (i : Nat) (r : Row), gs[i]? = some r → ∃ t w, ts[i]? = some t ∧ H t = none ∧ H w = none ∧ H' t = some (.tup [.int r.p, .int r.n, .ref w]) ∧ H' w = some (.lst (r.ws.map V.int)) ∧ t ≠ D ∧ w ≠ D
theorem dpAll_of {K : PySem.W.Frag} {H : Hp} : ∀ {vs : List V} {ds : List PyData}, vs.length = ds.length → (∀ (i : Nat) v d, vs[i]? = some v → ds[i]? = some d → Dp K H v d) → DpAll K H vs ds
  | [], [], _, _ => .nil
  | v :: vs, d :: ds, hl, h => .cons (h 0 v d rfl rfl) (dpAll_of (by simpa using hl) fun i v d a b => h (i + 1) v d a b)
  | [], _ :: _, hl, _ => by simp at hl
  | _ :: _, [], hl, _ => by simp at hl
theorem FreshRows.dp {K : PySem.W.Frag} {H H' : Hp} {D : Addr} {ts : List Addr} {gs : List Row} (h : FreshRows H H' D ts gs) : Dp K H' (.ref D) (gameD gs) := by
  refine .lst (.inl (.inl h.lst)) (dpAll_of (by rw [List.length_map, List.length_map]; exact h.len) fun i v d hv hd => ?_)
  rw [List.getElem?_map] at hv hd
  obtain ⟨t, ht, rfl⟩ := Option.map_eq_some_iff.mp hv
  obtain ⟨r, hr, rfl⟩ := Option.map_eq_some_iff.mp hd
  obtain ⟨t2, w, e, _, _, h1, h2, _⟩ := h.row i r hr
  rw [ht] at e
  cases e
  exact .tup (.inl (.inl h1)) (.cons (.int _) (.cons (.int _) (.cons (.lst (.inl (.inl h2)) (dpa_ints' _)) .nil)))
theorem lc_rows {K : PySem.W.Frag} {a : Addr} {xs : List V} {g : TG} {te : TE} {vs : List Nat} {σ : L2.St} {H1 : Hp} {D : Addr} {Qd : Hp → Prop} (gs : List Row) (hl : gs.length = xs.length) (hS : SqL K H1 a xs) (nD : H1 D = none) (hz : xs.length ≤ 1000)
    (hs : ∀ (i : Nat) (x : V) (r : Row) (H : Hp) (Q : VK), xs[i]? = some x → gs[i]? = some r → Same H1 H → (∀ H' T l, Same H H' → H T = none → H l = none → H' T = some (.tup [.int r.p, .int r.n, .ref l]) → H' l = some (.lst (r.ws.map V.int)) → Q (.ref T) H') → g x (wipe σ vs) H fun σ2 H2 => wipe σ2 vs = wipe σ vs ∧ te σ2 H2 Q)
    (hd : ∀ H ts, Same H1 H → FreshRows H1 H D ts gs → Qd H) :
    ∃ W : Nat → Nat → Hp → Prop, (∃ m, W 0 m (upd H1 D (.lst []))) ∧ ∀ i m H, W i m H →
      ((Itl K a).stop i H ∧ Qd H) ∨ ((Itl K a).go i H ∧ ∃ Nx : Hp → Prop, (∀ H', Nx H' → ∃ m', m' < m ∧ W (i + 1) m' H') ∧ ∀ x H', (Itl K a).yld i H x H' → g x (wipe σ vs) H' fun σ2 H2 => wipe σ2 vs = wipe σ vs ∧ tYes σ2 H2 fun b H3 =>
        if b = true then te σ2 H3 fun y H4 => ∃ acc, H4 D = some (.lst acc) ∧ acc.length < sizeLine ∧ Nx (upd H4 D (.lst (acc ++ [y]))) else Nx H3) := by
  refine lc_list (K := K) (a := a) (xs := xs) (fun i H => Same H1 H ∧ ∃ ts, FreshRows H1 H D ts (gs.take i)) ⟨same_upd nD, [], by rw [upd_same]; rfl, rfl, fun i r h => by cases h⟩ (fun i H _ p => p.1.seq hS) (fun i x H hi ⟨sm, ts, fr⟩ => ?_) (fun H ⟨sm, ts, fr⟩ => ?_)
  · have hlt : i < gs.length := by rw [hl]; exact (List.getElem?_eq_some_iff.mp hi).1
    have hr : gs[i]? = some gs[i] := List.getElem?_eq_getElem hlt
    have hlen : ts.length = i := by
      have := fr.len
      rw [List.length_take] at this
      omega
    refine hs i x gs[i] H _ hi hr sm (fun H' T l s nT nl hT hL => ⟨_, s _ _ fr.lst, ?_, fun b o e => ?_, ts ++ [T], ?_, ?_, fun j r hj => ?_⟩)
    · rw [List.length_map, hlen]
      exact small1000 (by omega)
    · rw [upd_ne (ne_of_none e nD)]
      exact s _ _ (sm _ _ e)
    · rw [upd_same, List.map_append]
      rfl
    · rw [List.length_append, List.length_singleton, hlen, List.length_take]
      omega
    · rw [List.take_add_one, hr] at hj
      have TD : T ≠ D := fun e => by rw [e, fr.lst] at nT; cases nT
      have lD : l ≠ D := fun e => by rw [e, fr.lst] at nl; cases nl
      by_cases z : j < i
      · have lt : (gs.take i).length = i := by rw [List.length_take]; omega
        rw [List.getElem?_append_left (by omega)] at hj
        obtain ⟨t, w, e, h1, h2, h3, h4, h5, h6⟩ := fr.row j r hj
        exact ⟨t, w, by rw [List.getElem?_append_left (by omega)]; exact e, h1, h2, by rw [upd_ne h5]; exact s _ _ h3, by rw [upd_ne h6]; exact s _ _ h4, h5, h6⟩
      · have lt : (gs.take i).length = i := by rw [List.length_take]; omega
        rw [List.getElem?_append_right (by omega), lt] at hj
        have e0 : j - i = 0 := by
          have := (List.getElem?_eq_some_iff.mp hj).1
          simp at this
          omega
        rw [e0] at hj
        cases hj
        refine ⟨T, l, ?_, Same.free sm nT, Same.free sm nl, by rw [upd_ne TD]; exact hT, by rw [upd_ne lD]; exact hL, TD, lD⟩
        rw [List.getElem?_append_right (by omega), hlen, e0]
        rfl
  · rw [← hl, List.take_length] at fr
    exact hd H ts sm fr
section
variable {P : Program} {w : World} {K : PySem.W.Frag} {mg : Str → Option Value} {base : Heap}
def spLean (K : PySem.W.Frag) (BG : Addr) : Sp := fun vs H Q E => ∃ (v : V) (d : PyData), vs = [v] ∧ Dx K H v d ∧ szGame d ∧ (∀ g, d = gameD g → ValidG g → ∀ H' D ts lf, Same H H' → H D = none → FreshRows H H' D ts (g.map (relean lf)) → LeanOf g lf → Q (.ref D) H') ∧ ∀ e, gameErr d = some e → EBad H BG e E
theorem ok_lean {f BG : Addr} {fd : FuncData} (B : Bt mg) (F : Fun K "lean" "lean" s_lean f fd) (C_check_game : Cal P w K mg base 6 "check_game" (spCheckGame K BG)) (C_least_numbers : Cal P w K mg base 1 "least_numbers" (spLeast K)) : FnOk P w K mg base (L2.CX P w) 7 f fd ["game"] (spLean K BG) := by
  refine F.okX sc_lean (fun vs H Q E h => ?_) (fun cdv Ar outer s H vs Q E hr h => ?_)
  · obtain ⟨v, d, rfl, _⟩ := h
    rfl
  · obtain ⟨v, d, rfl, hd, hz, q, qe⟩ := h
    refine ⟨_, (pss_cons (ps_expr (pe_calX C_check_game hr (by decide) (takes_of rfl rfl rfl rfl) (by rfl) (pa_cons (pv 0) pa_nil)))
      (pss_cons (ps_set (i := 1) sc_lean.nd rfl (Or.inr rfl) (pe_cal C_least_numbers hr (by decide) (by rfl) (pa_cons (pe_lc (own := [("row", 2)]) (by rfl) sc_lean.nd (pi_list (pv 0)) (blkOk_by (own := [("row", 2)]) (N := ["game", "least", "row", "player", "number", "ways"]) (sc := defScope s_lean) (by decide +kernel)) (fun _ _ _ _ _ => (pg_name (i := 2) sc_lean.nd rfl (Or.inl rfl))) (fun _ _ _ _ _ => pts_nil) (fun _ _ _ _ _ => (pe_ix (kr_ix_tup (K := K) rfl) (pv 2) pe_int (fun _ _ => rfl)))) pa_nil)))
      (pss_one (ps_ret (pe_lc (own := [("player", 3), ("number", 4), ("ways", 5)]) (by rfl) sc_lean.nd (pi_list (pv 0)) (blkOk_by (own := [("player", 3), ("number", 4), ("ways", 5)]) (N := ["game", "least", "row", "player", "number", "ways"]) (sc := defScope s_lean) (by decide +kernel)) (fun _ _ _ _ _ => (kr_pg_tup (K := K) (n := 3) (by rfl) (by rfl) (pgs_cons (pg_name (i := 3) sc_lean.nd rfl (Or.inl rfl)) (pgs_cons (pg_name (i := 4) sc_lean.nd rfl (Or.inl rfl)) (pgs_cons (pg_name (i := 5) sc_lean.nd rfl (Or.inl rfl)) pgs_nil))))) (fun _ _ _ _ _ => pts_nil) (fun _ _ _ _ _ => (pe_tup (pa_cons (pv 3) (pa_cons (pe_dget (hu_of hr) (pv 1) (pv 4) (fun _ _ => rfl)) (pa_cons (pe_callTy (kr_call_list_of (K := K) rfl) (by rfl) B.list_ (by decide +kernel) (pa_cons (pv 5) pa_nil)) pa_nil)))))))))), ?_⟩
    refine ⟨_, rfl, v, d, rfl, hd, hz, fun e0 H1 sm1 => ?_, fun e he => qe e he⟩
    obtain ⟨g, rfl, hv⟩ := game_of e0
    have hG0 : Dp K H v (gameD g) := by cases hd with | of h => exact h
    obtain ⟨ag, xg, rfl, hG, hGl, hGr⟩ := dp_game hG0
    have hz : xg.length ≤ 1000 := by have := hv.1; omega
    refine ⟨_, rfl, ag, rfl, ⟨_, sm1.seq hG⟩, fun D0 nD0 => lc_pure ((g.map Row.n).map V.int) (by rw [List.length_map, List.length_map, hGl]) (sm1.seq hG) nD0 hz (fun i x y H' Q' hx hy sm hQ => ?_) (fun H2 sm2 hD0 => ⟨D0, g.map Row.n, rfl, .inl (.inl hD0), by rw [List.length_map]; omega, fun H3 D lf2ks lf now l sm3 nD hD hp hm => ?_⟩)⟩
    · rw [List.getElem?_map, List.getElem?_map] at hy
      obtain ⟨n, hn, rfl⟩ := Option.map_eq_some_iff.mp hy
      obtain ⟨r, hr0, rfl⟩ := Option.map_eq_some_iff.mp hn
      obtain ⟨t, wy, ht, hT, hW⟩ := hGr i r hr0
      rw [hx] at ht
      cases ht
      exact ⟨rfl, _, rfl, t, _, 1, _, rfl, rfl, same_sqt (sm1.trans sm) hT, atI_nat (j := 1) rfl, hQ _ (Same.refl _)⟩
    · have s3 : Same H H3 := sm1.trans (sm2.trans sm3)
      refine ⟨_, rfl, ag, rfl, ⟨_, s3.seq hG⟩, fun R nR => lc_rows (g.map (relean lf)) (by rw [List.length_map, hGl]) (s3.seq hG) nR hz (fun i x r H4 Q' hx hr1 sm4 hQ => ?_) (fun H4 ts sm4 fr => q g rfl hv H4 R ts lf (s3.trans sm4) (Same.free s3 nR) ⟨fr.lst, fr.len, fun i r hr => ?_⟩ ⟨l, lf2ks, now, hp, hm⟩)⟩
      · rw [List.getElem?_map] at hr1
        obtain ⟨r0, hr0, rfl⟩ := Option.map_eq_some_iff.mp hr1
        obtain ⟨t, wy, ht, hT, hW⟩ := hGr i r0 hr0
        rw [hx] at ht
        cases ht
        have s4 := s3.trans sm4
        have nk : r0.n ∈ lf2ks := (hp.mem _).mpr ((hm _).mpr (List.mem_map_of_mem (List.mem_of_getElem? hr0)))
        refine ⟨t, _, rfl, same_sqt s4 hT, rfl, _, _, rfl, _, _, rfl, _, _, rfl, rfl, rfl, _, rfl, _, rfl, _, rfl, D, _, rfl, dget_some (.inl (sm4 _ _ hD)) nk, _, rfl, wy, _, rfl, .inl (s4.seq hW), fun L nL => ⟨(by show 3 ≤ sizeLine; decide), fun T nT => hQ _ T L ((same_upd nL).trans (same_upd nT)) ?_ nL upd_same ?_⟩⟩
        · exact Same.free (same_upd nL) nT
        · have : L ≠ T := fun e => by rw [← e, upd_same] at nT; cases nT
          rw [upd_ne this, upd_same]
          rfl
      · obtain ⟨t, w', e, h1, h2, h3⟩ := fr.row i r hr
        exact ⟨t, w', e, Same.free s3 h1, Same.free s3 h2, h3⟩
/-- pairs of winners and steps -/
def spSettled (K : PySem.W.Frag) (BG : Addr) : Sp := fun vs H Q E => ∃ (v : V) (d : PyData), vs = [v] ∧ Dx K H v d ∧ szGame d ∧ (∀ g, d = gameD g → ValidG g → FewOk g ∧ ∀ H' D vs ws ss, Same H H' → H D = none → H' D = some (.lst vs) → vs.length = g.length → (∀ i : Nat, i < g.length → ∃ t, vs[i]? = some (.ref t) ∧ H' t = some (.tup [.int (ws i), optV (ss i)])) → SolOk g ((upto g.length).map ws) ((upto g.length).map ss) → Q (.ref D) H') ∧ ∀ e, gameErr d = some e → EBad H BG e E
theorem solOk_of {g : List Row} {lf : Int → Int} {w : Int → Int} {s : Int → Option Int} (hv : ValidG g) (hl : LeanOf g lf) (h : PG.SolM (ownAt g) (numAt (g.map (relean lf))) (wsOf g) (upto g.length) w s) : SolOk g ((upto g.length).map w) ((upto g.length).map s) := by
  have inU : ∀ p, InG g p → p ∈ upto g.length := fun p hp => mem_upto.mpr hp
  have getU : ∀ p, InG g p → (upto g.length)[p.toNat]? = some p := fun p hp => by
    unfold upto
    unfold InG at hp
    rw [List.getElem?_map, List.getElem?_range (by omega)]
    show some ((p.toNat : Nat) : Int) = some p
    congr 1
    omega
  have wA : ∀ p, InG g p → wAt ((upto g.length).map w) p = w p := fun p hp => by
    unfold wAt
    rw [List.getElem?_map, getU p hp]
    rfl
  have sA : ∀ p, InG g p → ((upto g.length).map s)[p.toNat]? = some (s p) := fun p hp => by
    rw [List.getElem?_map, getU p hp]
    rfl
  have stA : ∀ p, InG g p → stepAt ((upto g.length).map s) p = (s p).getD 0 := fun p hp => by
    unfold stepAt
    rw [sA p hp]
    rfl
  obtain ⟨l, ks, now, hp, hm⟩ := hl
  have inl : ∀ p, InG g p → numAt g p ∈ l := fun p h => by
    obtain ⟨r, hr, _, e, _⟩ := row_at h
    rw [e]
    exact (hm _).mpr (List.mem_map_of_mem (List.mem_of_getElem? hr))
  refine ⟨by rw [List.length_map, len_upto], by rw [List.length_map, len_upto], fun p hp => by rw [wA p hp]; exact h.zo p (inU p hp), fun p hp o => ?_, fun p hp o => ?_, fun i hi => ?_⟩
  · rw [wA p hp] at o
    obtain ⟨q, e⟩ := h.has p (inU p hp) o
    exact ⟨q, by rw [sA p hp, e]⟩
  · rw [wA p hp] at o
    rw [sA p hp, h.oth p (inU p hp) o]
  · have g1 := h.good i hi
    have g2 := g1.lift (fun p z => z.1) (fun p q z o hq => by
      obtain ⟨r, hr, _, _, e⟩ := row_at (g := g) (mem_upto.mp z.1)
      have hq' : q ∈ wsOf g p := hq
      rw [e] at hq'
      exact mem_upto.mpr ((hv.2 r (List.mem_of_getElem? hr)).2.2.2.1 q hq'))
    have g3 : PG.Good (gm g) i (fun p => p ∈ upto g.length ∧ w p = i) (fun p => (s p).getD 0) := by
      refine PG.Good.back (num' := numAt (g.map (relean lf))) g2 (fun p q a b hle => ?_) (fun p a => ?_)
      · have hle' : numAt g p ≤ numAt g q := hle
        rw [num_relean (mem_upto.mp a.1), num_relean (mem_upto.mp b.1)]
        exact hp.up _ (inl p (mem_upto.mp a.1)) _ (inl q (mem_upto.mp b.1)) hle'
      · rw [num_relean (mem_upto.mp a.1)]
        exact hp.odd _ (inl p (mem_upto.mp a.1))
    refine (g3.iff fun p => ?_).congr fun p a _ => (stA p a.1).symm
    constructor
    · intro z
      have := mem_upto.mp z.1
      exact ⟨this, by rw [wA p this]; exact z.2⟩
    · intro z
      exact ⟨inU p z.1, by rw [← wA p z.1]; exact z.2⟩
end
end G

namespace G
open PySem PySem.Spec PyProof.Rows L2
section
variable {P : Program} {w : World} {K : PySem.W.Frag} {mg : Str → Option Value} {base : Heap}
theorem rec_ok {f1 f2 : Addr} {fd1 fd2 : FuncData} (B : Bt mg) (F1 : Fun K "settle" "settle" s_settle f1 fd1) (m1 : mg "settle" = some (.ref f1)) (k1 : PySem.W.keepIn K (.ref f1) = true) (b1 : Binds K fd1 ["game", "inside", "known"] [])
    (F2 : Fun K "settled_inside" "settled_inside" s_settled_inside f2 fd2) (m2 : mg "settled_inside" = some (.ref f2)) (k2 : PySem.W.keepIn K (.ref f2) = true) (b2 : Binds K fd2 ["game", "inside", "known"] [])
    (C_drawn : Cal P w K mg base 2 "drawn" (spDrawn K)) (C_without : Cal P w K mg base 1 "without" (spWithout K)) (C_claimed : Cal P w K mg base 2 "claimed" (spClaimed K)) : ∀ n, Cal P w K mg base (2 * n + 3 + 1) "settled_inside" (spSI K n)
  | 0 => ⟨f2, fd2, _, ok_settled_inside (n := 0) B F2 ⟨f1, fd1, _, ok_settle0 F1, m1, k1, b1⟩, m2, k2, b2⟩
  | n + 1 => by
    have ih := rec_ok B F1 m1 k1 b1 F2 m2 k2 b2 C_drawn C_without C_claimed n
    have c : Cal P w K mg base (2 * (n + 1) + 3) "settle" (spSettle K (n + 1)) := ⟨f1, fd1, _, (ok_settle B F1 C_drawn C_without C_claimed ih).mono (by omega), m1, k1, b1⟩
    exact ⟨f2, fd2, _, ok_settled_inside (n := n + 1) B F2 c, m2, k2, b2⟩
theorem lean_nonneg {g : List Row} {lf : Int → Int} (hv : ValidG g) (h : LeanOf g lf) : ∀ r ∈ g, 0 ≤ lf r.n := by
  obtain ⟨l, ks, now, hp, hm⟩ := h
  intro r hr
  have hx : r.n ∈ l := (hm _).mpr (List.mem_map_of_mem hr)
  have key : ∀ (n : Nat) (l' : List Int), l'.length ≤ n → l' ≠ [] → ∃ u ∈ l', ∀ y ∈ l', u ≤ y := by
    intro n
    induction n with
    | zero => intro l' h1 h2; exact absurd (List.eq_nil_of_length_eq_zero (by omega)) h2
    | succ n ih =>
      intro l' h1 h2
      match l' with
      | [] => exact absurd rfl h2
      | [x] => exact ⟨x, List.mem_cons_self, fun y hy => by rw [List.mem_singleton.mp hy]; exact Int.le_refl _⟩
      | x :: y :: l2 =>
        obtain ⟨u, hu, h3⟩ := ih (y :: l2) (by simpa using h1) (by simp)
        by_cases e : u ≤ x
        · exact ⟨u, List.mem_cons_of_mem _ hu, fun z hz => (List.mem_cons.mp hz).elim (fun q => q ▸ e) (h3 z)⟩
        · exact ⟨x, List.mem_cons_self, fun z hz => (List.mem_cons.mp hz).elim (fun q => q ▸ Int.le_refl _) fun q => by have := h3 z q; omega⟩
  obtain ⟨u, hu, hu2⟩ := key l.length l (Nat.le_refl _) (fun e => by rw [e] at hx; cases hx)
  have h1 := hp.first u hu hu2
  have h2 := hp.up u hu _ hx (hu2 _ hx)
  omega
theorem ok_settled {f BG : Addr} {fd : FuncData} (B : Bt mg) (F : Fun K "settled" "settled" s_settled f fd) (C_check_game : Cal P w K mg base 6 "check_game" (spCheckGame K BG)) (C_lean : Cal P w K mg base 7 "lean" (spLean K BG)) (C_everywhere : Cal P w K mg base 1 "everywhere" (spEverywhere K))
    (C_settled_inside : Cal P w K mg base (2 * 40 + 3 + 1) "settled_inside" (spSI K 40)) : FnOk P w K mg base (L2.CX P w) 86 f fd ["game"] (spSettled K BG) := by
  refine F.okX sc_settled (fun vs H Q E h => ?_) (fun cdv Ar outer s H vs Q E hr h => ?_)
  · obtain ⟨v, d, rfl, _⟩ := h
    rfl
  · obtain ⟨v, d, rfl, hd, hz, q, qe⟩ := h
    refine ⟨_, (pss_cons (ps_expr (pe_calX C_check_game hr (by decide) (takes_of rfl rfl rfl rfl) (by rfl) (pa_cons (pv 0) pa_nil)))
      (pss_cons (ps_set (i := 1) sc_settled.nd rfl (Or.inr rfl) (pe_cal C_settled_inside hr (by decide) (by rfl) (pa_cons (pe_cal C_lean hr (by decide) (by rfl) (pa_cons (pv 0) pa_nil)) (pa_cons (pe_cal C_everywhere hr (by decide) (by rfl) (pa_cons (pv 0) pa_nil)) (pa_cons pe_dnewT pa_nil)))))
      (pss_one (ps_ret (pe_lc (own := [("place", 2)]) (by rfl) sc_settled.nd (pi_range1 (by rfl) B.range_ (pa_cons (pe_callB call_len_seq (by rfl) B.len_ (by decide +kernel) (pa_cons (pv 0) pa_nil)) pa_nil)) (blkOk_by (own := [("place", 2)]) (N := ["game", "found", "place"]) (sc := defScope s_settled) (by decide +kernel)) (fun _ _ _ _ _ => (pg_name (i := 2) sc_settled.nd rfl (Or.inl rfl))) (fun _ _ _ _ _ => pts_nil) (fun _ _ _ _ _ => (pe_dget (hu_of hr) (pv 1) (pv 2) (fun _ _ => rfl)))))))), ?_⟩
    refine ⟨_, rfl, v, d, rfl, hd, hz, fun e0 H1 sm1 => ?_, fun e he => qe e he⟩
    obtain ⟨g, rfl, hv⟩ := game_of e0
    obtain ⟨few, q⟩ := q g rfl hv
    have hG0 : Dp K H v (gameD g) := by cases hd with | of h => exact h
    have hgl : g.length ≤ 1000 := by have := hv.1; omega
    -- lean(game)
    refine ⟨_, rfl, v, gameD g, rfl, .of (dp_mono sm1 _ _ hG0), hz, fun g' eg hv' H2 D ts lf sm2 nD fr lo => ?_, fun e he => by rw [e0] at he; cases he⟩
    obtain rfl := gameD_inj eg
    -- everywhere(game)
    have s2 := sm1.trans sm2
    refine ⟨_, rfl, v, g, rfl, dp_mono s2 _ _ hG0, hgl, fun H3 I sm3 nI hI => ?_⟩
    refine fun k nk => ?_
    have s3 := s2.trans sm3
    have sk : Same H3 (upd H3 k (.dT [])) := same_upd nk
    have hkk : (upd H3 k (.dT [])) k = some (.dT []) := upd_same
    generalize upd H3 k (.dT []) = H4 at sk hkk ⊢
    have len2 : (g.map (relean lf)).length = g.length := List.length_map _
    have hv2 := valid_relean (lf := lf) hv (lean_nonneg hv lo)
    have pa := part_all hv2
    rw [len2] at pa
    refine ⟨.ref D, g.map (relean lf), I, k, upto g.length, [], 16000000, rfl, dp_mono (sm3.trans sk) _ _ fr.dp, fun p hp => own01 hv2 hp, sk _ _ hI, hkk, pa, by rw [len_upto]; exact hv.1, ?_, by unfold lineN; simp, (fun A v h => by cases h), fun H5 r kvs bt hk5 _ _ sol => ?_⟩
    · show PG.Few (ownAt (g.map (relean lf))) (numAt (g.map (relean lf))) (wsOf (g.map (relean lf))) (upto g.length) 16000000
      rw [own_relean, ws_relean]
      exact few lf lo
    obtain ⟨ks, h, w', s', h1, h2, h3, h4, h5⟩ := sol
    have s5 : Same H H5 := fun b o e => by
      have e3 := s3 _ _ e
      exact bt _ _ (ne_of_none e3 nk) (sk _ _ e3)
    obtain ⟨ag, xg, rfl, hG, hGl, hGr⟩ := dp_game hG0
    refine ⟨_, rfl, _, _, rfl, .inl (s5.seq hG), _, rfl, by omega, by omega, fun L nL => ?_⟩
    rw [hGl, Int.toNat_natCast]
    refine lc_ints walk_range (upto g.length) (fun _ => true) h (len_upto _) (by rw [len_upto]; exact hgl) nL (fun _ _ => True.intro) (fun j H0 x H2 hj _ y => y_range hj y) (fun p H' Qe N hp sm q1 q2 => ⟨rfl, _, rfl, _, rfl, r, _, rfl, dget_some (.inl (sm _ _ h1)) ((h3 p).mpr hp), q1 rfl _ (Same.refl _)⟩) (fun H' sm e => ?_)
    rw [List.filter_eq_self.mpr fun _ _ => rfl] at e
    have inU : ∀ i : Nat, i < g.length → (upto g.length)[i]? = some (i : Int) := fun i hi => by
      unfold upto
      rw [List.getElem?_map, List.getElem?_range hi]
      rfl
    refine q H' L _ w' s' (s5.trans sm) (Same.free s5 nL) e (by rw [List.length_map, len_upto]) (fun i hi => ?_) ?_
    · have hm : (i : Int) ∈ upto g.length := List.mem_of_getElem? (inU i hi)
      obtain ⟨t, et, ht⟩ := h4 i hm
      exact ⟨t, by rw [List.getElem?_map, inU i hi, ← et]; rfl, sm _ _ ht⟩
    · refine solOk_of hv lo ?_
      have h6 : PG.SolM (ownAt (g.map (relean lf))) (numAt (g.map (relean lf))) (wsOf (g.map (relean lf))) (upto g.length) w' s' := h5
      rw [own_relean, ws_relean] at h6
      exact h6
/-- who wins; asked of anything, refused as it should be -/
def spWonX (K : PySem.W.Frag) (BG : Addr) : Sp := fun vs H Q E => ∃ (v : V) (d : PyData), vs = [v] ∧ Dx K H v d ∧ szGame d ∧ (∀ g, d = gameD g → ValidG g → FewOk g ∧ ∀ H' a ws ss, Same H H' → H a = none → H' a = some (.lst (ws.map V.int)) → SolOk g ws ss → Q (.ref a) H') ∧ ∀ e, gameErr d = some e → EBad H BG e E
def spStepsX (K : PySem.W.Frag) (BG : Addr) : Sp := fun vs H Q E => ∃ (v : V) (d : PyData), vs = [v] ∧ Dx K H v d ∧ szGame d ∧ (∀ g, d = gameD g → ValidG g → FewOk g ∧ ∀ H' a ws ss, Same H H' → H a = none → H' a = some (.lst (ss.map optV)) → SolOk g ws ss → Q (.ref a) H') ∧ ∀ e, gameErr d = some e → EBad H BG e E
theorem ok_wonX {f BG : Addr} {fd : FuncData} (F : Fun K "won" "won" s_won f fd) (C_settled : Cal P w K mg base 86 "settled" (spSettled K BG)) : FnOk P w K mg base (L2.CX P w) 87 f fd ["game"] (spWonX K BG) := by
  refine F.okX sc_won (fun vs H Q E h => ?_) (fun cdv Ar outer s H vs Q E hr h => ?_)
  · obtain ⟨v, d, rfl, _⟩ := h
    rfl
  · obtain ⟨v, d, rfl, hd, hz, q, qe⟩ := h
    refine ⟨_, (pss_one (ps_ret (pe_lc (own := [("winner", 1), ("_", 2)]) (by rfl) sc_won.nd (pi_list (pe_calX C_settled hr (by decide) (takes_of rfl rfl rfl rfl) (by rfl) (pa_cons (pv 0) pa_nil))) (blkOk_by (own := [("winner", 1), ("_", 2)]) (N := ["game", "winner", "_"]) (sc := defScope s_won) (by decide +kernel)) (fun _ _ _ _ _ => (kr_pg_tup (K := K) (n := 2) (by rfl) (by rfl) (pgs_cons (pg_name (i := 1) sc_won.nd rfl (Or.inl rfl)) (pgs_cons (pg_name (i := 2) sc_won.nd rfl (Or.inl rfl)) pgs_nil)))) (fun _ _ _ _ _ => pts_nil) (fun _ _ _ _ _ => (pv 1))))), ?_⟩
    refine ⟨_, rfl, v, d, rfl, hd, hz, fun g eg hv => ⟨(q g eg hv).1, fun H1 D vs ws ss sm nD hD hl hv1 so => ⟨D, rfl, ⟨_, .inl (.inl hD)⟩, fun R nR => lc_pure (((upto g.length).map ws).map V.int) (by rw [List.length_map, List.length_map, len_upto, hl]) (.inl (.inl hD)) nR (by have := hv.1; omega) (fun i x y H' Q' hx hy sm2 hQ => ?_) (fun H' sm2 hR => (q g eg hv).2 H' R _ _ (sm.trans sm2) (Same.free sm nR) hR so)⟩⟩, qe⟩
    have hi : i < g.length := by rw [← hl]; exact (List.getElem?_eq_some_iff.mp hx).1
    obtain ⟨t, et, ht⟩ := hv1 i hi
    rw [hx] at et
    cases et
    rw [List.getElem?_map, List.getElem?_map] at hy
    unfold upto at hy
    rw [List.getElem?_map, List.getElem?_range hi] at hy
    cases hy
    exact ⟨t, _, rfl, .inl (.inl (sm2 _ _ ht)), rfl, _, _, rfl, _, _, rfl, rfl, rfl, _, rfl, hQ _ (Same.refl _)⟩
theorem won_of {f BG : Addr} {fd : FuncData} (h : FnOk P w K mg base (L2.CX P w) 87 f fd ["game"] (spWonX K BG)) : FnOk P w K mg base (L2.CX P w) 87 f fd ["game"] (spWon K) := h.imp fun vs H Q E ⟨v, g, e, hg, hv, few, q⟩ =>
  ⟨v, gameD g, e, .of hg, hv.sz, fun g' eg _ => by obtain rfl := gameD_inj eg; exact ⟨few, q⟩, fun e he => by rw [gameErr_valid hv] at he; cases he⟩
theorem steps_of' {f BG : Addr} {fd : FuncData} (h : FnOk P w K mg base (L2.CX P w) 87 f fd ["game"] (spStepsX K BG)) : FnOk P w K mg base (L2.CX P w) 87 f fd ["game"] (spSteps K) := h.imp fun vs H Q E ⟨v, g, e, hg, hv, few, q⟩ =>
  ⟨v, gameD g, e, .of hg, hv.sz, fun g' eg _ => by obtain rfl := gameD_inj eg; exact ⟨few, q⟩, fun e he => by rw [gameErr_valid hv] at he; cases he⟩
end
end G

namespace L2
open PySem PySem.Spec PyProof.Rows
/-! ### sorted(set(xs)) of a list of ints -/
abbrev e0 (w : World) : Obj := { cls := .type "set", dict := none, data := .set #[] 0 (.fresh 0 0 (!w.params.followText "set-order")) }
section
variable {P : Program} {w : World} {A : Around} {E : Value → Shared → Prop} {s : Shared}
/-- what stands after the members were taken in -/
def Filled (w : World) (s : Shared) (ns : List Int) (s2 : Shared) : Prop := ∃ h' tk c, s2 = { s with heap := h', toks := tk } ∧ SetR w h' s.heap.objs.size (fun j => decide (j ∈ ns)) c ∧ c ≤ ns.length ∧ ∀ b o, s.heap.get? b = some o → h'.get? b = some o
theorem set_of_list {l : Addr} {its : Array Value} (ns : List Int) {Q : Value → Shared → Prop} (hA : A.handled = none) (L : s.heap.IsList l its) (I : IntsAre its.toList ns) (hb : ns.length + 1 < scanBound)
    (fin : ∀ s2, Filled w s ns s2 → Q (.ref s.heap.objs.size) s2) : wpAny (model P w) A (call (.type "set") [.ref l]) Q E s := by
  have hz : its.size = ns.length := by have := IntsAre.length I; simpa using this
  obtain ⟨c0, t0, m0⟩ := F.called_set.mro
  have a1 := F.called_set.made; have a2 := F.called_set.sub; have a3 := F.called_set.notType; have a4 := F.called_set.canCreate; have a5 := F.typeCall_set_1 (.ref l)
  refine wpAny_call (codeAny_of_tree (show wpAny _ _ (callAny (.type "set") _) _ _ _ from wpAny_pure ⟨Code.quiet_builtin _ (by decide +kernel), codeAny_builtin F.entry_type_call ?_⟩))
  rw [Around.under_plain (weight_type_call_type "set" [.ref l] []) rfl]
  repeat (any_goals (first | assumption | wp_step))
  refine codeAny_mono (code_set_led1 (.ref l) (E := E) (Q₁ := fun x t => x = .ref s.heap.objs.size ∧ t = { s with heap := s.heap.push (e0 w) }) ⟨rfl, rfl⟩) fun r t hr => ?_
  match r, hr with
  | .error e, hr => exact hr
  | .ok (.ret x), ⟨ex, et⟩ =>
    subst ex et
    have g0 : (s.heap.push (e0 w)).get? s.heap.objs.size = some (e0 w) := Heap.get?_push_size _ rfl
    have ty : Shared.TypeIs { s with heap := s.heap.push (e0 w) } (.ref s.heap.objs.size) "set" := ⟨_, g0, rfl⟩
    have i1 := F.called_set.init.lookup; have i2 := F.called_set.init.bind (.ref s.heap.objs.size)
    repeat (any_goals (first | assumption | wp_step))
    refine codeAny_mono (codeAny_call_builtin (R := wants (fun r t => r = .none ∧ Filled w s ns t) E) F.called_set.init.plain F.entry_set_init (check_set_init_1 ty ?_)) fun r2 t2 hr2 => ?_
    · obtain ⟨⟨lc, ld, la, ls⟩, hol, e1, nl, e2⟩ := L
      simp only at e1 e2
      subst e1 e2
      have lt : l < s.heap.objs.size := Heap.lt_size hol
      have L1 : (s.heap.push (e0 w)).IsList l its := ⟨_, Heap.get?_push_of_some _ hol, rfl, nl, rfl⟩
      have hol1 := L1.choose_spec.1
      have s1 := F.sub_list_set; have s2 := F.sub_list_frozenset
      have sd : (Value.type "list" == Value.type "dict") = false := by decide
      have hol2 : (s.heap.push (e0 w)).get? l = some { cls := .type "list", dict := ld, data := .seq its nl, slots := ls } := Heap.get?_push_of_some _ hol
      unfold Builtin.«set.__init__» noKeywords Builtin.Frozenset.updateFrom
      generalize hP : pyIter = Y
      wp_walk
      subst hP
      refine wpAny_pyIter_list L1 (wpAny_bind (wpAny_runValue ?_))
      have sz : (s.heap.push (e0 w)).objs.size = s.heap.objs.size + 1 := Heap.size_push ..
      have n1 : l ≠ (s.heap.push (e0 w)).objs.size := by rw [sz]; exact Nat.ne_of_lt (Nat.lt_succ_of_lt lt)
      have n2 : s.heap.objs.size ∉ [(s.heap.push (e0 w)).objs.size, l] := by
        rw [sz]
        simp only [List.mem_cons, List.not_mem_nil, or_false, not_or]
        exact ⟨Nat.ne_of_lt (Nat.lt_succ_self _), Nat.ne_of_gt lt⟩
      refine set_update_ints ((Walks.list (by simp [hA]) _ l n1 its).toS) s.heap.objs.size n2 ns hz hb (fun i v hv => ?_) its.size 0 _ (Nat.sub_zero _) (Nat.zero_le _)
        ⟨⟨_, Heap.get?_push_size _ rfl, rfl, rfl⟩, L1.push _⟩ ⟨0, Nat.le_refl 0, setR_new_at (Heap.get?_push_of_some _ g0)⟩ fun s3 c mv hc R3 => ?_
      · obtain ⟨tk, e⟩ := PyProof.Rows.IntsAre.int_at I i v (by rw [Array.getElem?_toList]; exact hv)
        have hi : i < ns.length := hz ▸ (Array.getElem?_eq_some_iff.mp hv).1
        exact ⟨ns[i], tk, List.getElem?_eq_getElem hi, by rw [e, List.getD_eq_getElem?_getD, List.getElem?_eq_getElem hi]; rfl⟩
      · obtain ⟨h3, g3, d3, tk3, o3⟩ := s3
        obtain rfl : g3 = s.gens := mv.gens
        obtain rfl : d3 = s.drawn := mv.drawn
        obtain rfl : o3 = s.os := mv.os
        refine wpAny_pure (wpAny_pure ⟨rfl, h3, tk3, c, rfl, R3, hz ▸ hc, fun b o e => ?_⟩)
        have lb := Heap.lt_size e
        refine mv.heap b o ?_ (Heap.get?_push_of_some _ (Heap.get?_push_of_some _ e))
        rw [sz]
        simp only [List.mem_cons, List.not_mem_nil, or_false, not_or]
        exact ⟨Nat.ne_of_lt lb, Nat.ne_of_lt (Nat.lt_succ_of_lt lb)⟩
    · match r2, hr2 with
      | .error e, hr2 => exact hr2
      | .ok (.ret r), ⟨er, hf⟩ =>
        subst er
        repeat (any_goals (first | assumption | wp_step))
        exact fin _ hf
end
def tSortSet (K : PySem.W.Frag) (ta : TE) : TE := fun σ H Q => ta σ H fun x H1 => ∃ (l : Addr) (ns : List Int), x = .ref l ∧ SqL K H1 l (ns.map V.int) ∧ ns.length < 64 ∧ ∀ (ns' : List Int) (p : Addr), ns'.Pairwise (· < ·) → (∀ k, k ∈ ns' ↔ k ∈ ns) → H1 p = none → Q (.ref p) (upd H1 p (.lst (ns'.map V.int)))
theorem pe_sortset {X : Cx} {a : Expr} {ta : TE} {p p2 q pos : Pos} (hg : Gl X "sorted") (hm : X.mg "sorted" = none) (hg2 : Gl X "set") (hm2 : X.mg "set" = none) (ha : PE X a ta) (hc : X.calm = true := by rfl)
    (na : starEach [a] X.env = (false, eval a X.env) :: starEach [] X.env := by rfl) : PE X (.Call (.Name "sorted" p) [.Call (.Name "set" p2) [a] [] q] [] pos) (tSortSet X.K ta) := by
  refine ⟨fun pins s σ H Q I h => Call_ (ld_blt I hg hm boot_sorted (PyProof.Rows.callWith_builtin1 (PyProof.Rows.args_cons (Call_ (ld_blt I hg2 hm2 boot_set (PyProof.Rows.callWith_type1 (PyProof.Rows.args_cons (thn (ha.run pins s σ H _ I h) fun v s1 hv => PyProof.Rows.args_nil ?_) na) na rfl))) rfl) rfl rfl))⟩
  obtain ⟨x, H1, I1, r1, l, ns, rfl, hq, hl, q1⟩ := hv
  cases r1
  obtain ⟨its, r, pl, hz⟩ := I1.list hq
  refine set_of_list ns (I1.ok.hd hc) (show s1.heap.IsList l its.toArray from pl.isList) (by simpa using RZ.intsAre_vals r) (by unfold scanBound; omega) fun s2 hs => PyProof.Rows.args_nil ?_
  obtain ⟨h', tk, c, rfl, R, hcn, kp⟩ := hs
  have I2 : Inv X pins σ H1 { s1 with heap := h', toks := tk } := I1.kept kp
  refine sorted_set R (I1.ok.hd hc) (by omega) fun s' p out cp ns' k g o hp hgp hi hs hm hl' => ?_
  have hlen : (ns'.map V.int).length ≤ sizeLine := by rw [List.length_map, hl', sizeLine_eq]; omega
  have hn : H1 p = none := I2.hok.fresh hp
  have J : Inv X pins σ (upd H1 p (.lst (ns'.map V.int))) { ({ s1 with heap := h', toks := tk } : Shared) with heap := s'.heap, gens := s'.gens, drawn := s'.drawn, toks := s'.toks } :=
    Inv.call (s := { s1 with heap := h', toks := tk }) I2 (ch := []) (Un.laid k hp hn) (I2.hok.laid k hp ⟨hlen, out.toList, cp, vals_of_ints hi, hgp⟩) (by rw [g]; exact I2.bare) (fun _ z => nomatch z)
  have e : s' = { s1 with heap := s'.heap, gens := s'.gens, drawn := s'.drawn, toks := s'.toks } := by
    cases s'
    cases o
    rfl
  rw [e]
  exact ⟨.ref p, _, J, rfl, q1 ns' p hs (fun j => (hm j).trans decide_eq_true_iff) hn⟩
end L2

namespace G
open PySem PySem.Spec PyProof.Rows L2
/-- a call whose exception a clause around it catches -/
theorem pe_calS {X : Cx} {k j : Nat} {x : Str} {sp : Sp} {W : WX} {p pos : Pos} {e : Expr} {es : List Expr} {t : TA} (c : Cal X.prog X.w X.K X.mg X.base k x sp) (hr : Room j X.A) (hk : k ≤ j) (tk : Takes X W) (hg : Gl X x) (ha : PA X (e :: es) t)
    (hdb : (x == ("__debug__" : Str)) = false := by decide) (he : starEach (e :: es) X.env = (false, eval e X.env) :: starEach es X.env := by rfl) (hpl : (backTo pos (starEach es X.env)).any (·.1) = false := by rfl) :
    PE X (.Call (.Name x p) (e :: es) [] pos) (tCallS sp (WE W) t) := by
  obtain ⟨f, fd, ps, F, hm, kp, b⟩ := c.ex
  exact pe_callS F (hr.mono hk) hg hm kp b (fun σ => passAt tk σ) ha hdb he hpl
/-- what a class must bear for its errors to be caught, told apart and read -/
structure Caught (K : PySem.W.Frag) (A : Ads) (D : Addr) (k : Nat) : Prop where
  kind : ErrKind K A D k
  exm : PySem.W.exmOne K (.ref D) (.ref A.GongError) = some true
structure Read (K : PySem.W.Frag) (D : Addr) : Prop where
  xf : XfC K D
  no : PySem.W.findIn K (.ref D) "at" = some none
def atD : Option Nat → PyData
  | none => .none
  | some i => .int (i : Int)
theorem dp_at {K : PySem.W.Frag} {H : Hp} (e : Option Nat) : Dp K H (atV e) (atD e) := by
  cases e with
  | none => exact .non
  | some i => exact .int _
end G

namespace PM
/-! ### ranks of measures -/
def prodS (s : Int → Nat) : List Int → Nat
  | [] => 1
  | o :: os => s o * prodS s os
def digs (s : Int → Nat) : List Int → Nat → List Nat
  | [], _ => []
  | o :: os, r => (r % s o) :: digs s os (r / s o)
def lo (n : Int) (os : List Int) : List Int := os.filter fun o => decide (o < n)
def hi (n : Int) (os : List Int) : List Int := os.filter fun o => !decide (o < n)
def below (s : Int → Nat) (os : List Int) (n : Int) : Nat := prodS s (lo n os)
def wantN (s : Int → Nat) (os : List Int) (n : Int) (r : Nat) : Nat := if n % 2 = 0 then r - r % below s os n else min (r - r % below s os n + below s os n) (prodS s os)
section
variable {s : Int → Nat}
theorem prodS_pos (h : ∀ o, 0 < s o) : ∀ os, 0 < prodS s os
  | [] => Nat.one_pos
  | o :: os => Nat.mul_pos (h o) (prodS_pos h os)
theorem prodS_app : ∀ a b : List Int, prodS s (a ++ b) = prodS s a * prodS s b
  | [], b => (Nat.one_mul _).symm
  | o :: a, b => by
    show s o * prodS s (a ++ b) = s o * prodS s a * prodS s b
    rw [prodS_app a b, Nat.mul_assoc]
theorem digs_len : ∀ (os : List Int) (r : Nat), (digs s os r).length = os.length
  | [], _ => rfl
  | o :: os, r => congrArg (· + 1) (digs_len os (r / s o))
theorem digs_app : ∀ (a b : List Int) (r : Nat), digs s (a ++ b) r = digs s a r ++ digs s b (r / prodS s a)
  | [], b, r => by show digs s b r = digs s b (r / 1); rw [Nat.div_one]
  | o :: a, b, r => by
    show r % s o :: digs s (a ++ b) (r / s o) = r % s o :: (digs s a (r / s o) ++ digs s b (r / (s o * prodS s a)))
    rw [digs_app a b, Nat.div_div_eq_div_mul]
theorem digs_inj (h : ∀ o, 0 < s o) : ∀ (os : List Int) (r r' : Nat), r < prodS s os → r' < prodS s os → digs s os r = digs s os r' → r = r'
  | [], r, r', h1, h2, _ => by
    have h1' : r < 1 := h1
    have h2' : r' < 1 := h2
    omega
  | o :: os, r, r', h1, h2, e => by
    have e1 : r % s o = r' % s o := (List.cons.inj e).1
    have e2 := (List.cons.inj e).2
    have h1' : r < s o * prodS s os := h1
    have h2' : r' < s o * prodS s os := h2
    have q := digs_inj h os (r / s o) (r' / s o) (Nat.div_lt_of_lt_mul h1') (Nat.div_lt_of_lt_mul h2') e2
    rw [← Nat.div_add_mod r (s o), ← Nat.div_add_mod r' (s o), e1, q]
theorem digs_lt (h : ∀ o, 0 < s o) : ∀ (os : List Int) (r : Nat) (i : Nat) (o : Int), os[i]? = some o → ∃ d, (digs s os r)[i]? = some d ∧ d < s o
  | [], _, i, o, e => by cases e
  | o :: os, r, 0, o', e => by
    cases e
    exact ⟨_, rfl, Nat.mod_lt _ (h _)⟩
  | o :: os, r, i + 1, o', e => digs_lt h os (r / s o) i o' e
/-! the order of digits, the last ones first -/
theorem lex_snoc : ∀ (xs ys : List Int) (a b : Int), xs.length = ys.length → (xs ++ [a] < ys ++ [b] ↔ xs < ys ∨ (xs = ys ∧ a < b))
  | [], [], a, b, _ => by
    show ([a] < [b]) ↔ _
    rw [List.cons_lt_cons_iff]
    simp
  | x :: xs, y :: ys, a, b, h => by
    have h' : xs.length = ys.length := by simpa using h
    show (x :: (xs ++ [a]) < y :: (ys ++ [b])) ↔ _
    rw [List.cons_lt_cons_iff, List.cons_lt_cons_iff, lex_snoc xs ys a b h', List.cons.injEq]
    constructor
    · rintro (h | ⟨h1, h2 | ⟨h2, h3⟩⟩)
      · exact .inl (.inl h)
      · exact .inl (.inr ⟨h1, h2⟩)
      · exact .inr ⟨⟨h1, h2⟩, h3⟩
    · rintro ((h | ⟨h1, h2⟩) | ⟨⟨h1, h2⟩, h3⟩)
      · exact .inl h
      · exact .inr ⟨h1, .inl h2⟩
      · exact .inr ⟨h1, .inr ⟨h2, h3⟩⟩
def tupN (s : Int → Nat) (os : List Int) (r : Nat) : List Int := (digs s os r).reverse.map fun d : Nat => (d : Int)
theorem tupN_len (os : List Int) (r : Nat) : (tupN s os r).length = os.length := by
  unfold tupN
  rw [List.length_map, List.length_reverse, digs_len]
theorem tupN_cons (o : Int) (os : List Int) (r : Nat) : tupN s (o :: os) r = tupN s os (r / s o) ++ [((r % s o : Nat) : Int)] := by
  unfold tupN
  show ((r % s o :: digs s os (r / s o)).reverse.map fun d : Nat => (d : Int)) = _
  rw [List.reverse_cons, List.map_append]
  rfl
theorem tupN_inj (h : ∀ o, 0 < s o) {os : List Int} {r r' : Nat} (h1 : r < prodS s os) (h2 : r' < prodS s os) (e : tupN s os r = tupN s os r') : r = r' := by
  refine digs_inj h os r r' h1 h2 ?_
  have e1 : (digs s os r).reverse = (digs s os r').reverse := (List.map_inj_right fun a b z => Int.ofNat.inj z).mp e
  exact List.reverse_inj.mp e1
theorem tupN_lt (h : ∀ o, 0 < s o) : ∀ (os : List Int) (r r' : Nat), r < prodS s os → r' < prodS s os → (tupN s os r < tupN s os r' ↔ r < r')
  | [], r, r', h1, h2 => by
    have h1' : r < 1 := h1
    have h2' : r' < 1 := h2
    have : ¬ (tupN s [] r < tupN s [] r') := List.not_lt_nil _
    exact ⟨fun z => absurd z this, fun z => by omega⟩
  | o :: os, r, r', h1, h2 => by
    have h1' : r < s o * prodS s os := h1
    have h2' : r' < s o * prodS s os := h2
    have q1 := Nat.div_lt_of_lt_mul h1'
    have q2 := Nat.div_lt_of_lt_mul h2'
    rw [tupN_cons, tupN_cons, lex_snoc _ _ _ _ (by rw [tupN_len, tupN_len]), tupN_lt h os _ _ q1 q2]
    have m1 := Nat.mod_lt r (h o)
    have m2 := Nat.mod_lt r' (h o)
    have e1 := Nat.div_add_mod r (s o)
    have e2 := Nat.div_add_mod r' (s o)
    constructor
    · rintro (z | ⟨z1, z2⟩)
      · have : s o * (r / s o + 1) ≤ s o * (r' / s o) := Nat.mul_le_mul_left _ z
        rw [Nat.mul_add, Nat.mul_one] at this
        omega
      · have e := tupN_inj h q1 q2 z1
        rw [e] at e1
        have : r % s o < r' % s o := by omega
        omega
    · intro z
      rcases Nat.lt_trichotomy (r / s o) (r' / s o) with y | y | y
      · exact .inl y
      · refine .inr ⟨by rw [y], ?_⟩
        rw [y] at e1
        have : r % s o < r' % s o := by omega
        omega
      · have : s o * (r' / s o + 1) ≤ s o * (r / s o) := Nat.mul_le_mul_left _ y
        rw [Nat.mul_add, Nat.mul_one] at this
        omega
/-! what is wanted -/
theorem split_up {n : Int} : ∀ {os : List Int}, os.Pairwise (· < ·) → os = lo n os ++ hi n os
  | [], _ => rfl
  | o :: os, up => by
    obtain ⟨h1, h2⟩ := List.pairwise_cons.mp up
    by_cases z : o < n
    · have e1 : lo n (o :: os) = o :: lo n os := List.filter_cons_of_pos (p := fun o => decide (o < n)) (decide_eq_true z)
      have e2 : hi n (o :: os) = hi n os := List.filter_cons_of_neg (p := fun o => !decide (o < n)) (by rw [decide_eq_true z]; decide)
      rw [e1, e2, List.cons_append, ← split_up h2]
    · have e1 : lo n (o :: os) = [] := by
        refine List.filter_eq_nil_iff.mpr fun x hx => ?_
        rw [decide_eq_true_eq]
        rcases List.mem_cons.mp hx with rfl | hx
        · exact z
        · have := h1 x hx
          omega
      have e2 : hi n (o :: os) = o :: os := by
        refine List.filter_eq_self.mpr fun x hx => ?_
        have : ¬ x < n := by
          rcases List.mem_cons.mp hx with rfl | hx
          · exact z
          · have := h1 x hx
            omega
        rw [decide_eq_false this]
        rfl
      rw [e1, e2]
      rfl
theorem prod_split {n : Int} {os : List Int} (up : os.Pairwise (· < ·)) : prodS s os = below s os n * prodS s (hi n os) := by
  have := prodS_app (s := s) (lo n os) (hi n os)
  rw [← split_up up] at this
  exact this
theorem first_eq (B r : Nat) : r - r % B = B * (r / B) := by
  have := Nat.div_add_mod r B
  omega
theorem want_even {os : List Int} {n : Int} {r : Nat} (e : n % 2 = 0) : wantN s os n r = below s os n * (r / below s os n) := by
  unfold wantN
  rw [if_pos e, first_eq]
theorem want_odd {os : List Int} {n : Int} {r : Nat} (e : ¬ n % 2 = 0) : wantN s os n r = min (below s os n * (r / below s os n + 1)) (prodS s os) := by
  unfold wantN
  rw [if_neg e, first_eq, Nat.mul_add, Nat.mul_one]
theorem want_mono {os : List Int} {n : Int} {r r' : Nat} (h : r ≤ r') : wantN s os n r ≤ wantN s os n r' := by
  have q := Nat.div_le_div_right (c := below s os n) h
  by_cases e : n % 2 = 0
  · rw [want_even e, want_even e]
    exact Nat.mul_le_mul_left _ q
  · rw [want_odd e, want_odd e]
    have := Nat.mul_le_mul_left (below s os n) (Nat.add_le_add_right q 1)
    omega
theorem want_le {os : List Int} {n : Int} {r : Nat} (h : r ≤ prodS s os) : wantN s os n r ≤ prodS s os := by
  by_cases e : n % 2 = 0
  · rw [want_even e]
    exact Nat.le_trans (Nat.mul_div_le _ _) h
  · rw [want_odd e]
    exact Nat.min_le_right _ _
theorem want_top (h : ∀ o, 0 < s o) {os : List Int} (up : os.Pairwise (· < ·)) {n : Int} : wantN s os n (prodS s os) = prodS s os := by
  have e0 := prod_split (s := s) (n := n) up
  have hB : 0 < below s os n := prodS_pos h _
  have e1 : below s os n * (prodS s os / below s os n) = prodS s os := Nat.mul_div_cancel' ⟨_, e0⟩
  by_cases e : n % 2 = 0
  · rw [want_even e, e1]
  · rw [want_odd e, Nat.mul_add, e1]
    omega
theorem want_lt (h : ∀ o, 0 < s o) {os : List Int} (up : os.Pairwise (· < ·)) {n : Int} {r : Nat} (hr : r ≤ prodS s os) (hw : wantN s os n r < prodS s os) : r < prodS s os := by
  rcases Nat.lt_or_eq_of_le hr with z | z
  · exact z
  · rw [z, want_top h up] at hw
    omega
theorem first_le {os : List Int} {n : Int} {r : Nat} (hr : r ≤ prodS s os) : below s os n * (r / below s os n) ≤ wantN s os n r := by
  by_cases e : n % 2 = 0
  · rw [want_even e]
    exact Nat.le_refl _
  · rw [want_odd e, Nat.mul_add]
    have := Nat.mul_div_le r (below s os n)
    omega
theorem below_dvd {os : List Int} (up : os.Pairwise (· < ·)) {n k : Int} (h : n ≤ k) : ∃ c, below s os k = below s os n * c := by
  refine ⟨prodS s (hi n (lo k os)), ?_⟩
  have e := prod_split (s := s) (n := n) (os := lo k os) (up.filter _)
  have e2 : lo n (lo k os) = lo n os := by
    unfold lo
    rw [List.filter_filter]
    congr 1
    funext o
    by_cases z : o < n
    · rw [decide_eq_true z, decide_eq_true (show o < k by omega)]; rfl
    · rw [decide_eq_false z]; rfl
  unfold below at e ⊢
  rw [e2] at e
  exact e
theorem want_desc {os : List Int} (up : os.Pairwise (· < ·)) {n k : Int} (h : n ≤ k) {r R : Nat} (hr : r ≤ prodS s os) (hw : wantN s os n r ≤ R) (hn : ∀ o, 0 < s o) : r / below s os k ≤ R / below s os k := by
  obtain ⟨c, e⟩ := below_dvd (s := s) up h
  have hB : 0 < below s os n := prodS_pos hn _
  have q := Nat.le_trans (first_le (n := n) hr) hw
  have q2 := Nat.div_le_div_right (c := below s os n * c) q
  rw [Nat.mul_div_mul_left _ _ hB, Nat.div_div_eq_div_mul] at q2
  rw [e]
  exact q2
theorem want_strict {os : List Int} {n : Int} (e : ¬ n % 2 = 0) {r R : Nat} (hw : wantN s os n r ≤ R) (hR : R < prodS s os) (hn : ∀ o, 0 < s o) : r / below s os n + 1 ≤ R / below s os n := by
  have hB : 0 < below s os n := prodS_pos hn _
  rw [want_odd e] at hw
  rw [Nat.le_div_iff_mul_le hB, Nat.mul_comm]
  omega
/-! ranks of counts -/
def val (s : Int → Nat) (c : Int → Nat) : List Int → Nat
  | [] => 0
  | o :: os => c o + s o * val s c os
theorem val_lt {c : Int → Nat} : ∀ {os : List Int}, (∀ o ∈ os, c o < s o) → val s c os < prodS s os
  | [], _ => Nat.one_pos
  | o :: os, h => by
    have ih := val_lt (os := os) fun o' ho => h o' (List.mem_cons_of_mem _ ho)
    have h0 := h o List.mem_cons_self
    show c o + s o * val s c os < s o * prodS s os
    have := Nat.mul_le_mul_left (s o) (Nat.succ_le_of_lt ih)
    rw [Nat.mul_succ] at this
    omega
theorem val_app {c : Int → Nat} : ∀ (a b : List Int), val s c (a ++ b) = val s c a + prodS s a * val s c b
  | [], b => by show val s c b = 0 + 1 * val s c b; omega
  | o :: a, b => by
    show c o + s o * val s c (a ++ b) = c o + s o * val s c a + s o * prodS s a * val s c b
    rw [val_app a b, Nat.mul_add, Nat.mul_assoc]
    omega
theorem val_mono {c c' : Int → Nat} : ∀ {os : List Int}, (∀ o ∈ os, c o ≤ c' o) → val s c os ≤ val s c' os
  | [], _ => Nat.le_refl _
  | o :: os, h => Nat.add_le_add (h o List.mem_cons_self) (Nat.mul_le_mul_left _ (val_mono fun o' ho => h o' (List.mem_cons_of_mem _ ho)))
theorem val_div {c : Int → Nat} {os : List Int} (up : os.Pairwise (· < ·)) (hc : ∀ o ∈ os, c o < s o) (n : Int) : val s c os / below s os n = val s c (hi n os) ∧ below s os n * val s c (hi n os) ≤ val s c os := by
  have e := val_app (s := s) (c := c) (lo n os) (hi n os)
  rw [← split_up up] at e
  have hl : val s c (lo n os) < below s os n := val_lt fun o ho => hc o (List.mem_filter.mp ho).1
  have hB : 0 < below s os n := by omega
  have e' : val s c os = val s c (lo n os) + below s os n * val s c (hi n os) := e
  rw [e']
  refine ⟨?_, by omega⟩
  rw [Nat.add_mul_div_left _ _ hB, Nat.div_eq_of_lt hl, Nat.zero_add]
theorem want_val_even {c c' : Int → Nat} {os : List Int} (up : os.Pairwise (· < ·)) (hc : ∀ o ∈ os, c o < s o) (hc' : ∀ o ∈ os, c' o < s o) {n : Int} (e : n % 2 = 0) (h : ∀ o ∈ os, n ≤ o → c o ≤ c' o) : wantN s os n (val s c os) ≤ val s c' os := by
  rw [want_even e, (val_div up hc n).1]
  refine Nat.le_trans (Nat.mul_le_mul_left _ (val_mono fun o ho => ?_)) (val_div up hc' n).2
  obtain ⟨a, b⟩ := List.mem_filter.mp ho
  refine h o a ?_
  rw [Bool.not_eq_true', decide_eq_false_iff_not] at b
  omega
theorem hi_head {os : List Int} (up : os.Pairwise (· < ·)) {n : Int} (hn : n ∈ os) : ∃ t, hi n os = n :: t := by
  have hm : n ∈ hi n os := List.mem_filter.mpr ⟨hn, by rw [decide_eq_false (Int.lt_irrefl n)]; rfl⟩
  have up2 : (hi n os).Pairwise (· < ·) := up.filter _
  match e : hi n os with
  | [] => rw [e] at hm; cases hm
  | x :: t =>
    rw [e] at hm up2
    have hx : x ∈ hi n os := by rw [e]; exact List.mem_cons_self
    have hb := (List.mem_filter.mp hx).2
    rw [Bool.not_eq_true', decide_eq_false_iff_not] at hb
    rcases List.mem_cons.mp hm with z | z
    · exact ⟨t, by rw [z]⟩
    · have := (List.pairwise_cons.mp up2).1 n z
      omega
theorem want_val_odd {c c' : Int → Nat} {os : List Int} (up : os.Pairwise (· < ·)) (hc : ∀ o ∈ os, c o < s o) (hc' : ∀ o ∈ os, c' o < s o) {n : Int} (e : ¬ n % 2 = 0) (hn : n ∈ os) (h : ∀ o ∈ os, n ≤ o → c o ≤ c' o) (h1 : c n + 1 ≤ c' n) : wantN s os n (val s c os) ≤ val s c' os := by
  rw [want_odd e, (val_div up hc n).1]
  refine Nat.le_trans (Nat.min_le_left _ _) (Nat.le_trans (Nat.mul_le_mul_left _ ?_) (val_div up hc' n).2)
  obtain ⟨t, et⟩ := hi_head up hn
  have ht : ∀ o ∈ t, o ∈ os ∧ n ≤ o := fun o ho => by
    have : o ∈ hi n os := by rw [et]; exact List.mem_cons_of_mem _ ho
    obtain ⟨a, b⟩ := List.mem_filter.mp this
    rw [Bool.not_eq_true', decide_eq_false_iff_not] at b
    exact ⟨a, by omega⟩
  have := Nat.mul_le_mul_left (s n) (val_mono (s := s) (c := c) (c' := c') (os := t) fun o ho => h o (ht o ho).1 (ht o ho).2)
  rw [et]
  show c n + s n * val s c t + 1 ≤ c' n + s n * val s c' t
  omega
end
end PM

namespace G
open PySem PySem.Spec PyProof.Rows L2 Relation PM
/-! ### the least ranks by which each place has enough; who wins by them -/
/-- the odd numbers of a game, rising -/
structure OddsOf (g : List Row) (os : List Int) : Prop where
  up : os.Pairwise (· < ·)
  mem : ∀ x, x ∈ os ↔ x ∈ g.map Row.n ∧ x % 2 = 1
def szN (g : List Row) (o : Int) : Nat := (g.map Row.n).count o + 1
theorem szN_pos (g : List Row) (o : Int) : 0 < szN g o := Nat.succ_pos _
def allN (g : List Row) (os : List Int) : Nat := prodS (szN g) os
def wtN (g : List Row) (os : List Int) (n : Int) (r : Nat) : Nat := wantN (szN g) os n r
def Enough (g : List Row) (os : List Int) (m : Int → Nat) (p : Int) : Prop := (ownAt g p = 0 → ∃ w ∈ wsOf g p, wtN g os (numAt g p) (m w) ≤ m p) ∧ (ownAt g p ≠ 0 → ∀ w ∈ wsOf g p, wtN g os (numAt g p) (m w) ≤ m p)
structure LeastR (g : List Row) (os : List Int) (rho : Int → Nat) : Prop where
  le : ∀ p, InG g p → rho p ≤ allN g os
  enough : ∀ p, InG g p → Enough g os rho p
  least : ∀ m : Int → Nat, (∀ p, InG g p → m p ≤ allN g os) → (∀ p, InG g p → Enough g os m p) → ∀ p, InG g p → rho p ≤ m p
theorem LeastR.same {g : List Row} {os : List Int} {r1 r2 : Int → Nat} (h : LeastR g os r1) (h' : LeastR g os r2) {p : Int} (hp : InG g p) : r1 p = r2 p :=
  Nat.le_antisymm (h.least r2 h'.le h'.enough p hp) (h'.least r1 h.le h.enough p hp)
theorem countP_up {p q : Int → Bool} : ∀ {l : List Int} {x : Int}, (∀ y ∈ l, p y = true → q y = true) → x ∈ l → q x = true → p x = false → l.countP p + 1 ≤ l.countP q
  | [], x, _, hx, _, _ => by cases hx
  | y :: l, x, h, hx, hq, hp => by
    have h' : ∀ z ∈ l, p z = true → q z = true := fun z hz => h z (List.mem_cons_of_mem _ hz)
    have hm := List.countP_mono_left h'
    rcases List.mem_cons.mp hx with rfl | hx
    · rw [List.countP_cons_of_neg (by rw [hp]; decide), List.countP_cons_of_pos hq]
      omega
    · have ih := countP_up h' hx hq hp
      by_cases z : p y = true
      · rw [List.countP_cons_of_pos z, List.countP_cons_of_pos (h y List.mem_cons_self z)]
        omega
      · rw [List.countP_cons_of_neg z]
        by_cases w : q y = true
        · rw [List.countP_cons_of_pos w]
          omega
        · rw [List.countP_cons_of_neg w]
          exact ih
theorem nums_upto (g : List Row) : (upto g.length).map (numAt g) = g.map Row.n := by
  refine List.ext_getElem? fun k => ?_
  unfold upto
  rw [List.getElem?_map, List.getElem?_map, List.getElem?_map]
  by_cases z : k < g.length
  · rw [List.getElem?_range z, List.getElem?_eq_getElem z]
    show some (numAt g ((k : Nat) : Int)) = some (g[k].n)
    rw [numAt_of (g := g) (x := (k : Int)) (r := g[k]) (by rw [Int.toNat_natCast]; exact List.getElem?_eq_getElem z)]
  · rw [List.getElem?_eq_none (by rw [List.length_range]; omega), List.getElem?_eq_none (by omega)]
    rfl
theorem count_upto (g : List Row) (k : Int) : (upto g.length).countP (fun u => decide (numAt g u = k)) = (g.map Row.n).count k := by
  rw [← nums_upto, List.count, List.countP_map]
  congr 1
/-- a place is come to, no number above k on the way -/
def Rch (G : PG.Gm) (W : Int → Prop) (f : Int → Int) (k v u : Int) : Prop := W v ∧ G.num v ≤ k ∧ (v = u ∨ TransGen (fun p q => W p ∧ G.Ed 0 f p q ∧ G.num p ≤ k) v u)
noncomputable def dec (P : Prop) : Bool := @decide P (Classical.propDecidable P)
theorem dec_yes {P : Prop} (h : P) : dec P = true := @decide_eq_true P (Classical.propDecidable P) h
theorem dec_no {P : Prop} (h : ¬ P) : dec P = false := @decide_eq_false P (Classical.propDecidable P) h
theorem of_dec {P : Prop} (h : dec P = true) : P := @of_decide_eq_true P (Classical.propDecidable P) h
noncomputable def cnt (g : List Row) (W : Int → Prop) (f : Int → Int) (k v : Int) : Nat := (upto g.length).countP fun u => dec (numAt g u = k ∧ Rch (gm g) W f k v u)
section
variable {g : List Row} {os : List Int} {W : Int → Prop} {f : Int → Int}
theorem cnt_lt (k v : Int) : cnt g W f k v < szN g k := by
  refine Nat.lt_succ_of_le ?_
  rw [← count_upto]
  exact List.countP_mono_left fun u _ h => decide_eq_true (of_dec h).1
theorem rch_back {k p q u : Int} (hp : W p) (e : (gm g).Ed 0 f p q) (hk : numAt g p ≤ k) (h : Rch (gm g) W f k q u) : Rch (gm g) W f k p u := by
  refine ⟨hp, hk, .inr ?_⟩
  have s : TransGen (fun p q => W p ∧ (gm g).Ed 0 f p q ∧ (gm g).num p ≤ k) p q := .single ⟨hp, e, hk⟩
  rcases h.2.2 with rfl | t
  · exact s
  · exact TransGen.trans s t
theorem cnt_mono {k p q : Int} (hp : W p) (e : (gm g).Ed 0 f p q) (hk : numAt g p ≤ k) : cnt g W f k q ≤ cnt g W f k p :=
  List.countP_mono_left fun u _ h => dec_yes ⟨(of_dec h).1, rch_back hp e hk (of_dec h).2⟩
theorem cnt_strict {p q : Int} (h : PG.Good (gm g) 0 W f) (hW : ∀ p, W p → InG g p) (hp : W p) (e : (gm g).Ed 0 f p q) (ho : ¬ numAt g p % 2 = 0) : cnt g W f (numAt g p) q + 1 ≤ cnt g W f (numAt g p) p := by
  refine countP_up (x := p) (fun u _ h => dec_yes ⟨(of_dec h).1, rch_back hp e (Int.le_refl _) (of_dec h).2⟩) (mem_upto.mpr (hW p hp)) (dec_yes ⟨rfl, hp, Int.le_refl _, .inl rfl⟩) (dec_no fun z => ho ?_)
  have t := (rch_back hp e (Int.le_refl _) z.2).2.2
  have t2 : TransGen (fun a b => W a ∧ (gm g).Ed 0 f a b ∧ (gm g).num a ≤ numAt g p) p p := by
    have s : TransGen (fun a b => W a ∧ (gm g).Ed 0 f a b ∧ (gm g).num a ≤ numAt g p) p q := .single ⟨hp, e, Int.le_refl _⟩
    rcases z.2.2.2 with y | y
    · rw [y] at s
      exact s
    · exact TransGen.trans s y
  exact h.ring p hp t2
open Classical in
/-- from where 0 wins there is a measure -/
theorem fin_of (hv : ValidG g) (ho : OddsOf g os) (h : PG.Good (gm g) 0 W f) (hW : ∀ p, W p → InG g p) : ∃ m : Int → Nat, (∀ p, InG g p → m p ≤ allN g os) ∧ (∀ p, InG g p → Enough g os m p) ∧ ∀ p, W p → m p < allN g os := by
  have lt : ∀ p, val (szN g) (fun k => cnt g W f k p) os < allN g os := fun p => val_lt fun o _ => cnt_lt o p
  have mW : ∀ p, W p → (if W p then val (szN g) (fun k => cnt g W f k p) os else allN g os) = val (szN g) (fun k => cnt g W f k p) os := fun p hp => if_pos hp
  have mN : ∀ p, ¬ W p → (if W p then val (szN g) (fun k => cnt g W f k p) os else allN g os) = allN g os := fun p hp => if_neg hp
  have le : ∀ p, (if W p then val (szN g) (fun k => cnt g W f k p) os else allN g os) ≤ allN g os := fun p => by
    by_cases hp : W p
    · rw [mW p hp]; exact Nat.le_of_lt (lt p)
    · rw [mN p hp]; exact Nat.le_refl _
  have edge : ∀ p q, W p → (gm g).Ed 0 f p q → wtN g os (numAt g p) (if W q then val (szN g) (fun k => cnt g W f k q) os else allN g os) ≤ (if W p then val (szN g) (fun k => cnt g W f k p) os else allN g os) := fun p q hp e => by
    have hq := h.stay p q hp e
    rw [mW p hp, mW q hq]
    by_cases ev : numAt g p % 2 = 0
    · exact want_val_even ho.up (fun o _ => cnt_lt o q) (fun o _ => cnt_lt o p) ev fun o _ hle => cnt_mono hp e hle
    · have hn : numAt g p ∈ os := (ho.mem _).mpr ⟨by
        obtain ⟨r, hr, _, en, _⟩ := row_at (hW p hp)
        rw [en]
        exact List.mem_map_of_mem (List.mem_of_getElem? hr), by omega⟩
      exact want_val_odd ho.up (fun o _ => cnt_lt o q) (fun o _ => cnt_lt o p) ev hn (fun o _ hle => cnt_mono hp e hle) (cnt_strict h hW hp e ev)
  refine ⟨fun p => if W p then val (szN g) (fun k => cnt g W f k p) os else allN g os, fun p _ => le p, fun p hp => ?_, fun p hp => by
    show (if W p then _ else _) < _
    rw [mW p hp]; exact lt p⟩
  by_cases w : W p
  · refine ⟨fun o => ⟨f p, h.step p w o, edge p _ w ⟨fun _ => rfl, fun n => absurd o n⟩⟩, fun o q hq => edge p q w ⟨fun z => absurd z o, fun _ => hq⟩⟩
  · have top : ∀ q, wtN g os (numAt g p) (if W q then val (szN g) (fun k => cnt g W f k q) os else allN g os) ≤ (if W p then val (szN g) (fun k => cnt g W f k p) os else allN g os) := fun q => by
      rw [mN p w]
      exact want_le (le q)
    refine ⟨fun _ => ?_, fun _ q _ => top q⟩
    obtain ⟨r, hr, _, _, ew⟩ := row_at hp
    have hne := (hv.2 r (List.mem_of_getElem? hr)).2.2.1
    obtain ⟨x, l, ex⟩ := List.exists_cons_of_ne_nil hne
    exact ⟨x, by rw [ew, ex]; exact List.mem_cons_self, top x⟩
theorem tg_head {r : Int → Int → Prop} {a b : Int} (t : TransGen r a b) : ∃ c, r a c ∧ (c = b ∨ TransGen r c b) := by
  induction t with
  | single e => exact ⟨_, e, .inl rfl⟩
  | tail _ e ih =>
    obtain ⟨c, h1, h2⟩ := ih
    refine ⟨c, h1, .inr ?_⟩
    rcases h2 with rfl | h2
    · exact .single e
    · exact .tail h2 e
theorem tg_down {r : Int → Int → Prop} {k : Int → Nat} (h : ∀ p q, r p q → k q ≤ k p) {a b : Int} (t : TransGen r a b) : k b ≤ k a := by
  induction t with
  | single e => exact h _ _ e
  | tail _ e ih => exact Nat.le_trans (h _ _ e) ih
open Classical in
/-- where there is a measure 0 wins -/
theorem good_of (hv : ValidG g) (ho : OddsOf g os) {m : Int → Nat} (hle : ∀ p, InG g p → m p ≤ allN g os) (hen : ∀ p, InG g p → Enough g os m p) : ∃ f, PG.Good (gm g) 0 (fun p => InG g p ∧ m p < allN g os) f := by
  have inw : ∀ p q, InG g p → q ∈ wsOf g p → InG g q := fun p q hp hq => by
    obtain ⟨r, hr, _, _, ew⟩ := row_at hp
    rw [ew] at hq
    exact (hv.2 r (List.mem_of_getElem? hr)).2.2.2.1 q hq
  refine ⟨fun p => if z : ∃ w, w ∈ wsOf g p ∧ wtN g os (numAt g p) (m w) ≤ m p then choose z else 0, ?_⟩
  have key : ∀ p, InG g p → ownAt g p = 0 → (if z : ∃ w, w ∈ wsOf g p ∧ wtN g os (numAt g p) (m w) ≤ m p then choose z else 0) ∈ wsOf g p ∧ wtN g os (numAt g p) (m (if z : ∃ w, w ∈ wsOf g p ∧ wtN g os (numAt g p) (m w) ≤ m p then choose z else 0)) ≤ m p := fun p hp o => by
    obtain ⟨w, h1, h2⟩ := (hen p hp).1 o
    have z : ∃ w, w ∈ wsOf g p ∧ wtN g os (numAt g p) (m w) ≤ m p := ⟨w, h1, h2⟩
    rw [dif_pos z]
    exact choose_spec z
  have edge : ∀ p q, InG g p → (gm g).Ed 0 (fun p => if z : ∃ w, w ∈ wsOf g p ∧ wtN g os (numAt g p) (m w) ≤ m p then choose z else 0) p q → InG g q ∧ wtN g os (numAt g p) (m q) ≤ m p := fun p q hp e => by
    by_cases o : ownAt g p = 0
    · have := key p hp o
      rw [e.1 o]
      exact ⟨inw p _ hp this.1, this.2⟩
    · have hq := e.2 o
      exact ⟨inw p q hp hq, (hen p hp).2 o q hq⟩
  refine ⟨fun p hp o => (key p hp.1 o).1, fun p q hp e => ?_, fun v hv' t => ?_⟩
  · obtain ⟨h1, h2⟩ := edge p q hp.1 e
    exact ⟨h1, want_lt (szN_pos g) ho.up (hle q h1) (Nat.lt_of_le_of_lt h2 hp.2)⟩
  · have ev : ¬ ¬ numAt g v % 2 = 0 := fun od => by
      obtain ⟨c, h1, h2⟩ := tg_head t
      obtain ⟨c1, c2⟩ := edge v c hv'.1 h1.2.1
      have st := want_strict (s := szN g) od c2 hv'.2 (szN_pos g)
      have dn : m v / below (szN g) os (numAt g v) ≤ m c / below (szN g) os (numAt g v) := by
        rcases h2 with rfl | h2
        · exact Nat.le_refl _
        · exact tg_down (k := fun p => m p / below (szN g) os (numAt g v)) (fun p q z => by
            obtain ⟨d1, d2⟩ := edge p q z.1.1 z.2.1
            exact want_desc ho.up z.2.2 (hle q d1) d2 (szN_pos g)) h2
      omega
    exact Classical.not_not.mp ev
theorem LeastR.won {rho : Int → Nat} {ws : List Int} {ss : List (Option Int)} (hv : ValidG g) (ho : OddsOf g os) (h : LeastR g os rho) (ok : SolOk g ws ss) {p : Int} (hp : InG g p) : rho p = allN g os ↔ wAt ws p = 1 := by
  constructor
  · intro e
    rcases ok.zo p hp with z | z
    · exfalso
      obtain ⟨m, m1, m2, m3⟩ := fin_of hv ho (ok.good 0 (.inl rfl)) fun q hq => hq.1
      have := h.least m m1 m2 p hp
      have := m3 p ⟨hp, z⟩
      omega
    · exact z
  · intro e
    rcases Nat.lt_or_eq_of_le (h.le p hp) with z | z
    · exfalso
      obtain ⟨f, hf⟩ := good_of hv ho h.le h.enough
      exact PG.Good.disj (n := g.length) hf (ok.good 1 (.inr rfl)) (fun q hq => hq.1) (fun q hq => own01 hv hq.1) (x := p) ⟨hp, z⟩ ⟨hp, e⟩
    · exact z
end
end G

namespace L2
open PySem PySem.Spec PyProof.Rows
/-! ### a set comprehension of ints -/
section
variable {X : Cx}
/-- one turn's word: what is yielded, kept or not, put into the set at D -/
def TurnI (w : World) (g : TG) (tt : TT) (te : TE) (vs : List Nat) (σ : St) (D : Addr) (Nx : Hp → Prop) (x : V) (K : Hp) : Prop :=
  g x (wipe σ vs) K fun σ2 K2 => wipe σ2 vs = wipe σ vs ∧ tt σ2 K2 fun b K3 =>
    if b = true then te σ2 K3 fun y K4 => ∃ (c : Int) (S : Int → Bool) (n : Nat), y = .int c ∧ K4 D = some (SetO w D S n) ∧ n + 1 < scanBound ∧ Nx (upd K4 D (SetO w D (fun j => S j || decide (j = c)) (if S c = true then n else n + 1))) else Nx K3
def tSci (w : World) (wi : TI) (g : TG) (tt : TT) (te : TE) (vs : List Nat) : TE := fun σ H Q =>
  wi σ H fun J G => ∀ D, G D = none → ∃ M : Nat → Nat → Hp → Prop, (∃ m, M 0 m (upd G D (SetO w D (fun _ => false) 0))) ∧
    ∀ i m K, M i m K → (J.stop i K ∧ Q (.ref D) K) ∨ (J.go i K ∧ ∃ Nx : Hp → Prop, (∀ K', Nx K' → ∃ m', m' < m ∧ M (i + 1) m' K') ∧ ∀ x K', J.yld i K x K' → TurnI w g tt te vs σ D Nx x K')
theorem pe_sci {elt tg iter : Expr} {ifs : List Expr} {scope : Scope} {own : List (PySem.Str × Nat)} {pos : Pos} {wi : TI} {g : TG} {tt : TT} {te : TE} (calm : X.calm = true) (nd : X.N.Nodup) (src : PI X tg iter wi) (blk : BlkOk X.N X.env.scope scope own)
    (ptg : ∀ (z : Shared) (G : Hp) (C : Addr) (cl : List (PySem.Str × Addr)) (ft : List Addr), PG (X.blk z G scope (compEnvC scope cl C X.env) ft) tg g)
    (pif : ∀ (z : Shared) (G : Hp) (C : Addr) (cl : List (PySem.Str × Addr)) (ft : List Addr), PTs (X.blk z G scope (compEnvC scope cl C X.env) ft) ifs tt)
    (pel : ∀ (z : Shared) (G : Hp) (C : Addr) (cl : List (PySem.Str × Addr)) (ft : List Addr), PE (X.blk z G scope (compEnvC scope cl C X.env) ft) elt te)
    (fold : ∀ x, foldedSetIterable iter X.env x = pure x := by intro _; rfl) : PE X (.SetComp elt [⟨tg, iter, ifs, 0⟩] scope pos) (tSci X.w wi g tt te (own.map (·.2))) := by
  refine ⟨fun pins z0 σ G0 Q I0 word => ?_⟩
  rw [PpSet.eval_SetComp]
  have bound : ∀ y ∈ scope.names, y.2 = .free → ∃ c, X.env.cells.lookup y.1 = some c := fun y hy e => (blk.free y hy e).elim (fun k => I0.ok.has _ (.inl k)) fun k => I0.ok.has _ (.inr k)
  refine wpAny_comprehension_free (use := none) rfl fold (closure_ok bound) blk.kind (fun y hy e => by rw [blk.uniq y hy, e])
    (thn (src.run pins z0 σ G0 _ I0 word) fun _ _ got => thn got fun _ z1 found => ?_)
  obtain ⟨it, ft, tn, J, G1, rfl, I1, T, st1, fr1, rest⟩ := found
  refine PpSet.newSet_ok (newEnv_comp ?_)
  -- the new set stands at D
  obtain ⟨D, eD⟩ : ∃ D, D = z1.heap.objs.size := ⟨_, rfl⟩
  have freeD : G1 D = none := I1.hok.fresh (Nat.le_of_eq eD.symm)
  obtain ⟨M, ⟨m0, M0⟩, each⟩ := rest D freeD
  obtain ⟨z2, e2⟩ : ∃ z2 : Shared, z2 = { z1 with heap := z1.heap.push (e0 X.w) } := ⟨_, rfl⟩
  have heap2 : z2.heap = z1.heap.push (e0 X.w) := by rw [e2]
  have I2 : Inv X pins σ (upd G1 D (SetO X.w D (fun _ => false) 0)) z2 := by
    rw [e2]
    refine I1.laid (t' := z1.toks) (fun _ _ => Heap.get?_push_of_some _) (Nat.le_of_eq eD.symm) ?_
    rw [eD]
    exact setO_new (setR_fresh X.w)
  have below : ∀ b ∈ ft, b < z1.heap.objs.size := fun b hb => (T.obj _ _ st1 b hb).elim fun _ h => Heap.lt_size h.1
  have fr2 : ∀ b ∈ ft, FpOk X pins (upd G1 D (SetO X.w D (fun _ => false) 0)) b ∧ b < z2.heap.objs.size := fun b hb => by
    have lt := below b hb
    refine ⟨⟨?_, (fr1 b hb).2⟩, ?_⟩
    · rw [upd_ne (fun e => Nat.lt_irrefl z1.heap.objs.size (by rw [e, eD] at lt; exact lt))]
      exact (fr1 b hb).1
    · rw [heap2, Heap.size_push]
      exact Nat.lt_succ_of_lt lt
  have st2 : tn 0 z2.heap := T.keep _ _ _ st1 fun b _ o e => heap2 ▸ Heap.get?_push_of_some _ e
  -- within the block
  have IB := block_start I2 blk nd fr2
  have bt := ptg z2 (upd G1 D (SetO X.w D (fun _ => false) 0)) z2.heap.objs.size (cellsFrom (z2.heap.objs.size + 1) scope.names (cloFrom X.env.cells scope.names [])) ft
  have bi := pif z2 (upd G1 D (SetO X.w D (fun _ => false) 0)) z2.heap.objs.size (cellsFrom (z2.heap.objs.size + 1) scope.names (cloFrom X.env.cells scope.names [])) ft
  have be := pel z2 (upd G1 D (SetO X.w D (fun _ => false) 0)) z2.heap.objs.size (cellsFrom (z2.heap.objs.size + 1) scope.names (cloFrom X.env.cells scope.names [])) ft
  have goal : codeAny (model X.prog X.w) X.A (.compStart (.SetComp elt [⟨tg, iter, ifs, 0⟩] scope pos) 0 (.ref it) (.ref D) (compEnvC scope (cellsFrom (z2.heap.objs.size + 1) scope.names (cloFrom X.env.cells scope.names [])) z2.heap.objs.size X.env))
      (compPost (model X.prog X.w) X.A X.xe none (EP X pins σ Q) (.ref D) z2.heap.objs.size) { z2 with heap := pushCells (z2.heap.push { cls := .type "dict", data := .dict #[] }) scope.names } := by
    have away : ∀ b ∈ ft, (upd G1 D (SetO X.w D (fun _ => false) 0)) b = none := fun b hb => (fr2 b hb).1.1
    generalize hce : compEnvC scope (cellsFrom (z2.heap.objs.size + 1) scope.names (cloFrom X.env.cells scope.names [])) z2.heap.objs.size X.env = ce at IB bt bi be ⊢
    have at_ : ce.locals = z2.heap.objs.size := by rw [← hce]; rfl
    generalize upd G1 D (SetO X.w D (fun _ => false) 0) = G2 at I2 IB bt bi be M0 away fr2
    generalize hz3 : ({ z2 with heap := pushCells (z2.heap.push { cls := .type "dict", data := .dict #[] }) scope.names } : Shared) = z3 at IB ⊢
    have st3 : tn 0 z3.heap := T.keep _ _ _ st2 fun b _ o e => hz3 ▸ pushCells_keeps _ _ _ _ (Heap.get?_push_of_some _ e)
    have ledger : ∀ {σ' : St} {K : Hp} {z : Shared}, Inv (X.blk z2 G2 scope ce ft) [] σ' K z → (∀ b ∈ ft, K b = none) → ∀ b ∈ ft, FpOk (X.blk z2 G2 scope ce ft) [] K b := fun I' off b hb =>
      ⟨off b hb, (I'.ok.exf b hb).1, I'.ok.exfs b hb, .inl hb, fun x c e => (I'.ok.exf b hb).2 x c e, fun p hp => nomatch (show p ∈ ([] : List (Addr × Obj)) ++ [] from hp)⟩
    have turns : codeAny (model X.prog X.w) X.A (.compLoop (.SetComp elt [⟨tg, iter, ifs, 0⟩] scope pos) 0 (.ref it) (.ref D) ce) (compPost (model X.prog X.w) X.A X.xe none (EP X pins σ Q) (.ref D) z2.heap.objs.size) z3 := by
      refine PpSet.compLoopS_any (fun m z => ∃ i K, Inv (X.blk z2 G2 scope ce ft) [] (wipe σ (own.map (·.2))) K z ∧ tn i z.heap ∧ (∀ b ∈ ft, K b = none) ∧ M i m K) ?_ m0 ⟨0, G2, IB, st3, away, M0⟩
      rintro m z4 ⟨i, K4, I4, st4, off4, M4⟩
      rcases each i m K4 M4 with ⟨stop, told⟩ | ⟨go, Nx, next, turn⟩
      · -- all are drawn
        refine thnF (T.done (X.blk z2 G2 scope ce ft) rfl rfl rfl calm i [] z4 _ K4 (fun _ _ => False) I4 (ledger I4 off4) st4 stop) fun r z5 ⟨hr, I5⟩ => ?_
        subst hr
        have IX : Inv X pins σ K4 z5 := I2.call' (ch := ft) I5.os I5.base I5.hok I5.bare fun b hb =>
          have f := (fr2 b hb).1.2
          ⟨f.2.2.1, f.1, f.2.2.2.1, f.2.2.2.2⟩
        have here : K4 ce.locals = none := I5.free
        obtain ⟨k, ns, _⟩ := I5.loc
        have ns' : z5.heap.Ns ce.locals k := ns
        rw [at_] at here ns'
        obtain ⟨_, p1, p2, p3, p4, p5⟩ := I2.fpOk (Nat.le_refl _) here
        exact ⟨k, ns', fun hp sb => ⟨.ref D, K4, IX.turned (t' := z5.toks) (fun b o hb e => (sb.2 b hb).trans e) here p1 p3 p4 p5, rfl, told⟩⟩
      · -- one more
        refine thnF (T.item (X.blk z2 G2 scope ce ft) rfl rfl rfl calm i [] z4 _ K4 (fun _ _ => False) I4 (ledger I4 off4) st4 go) fun r z5 ⟨u, hr, drawn⟩ => ?_
        subst hr
        refine thnF drawn fun _ z6 ⟨x, K6, I6, rel, yl, st6, off6⟩ => ?_
        have P6 := I6.pinned (ledger I6 off6) (T.obj _ _ st6)
        have tw := turn x K6 yl
        refine thnF (bt.run _ z6 _ K6 x u _ P6 rel tw) fun _ z7 ⟨σ7, K7, I7, wp, q7⟩ => ?_
        refine thnF (bi.run _ z7 σ7 K7 _ I7 q7) fun keep z8 ⟨K8, I8, q8⟩ => ?_
        have onward : ∀ {z : Shared} {K : Hp}, Inv (X.blk z2 G2 scope ce ft) ([] ++ pinsAt ft z6.heap) σ7 K z → Nx K → ∃ m', m' < m ∧ ∃ j K, Inv (X.blk z2 G2 scope ce ft) [] (wipe σ (own.map (·.2))) K z ∧ tn j z.heap ∧ (∀ b ∈ ft, K b = none) ∧ M j m' K := fun {z K} I' nx => by
          obtain ⟨m', lt, M'⟩ := next K nx
          have still : ∀ b ∈ ft, ∀ o, z6.heap.get? b = some o → z.heap.get? b = some o ∧ K b = none := fun b hb o e =>
            have pn := I'.pin (b, o) (List.mem_append_right _ (List.mem_append_right _ (mem_pinsAt hb e)))
            ⟨pn.1, pn.2.1⟩
          have len : (wipe σ (own.map (·.2))).length = σ7.length := by rw [← wp, wipe_length]
          refine ⟨m', lt, i + 1, K, (I'.unpinned (pins := [])).weak len (fun j v e => (wipe_some (wp.symm ▸ e)).1), T.keep _ _ _ st6 fun b hb o e => (still b hb o e).1, fun b hb => ?_, M'⟩
          obtain ⟨o, e, _⟩ := T.obj _ _ st6 b hb
          exact (still b hb o e).2
        cases keep with
        | false =>
          rw [if_neg Bool.false_ne_true] at q8 ⊢
          exact onward I8 q8
        | true =>
          rw [if_pos rfl] at q8 ⊢
          refine thnF (be.run _ z8 σ7 K8 _ I8 q8) fun v z9 ⟨y, K9, I9, ry, c, S, n, ey, at9, room, nx⟩ => ?_
          subst ey
          refine thnF (mt_sadd (X := X.blk z2 G2 scope ce ft) _ z9 σ7 K9 (.ref D) [.int c] (.ref D) [v] (fun _ K => Nx K) I9 rfl (.cons ry .nil) ⟨D, c, S, n, rfl, rfl, at9, room, nx⟩) fun _ z10 ⟨_, K10, I10, _, nx10⟩ => onward I10 nx10
    exact PpSet.codeAny_compStart_set turns (T.self X.A 0 _ _ _ st3 turns)
  rw [e2] at goal
  subst eD
  exact goal
end
end L2

namespace L2
open PySem PySem.Spec PyProof.Rows
/-! ### sorted of data alike; one pair above another -/
section
variable {X : Cx}
def rSortedD (K : PySem.W.Frag) : List V → Hp → VK → Prop := fun vs H Q => ∃ (a : Addr) (bs : List (V × PyData)), vs = [V.ref a] ∧ SqL K H a (bs.map (·.1)) ∧ (∀ b ∈ bs, Dp K H b.1 b.2) ∧ PySem.W.AllAlike (bs.map (·.2)) ∧ PySem.W.Sortable (bs.map (·.2)) ∧ (∀ b ∈ bs, b.2.depth ≤ 8) ∧
  ∀ p, H p = none → Q (.ref p) (upd H p (.lst ((bs.mergeSort (PySem.W.dataLe false (·.2))).map (·.1))))
theorem each_vals : ∀ {bs : List (V × PyData)} {its : List Value}, Vals (bs.map (·.1)) its → PySem.W.EachIs (fun (v : Value) (b : V × PyData) => RelV b.1 v) its bs
  | [], _, r => by
    cases r
    exact .nil
  | b :: bs, _, r => by
    cases (show Vals (b.1 :: bs.map (·.1)) _ from r) with
    | cons r1 r2 => exact .cons r1 (each_vals r2)
theorem vals_each : ∀ {bs : List (V × PyData)} {its : List Value}, PySem.W.EachIs (fun (v : Value) (b : V × PyData) => RelV b.1 v) its bs → Vals (bs.map (·.1)) its
  | _, _, .nil => .nil
  | _, _, .cons r1 r2 => .cons r1 (vals_each r2)
theorem each_reads {pins : List (Addr × Obj)} {σ : St} {H : Hp} {s : Shared} (I : Inv X pins σ H s) : ∀ {bs : List (V × PyData)} {its : List Value}, PySem.W.EachIs (fun (v : Value) (b : V × PyData) => RelV b.1 v) its bs → (∀ b ∈ bs, Dp X.K H b.1 b.2) → PySem.W.EachIs (fun v (b : V × PyData) => ∃ as, Reads s.heap v b.2 as) its bs
  | _, _, .nil, _ => .nil
  | _, _, .cons r1 r2, h => .cons (Dp.reads I _ _ _ (h _ List.mem_cons_self) r1) (each_reads I r2 fun b hb => h b (List.mem_cons_of_mem _ hb))
theorem cr_sortedD (hu : X.A.units + 64 < cLine) : CallR X (.builtin "sorted") (rSortedD X.K) := by
  intro pins s σ H vs us Q I r h
  obtain ⟨a, bs, rfl, hs, hd, hal, hk, hdep, q⟩ := h
  obtain ⟨its, rv, hl, hz⟩ := I.list hs
  rw [Vals.ref1 r]
  have e1 := each_vals rv
  rw [List.length_map] at hz
  refine PySem.W.sorted_data (R := fun (v : Value) (b : V × PyData) => RelV b.1 v) (enc := fun b : V × PyData => b.2) hl.isList e1 (each_reads I e1 hd) hal hk hz (fun b hb => by have := hdep b hb; omega) fun out hlen eo => ?_
  obtain ⟨ep, he'⟩ := PyProof.Rows.sortedAll_at s.heap its out.toArray
  have hlen2 : ((bs.mergeSort (PySem.W.dataLe false (·.2))).map (·.1)).length ≤ sizeLine := by
    rw [List.length_map, List.length_mergeSort]
    exact hz
  exact ⟨.ref _, upd H (s.heap.objs.size + 1) (.lst ((bs.mergeSort (PySem.W.dataLe false (·.2))).map (·.1))), I.laid (t' := s.toks) (fun _ _ => PyProof.Rows.sortedAll_old) (Nat.le_succ _) ⟨hlen2, out, ep, vals_each eo, he'⟩, rfl, q _ (I.hok.fresh (Nat.le_succ _))⟩
theorem lexAt_shift (e r : Nat → Bool) (z : Bool) : ∀ (k i : Nat), Ob.lexAt e r z (i + 1) k = Ob.lexAt (fun j => e (j + 1)) (fun j => r (j + 1)) z i k
  | 0, _ => rfl
  | k + 1, i => by
    rw [Ob.lexAt_succ, Ob.lexAt_succ, lexAt_shift e r z k (i + 1)]
theorem lexAt_ints : ∀ ns ms : List Int, Ob.lexAt (fun j => decide (ns.getD j 0 = ms.getD j 0)) (fun j => decide (ms.getD j 0 < ns.getD j 0)) (decide (ns.length > ms.length)) 0 (min ns.length ms.length) = decide (ms < ns)
  | [], [] => by
    show decide (0 > 0) = _
    simp
  | [], m :: ms => by
    show decide (0 > (m :: ms).length) = _
    simp
  | n :: ns, [] => by
    show decide ((n :: ns).length > 0) = _
    simp
  | n :: ns, m :: ms => by
    rw [show min (n :: ns).length (m :: ms).length = min ns.length ms.length + 1 by rw [List.length_cons, List.length_cons]; omega, Ob.lexAt_succ, lexAt_shift]
    have ih := lexAt_ints ns ms
    rw [show decide ((n :: ns).length > (m :: ms).length) = decide (ns.length > ms.length) from decide_eq_decide.mpr (by rw [List.length_cons, List.length_cons]; omega)]
    show (if decide (n = m) = true then Ob.lexAt (fun j => decide (ns.getD j 0 = ms.getD j 0)) (fun j => decide (ms.getD j 0 < ns.getD j 0)) (decide (ns.length > ms.length)) 0 (min ns.length ms.length) else decide (m < n)) = _
    rw [ih]
    have hc : ((m :: ms) < (n :: ns)) ↔ (m < n ∨ (m = n ∧ ms < ns)) := List.cons_lt_cons_iff
    by_cases h : n = m
    · subst h
      rw [decide_eq_true rfl, if_pos rfl]
      exact decide_eq_decide.mpr (by rw [hc]; exact ⟨fun z => .inr ⟨rfl, z⟩, fun z => z.elim (fun y => absurd y (Int.lt_irrefl _)) (·.2)⟩)
    · rw [decide_eq_false h, if_neg Bool.false_ne_true]
      exact decide_eq_decide.mpr (by rw [hc]; exact ⟨.inl, fun z => z.elim id fun y => absurd y.1.symm h⟩)
def gtM (a : Int) (ns : List Int) (b : Int) (ms : List Int) : Bool := if a = b then decide (ms < ns) else decide (b < a)
/-- (a, ns) > (b, ms) -/
def rGtM (K : PySem.W.Frag) : R2 := fun x y H Q => ∃ (p q u v : Addr) (a b : Int) (ns ms : List Int), x = .ref p ∧ y = .ref q ∧ SqT K H p [.int a, .ref u] ∧ SqT K H u (ns.map V.int) ∧ SqT K H q [.int b, .ref v] ∧ SqT K H v (ms.map V.int) ∧ Q (.bl (gtM a ns b ms)) H
theorem beq_dec (i j : Int) : (i == j) = decide (i = j) := by
  by_cases q : i = j
  · rw [decide_eq_true q]; exact beq_iff_eq.mpr q
  · rw [decide_eq_false q]; exact beq_eq_false_iff_ne.mpr q
theorem gt_ints {A : Around} {pins : List (Addr × Obj)} {σ : St} {H : Hp} {s : Shared} (I : Inv X pins σ H s) {u v : Addr} {ns ms : List Int} (hu : SqT X.K H u (ns.map V.int)) (hv : SqT X.K H v (ms.map V.int)) (hA : A.units < cLine) : Ob.RcOp .Gt A s (.ref u) (.ref v) (decide (ms < ns)) := by
  obtain ⟨its, r1, p1, _⟩ := I.tuple hu
  obtain ⟨its2, r2, p2, _⟩ := I.tuple hv
  have i1 : IntsAre its ns := Vals.ints r1
  have i2 : IntsAre its2 ms := Vals.ints r2
  have e1 : its.toArray.size = ns.length := by rw [List.size_toArray]; exact i1.length
  have e2 : its2.toArray.size = ms.length := by rw [List.size_toArray]; exact i2.length
  have at1 : ∀ j (h1 : j < its.toArray.size), ∃ t, its.toArray[j] = .int (ns.getD j 0) t := fun j h1 => PyProof.Rows.IntsAre.int_at i1 _ _ (by simp at h1; simp [h1])
  have at2 : ∀ j (h1 : j < its2.toArray.size), ∃ t, its2.toArray[j] = .int (ms.getD j 0) t := fun j h1 => PyProof.Rows.IntsAre.int_at i2 _ _ (by simp at h1; simp [h1])
  have R := Ob.RcOp.tuples_gt (A := A) (s := s) (e := fun j => decide (ns.getD j 0 = ms.getD j 0)) (r := fun j => decide (ms.getD j 0 < ns.getD j 0)) p1 p2 hA (fun j h1 h2 => by
    obtain ⟨t, et⟩ := at1 j h1
    obtain ⟨t', et'⟩ := at2 j h2
    rw [et, et', ← beq_dec]
    exact SeqAt.EqAt.int_int _ _ _ _) (fun j h1 h2 _ => by
    obtain ⟨t, et⟩ := at1 j h1
    obtain ⟨t', et'⟩ := at2 j h2
    rw [et, et']
    exact Ob.RcOp.gt_int _ _ _ _)
  rw [e1, e2, lexAt_ints] at R
  exact R
theorem eq_ints {A : Around} {pins : List (Addr × Obj)} {σ : St} {H : Hp} {s : Shared} (I : Inv X pins σ H s) {u v : Addr} {ns ms : List Int} (hu : SqT X.K H u (ns.map V.int)) (hv : SqT X.K H v (ms.map V.int)) (hA : A.units + 8 < cLine) : SeqAt.EqAt A s (.ref u) (.ref v) (PyData.eqv (.tuple (ns.map .int)) (.tuple (ms.map .int))) := by
  have dpi : ∀ l : List Int, DpAll X.K H (l.map V.int) (l.map PyData.int) := fun l => by
    induction l with
    | nil => exact .nil
    | cons x l ih => exact .cons (.int x) ih
  obtain ⟨as, r1⟩ := Dp.reads I (.tuple (ns.map .int)) (.ref u) (.ref u) (.tup hu (dpi ns)) rfl
  obtain ⟨bs, r2⟩ := Dp.reads I (.tuple (ms.map .int)) (.ref v) (.ref v) (.tup hv (dpi ms)) rfl
  refine PySem.W.eqAt_alike _ _ A s _ _ as bs r1 r2 (PySem.W.alike_ints ns ms) ?_
  have d1 : (PyData.tuple (ns.map .int)).depth = 1 := by rw [PyData.depth, PySem.W.depth_ints]
  rw [d1]
  omega
theorem op_gtM (hu : X.A.units + 64 < cLine) : OpR X (compareOp .Gt) (rGtM X.K) := by
  intro pins s σ H x y v u Q I rx ry h
  obtain ⟨p, q, t1, t2, a, b, ns, ms, rfl, rfl, hp, h1, hq, h2, k⟩ := h
  cases rx
  cases ry
  obtain ⟨its, r1, p1, _⟩ := I.tuple hp
  obtain ⟨its2, r2, p2, _⟩ := I.tuple hq
  obtain ⟨w1, w2, rfl, ⟨k1, rfl⟩, rfl⟩ := vals2 r1
  obtain ⟨w3, w4, rfl, ⟨k2, rfl⟩, rfl⟩ := vals2 r2
  have in1 : X.A.in1.units ≤ X.A.units + 1 := by
    first
      | exact Nat.le_refl _
      | (unfold Around.in1; simp)
  have R := Ob.RcOp.tuples_gt (A := X.A) (s := s) (e := fun j => if j = 0 then decide (a = b) else PyData.eqv (.tuple (ns.map .int)) (.tuple (ms.map .int))) (r := fun j => if j = 0 then decide (b < a) else decide (ms < ns)) p1 p2 (by omega) (fun j j1 j2 => by
    match j, j1, j2 with
    | 0, _, _ => exact beq_dec a b ▸ SeqAt.EqAt.int_int _ _ _ _
    | 1, _, _ => exact eq_ints I h1 h2 (by omega)) (fun j j1 j2 _ => by
    match j, j1, j2 with
    | 0, _, _ => exact Ob.RcOp.gt_int _ _ _ _
    | 1, _, _ => exact gt_ints I h1 h2 (by omega))
  refine R X.prog X.w X.xe _ ⟨.bl (gtM a ns b ms), H, I, ?_, k⟩
  show Value.bool _ = _
  congr 1
  show (if decide (a = b) = true then (if PyData.eqv (.tuple (ns.map .int)) (.tuple (ms.map .int)) = true then decide (2 > 2) else decide (ms < ns)) else decide (b < a)) = gtM a ns b ms
  unfold gtM
  by_cases e : a = b
  · rw [decide_eq_true e, if_pos rfl, if_pos e]
    by_cases z : PyData.eqv (.tuple (ns.map .int)) (.tuple (ms.map .int)) = true
    · rw [if_pos z]
      have : ns = ms := by
        have key : ∀ xs ys : List Int, PyData.eqvAll (xs.map .int) (ys.map .int) = true → xs = ys := by
          intro xs
          induction xs with
          | nil => intro ys h; cases ys with
            | nil => rfl
            | cons y ys => exact absurd h (by simp [PyData.eqvAll])
          | cons x xs ih => intro ys h; cases ys with
            | nil => exact absurd h (by simp [PyData.eqvAll])
            | cons y ys =>
              have h' : (x == y && PyData.eqvAll (xs.map .int) (ys.map .int)) = true := h
              rw [Bool.and_eq_true] at h'
              rw [beq_iff_eq.mp h'.1, ih ys h'.2]
        exact key ns ms z
      rw [this, decide_eq_false (List.lt_irrefl ms)]
      rfl
    · rw [if_neg z]
  · rw [decide_eq_false e, if_neg Bool.false_ne_true, if_neg e]
end
end L2

namespace L2
open PySem PySem.Spec PyProof.Rows
/-! ### list(d.values()) -/
def tListVals (td : TE) : TE := fun σ H Q => td σ H fun x G => ∃ d kvs, x = V.ref d ∧ G d = some (.dK kvs) ∧ ∀ p, G p = none → Q (.ref p) (upd G p (.lst (kvs.map (·.2))))
section
variable {X : Cx} {o : Expr} {p pos apos mpos : Pos} {td : TE}
theorem pe_listVals (hc : X.calm = true) (hg : Gl X "list") (hm : X.mg "list" = none) (hd : PE X o td) (base : attributeBase o "values" X.env (eval o X.env) = eval o X.env := by rfl) (line : (apos.endLine == mpos.line) = true := by rfl)
    (alone : starEach [Expr.Call (.Attribute o "values" apos) [] [] mpos] X.env = [(false, eval (Expr.Call (.Attribute o "values" apos) [] [] mpos) X.env)] := by rfl) :
    PE X (.Call (.Name "list" p) [.Call (.Attribute o "values" apos) [] [] mpos] [] pos) (tListVals td) := by
  refine ⟨fun pins s0 σ H Q I0 word => Call_ (ld_blt I0 hg hm boot_list (PyProof.Rows.callWith_type1 (PyProof.Rows.args_cons (wpAny_Call_method0_late base line (thn (hd.run pins s0 σ H _ I0 word) fun v s1 got => ?_)) alone) alone rfl))⟩
  obtain ⟨x, G, I1, rel, d, kvs, rfl, hk, q⟩ := got
  obtain rfl : v = Value.ref d := rel
  obtain ⟨sz, sys, vs, kv, dof⟩ := dk_of I1.hok hk
  obtain ⟨ep, dat⟩ := dof.dictAt
  have dat0 := dat
  obtain ⟨ob, es, ho, ex, _, _, _, _⟩ := dat0
  refine ⟨"dict", "dict.values", F.plainAttrs_dict, F.slot_dict_values, F.type_dict_values, ⟨ob, ho, ex.1⟩, (fun b e => by cases e; exact ⟨ob, ho, ex.2.1⟩), Calls.callWith_builtin rfl (PySem.evalArgs_none ?_)⟩
  refine call_meetsIn F.slot_dict_values ⟨ob, ho, ex.1⟩ F.entry_dict_values (F.args_dict_values_1 _) (meets_dict_values (mixKind X.prog X.w) d sys) ⟨⟨vs, dof⟩, PyProof.Rows.args_nil ?_⟩
  have I2 : Inv X pins σ G { s1 with heap := s1.heap.push { cls := .type "dict_values", data := .fields #[.ref d] } } := I1.kept (t' := s1.toks) fun b u e => Heap.get?_push_of_some _ e
  have len : kvs.length = vs.length := KV.length kv
  refine PySem.W.kdl_call (s := { s1 with heap := s1.heap.push { cls := .type "dict_values", data := .fields #[.ref d] } }) (PySem.W.kdl_values (knd := mixKind X.prog X.w) (r := s1.heap.objs.size) (d := d) (kvs := vs) (ep := ep)) (I1.ok.hd hc) ⟨⟨_, Heap.get?_push_size _ rfl, rfl, rfl⟩, dat.keep fun b u e => Heap.get?_push_of_some _ e⟩ (by rw [← len]; exact sz) fun h' tk acc c keep at_ items => ?_
  refine ⟨.ref _, upd G _ (.lst (kvs.map (·.2))), I2.laid (t' := tk) keep (Nat.le_refl _) ⟨by rw [List.length_map]; exact sz, acc.toList, c, ?_, at_⟩, rfl, q _ (I2.hok.fresh (Nat.le_refl _))⟩
  have la : acc.toList.length = acc.size := by simp
  refine vals_of_at (by rw [List.length_map, la, items.1, len]) fun j y u h1 h2 => ?_
  obtain ⟨k, hkv⟩ := items.2 j u (by rw [← Array.getElem?_toList]; exact h2)
  obtain ⟨z, hz, rz⟩ := KV.at' kv hkv
  rw [List.getElem?_map, hz] at h1
  cases h1
  exact rz
end
end L2

namespace G
open PySem PySem.Spec PyProof.Rows L2 PM
abbrev s_multiplied : Stmt := topS 26
theorem sc_multiplied : FnScope ["numbers", "answer", "number"] ["numbers"] (defScope s_multiplied) := ⟨rfl, rfl, rfl, by decide +kernel, rfl, by decide +kernel, by decide +kernel⟩
abbrev s_ranks_below : Stmt := topS 24
theorem sc_ranks_below : FnScope ["number", "sizes", "odd"] ["number", "sizes"] (defScope s_ranks_below) := ⟨rfl, rfl, rfl, by decide +kernel, rfl, by decide +kernel, by decide +kernel⟩
abbrev s_all_ranks : Stmt := topS 25
theorem sc_all_ranks : FnScope ["sizes"] ["sizes"] (defScope s_all_ranks) := ⟨rfl, rfl, rfl, by decide +kernel, rfl, by decide +kernel, by decide +kernel⟩
abbrev s_wanted : Stmt := topS 23
theorem sc_wanted : FnScope ["number", "sizes", "rank", "alike", "first"] ["number", "sizes", "rank"] (defScope s_wanted) := ⟨rfl, rfl, rfl, by decide +kernel, rfl, by decide +kernel, by decide +kernel⟩
abbrev s_raised : Stmt := topS 22
theorem sc_raised : FnScope ["game", "sizes", "ranks", "found", "player", "number", "ways", "wants", "way"] ["game", "sizes", "ranks"] (defScope s_raised) := ⟨rfl, rfl, rfl, by decide +kernel, rfl, by decide +kernel, by decide +kernel⟩
abbrev s_least_ranks : Stmt := topS 21
theorem sc_least_ranks : FnScope ["game", "sizes", "ranks", "higher"] ["game", "sizes"] (defScope s_least_ranks) := ⟨rfl, rfl, rfl, by decide +kernel, rfl, by decide +kernel, by decide +kernel⟩
def ctV (n : Nat) : V := .int (n : Int)
theorem prodL (s : Int → Nat) : ∀ (os : List Int) (a : Nat), (os.map s).foldl (· * ·) a = a * prodS s os
  | [], a => (Nat.mul_one a).symm
  | o :: os, a => by
    show (os.map s).foldl (· * ·) (a * s o) = a * (s o * prodS s os)
    rw [prodL s os, Nat.mul_assoc]
section
variable {P : Program} {w : World} {K : PySem.W.Frag} {mg : Str → Option Value} {base : Heap}
def spMult (K : PySem.W.Frag) : Sp := fun vs H Q _ => ∃ (a : Addr) (l : List Nat), vs = [.ref a] ∧ SqL K H a (l.map ctV) ∧ (∀ n ∈ l, n ≤ 1000) ∧ Q (ctV (l.foldl (· * ·) 1)) H
theorem ok_multiplied {f : Addr} {fd : FuncData} (F : Fun K "multiplied" "multiplied" s_multiplied f fd) : FnOk P w K mg base (L2.CX P w) 1 f fd ["numbers"] (spMult K) := by
  refine F.okX sc_multiplied (fun vs H Q E h => ?_) (fun cdv Ar outer s0 H vs Q E hr h => ?_)
  · obtain ⟨a, l, rfl, _⟩ := h
    rfl
  · obtain ⟨a, l, rfl, hS, hb, q⟩ := h
    refine ⟨_, (pss_cons (ps_set (i := 1) sc_multiplied.nd rfl (Or.inl rfl) pe_int)
      (pss_cons (ps_for (passes_of rfl) rfl (pi_list (pv 0)) (pg_name (i := 2) sc_multiplied.nd rfl (Or.inl rfl)) (pss_one (ps_set (i := 1) sc_multiplied.nd rfl (Or.inl rfl) (pe_op op_mul (pv 1) (pv 2)))))
      (pss_one (ps_ret (pv 1))))), ?_⟩
    refine ⟨_, rfl, a, rfl, ⟨_, hS⟩, for_list (K := K) (a := a) (xs := l.map ctV) (fun j σ H' => ∃ y2 : Option V, σ = [some (.ref a), some (ctV ((l.take j).foldl (· * ·) 1)), y2] ∧ H' = H) ⟨none, rfl, rfl⟩ (fun j σ H' _ ⟨_, _, e⟩ => by rw [e]; exact hS) (fun j x σ H' hj hP => ?_) (fun σ H' hP => ?_)⟩
    · obtain ⟨y2, rfl, rfl⟩ := hP
      rw [List.getElem?_map] at hj
      obtain ⟨n, hn, rfl⟩ := Option.map_eq_some_iff.mp hj
      have := hb n (List.mem_of_getElem? hn)
      refine ⟨_, rfl, _, rfl, _, _, rfl, rfl, .inr ⟨by omega, by omega⟩, ?_⟩
      refine ⟨some (ctV n), ?_, rfl⟩
      rw [List.take_add_one, hn, List.foldl_append]
      show [some (V.ref a), some (V.int ((((l.take j).foldl (· * ·) 1 : Nat) : Int) * (n : Int))), some (ctV n)] = [some (V.ref a), some (ctV ((l.take j).foldl (· * ·) 1 * n)), some (ctV n)]
      unfold ctV
      rw [Int.natCast_mul]
    · obtain ⟨y2, rfl, rfl⟩ := hP
      rw [List.length_map, List.take_length]
      exact ⟨_, rfl, q⟩
/-- the dict of sizes -/
def SzAt (H : Hp) (d : Addr) (os : List Int) (s : Int → Nat) : Prop := H d = some (.dK (dkOf os fun o => ctV (s o))) ∧ os.length ≤ 40 ∧ ∀ o, s o ≤ 1000
theorem SzAt.mono {H H' : Hp} {d : Addr} {os : List Int} {s : Int → Nat} (h : SzAt H d os s) (sm : Same H H') : SzAt H' d os s := ⟨sm _ _ h.1, h.2⟩
def spBelow : Sp := fun vs H Q _ => ∃ (n : Int) (d : Addr) (os : List Int) (s : Int → Nat), vs = [.int n, .ref d] ∧ SzAt H d os s ∧ ∀ H', Same H H' → Q (ctV (below s os n)) H'
theorem ok_ranks_below {f : Addr} {fd : FuncData} (F : Fun K "ranks_below" "ranks_below" s_ranks_below f fd) (C_multiplied : Cal P w K mg base 1 "multiplied" (spMult K)) : FnOk P w K mg base (L2.CX P w) 2 f fd ["number", "sizes"] spBelow := by
  refine F.okX sc_ranks_below (fun vs H Q E h => ?_) (fun cdv Ar outer s0 H vs Q E hr h => ?_)
  · obtain ⟨n, d, os, s, rfl, _⟩ := h
    rfl
  · obtain ⟨n, d, os, s, rfl, ⟨hd, hl, hs⟩, q⟩ := h
    refine ⟨_, (pss_one (ps_ret (pe_cal C_multiplied hr (by decide) (by rfl) (pa_cons (pe_lock (pe_lc (own := [("odd", 2)]) (by rfl) sc_ranks_below.nd (pi_keys (pv 1)) (blkOk_by (own := [("odd", 2)]) (N := ["number", "sizes", "odd"]) (sc := defScope s_ranks_below) (by decide +kernel)) (fun _ _ _ _ _ => (pg_name (i := 2) sc_ranks_below.nd rfl (Or.inl rfl))) (fun _ _ _ _ _ => (pts_one (pt_cmpR op_lt (pv 2) (pv 0) (nomark _)))) (fun _ _ _ _ _ => (pe_dget (hu_of hr) (pv 1) (pv 2) (fun _ _ => rfl))))) pa_nil)))), ?_⟩
    refine lc_dkeys (fun o => decide (o < n)) (fun o => ctV (s o)) rfl hd (by omega) (fun p H' Qe N hp bt rd q1 q2 => ?_) (fun H' D sm nD hD => ?_)
    · refine ⟨rfl, _, rfl, _, rfl, _, _, rfl, rfl, _, rfl, ite2 (fun e => ?_) (fun e => ?_)⟩
      · exact ⟨_, rfl, _, rfl, d, _, rfl, dget_some rd hp, q1 e _ (Same.refl _)⟩
      · exact q2 (Bool.eq_false_iff.mpr e) _ (Same.refl _)
    · refine ⟨D, (lo n os).map s, rfl, .inl (.inl (by rw [hD, List.map_map]; rfl)), fun k hk => ?_, ?_⟩
      · obtain ⟨o, _, rfl⟩ := List.mem_map.mp hk
        exact hs o
      · rw [prodL, Nat.one_mul]
        exact q _ sm
def spAll : Sp := fun vs H Q _ => ∃ (d : Addr) (os : List Int) (s : Int → Nat), vs = [.ref d] ∧ SzAt H d os s ∧ ∀ H', Same H H' → Q (ctV (prodS s os)) H'
theorem ok_all_ranks {f : Addr} {fd : FuncData} (B : Bt mg) (F : Fun K "all_ranks" "all_ranks" s_all_ranks f fd) (C_multiplied : Cal P w K mg base 1 "multiplied" (spMult K)) : FnOk P w K mg base (L2.CX P w) 2 f fd ["sizes"] spAll := by
  refine F.okX sc_all_ranks (fun vs H Q E h => ?_) (fun cdv Ar outer s0 H vs Q E hr h => ?_)
  · obtain ⟨d, os, s, rfl, _⟩ := h
    rfl
  · obtain ⟨d, os, s, rfl, ⟨hd, hl, hs⟩, q⟩ := h
    refine ⟨_, (pss_one (ps_ret (pe_cal C_multiplied hr (by decide) (by rfl) (pa_cons (pe_listVals (by rfl) (by rfl) B.list_ (pv 0)) pa_nil)))), ?_⟩
    refine ⟨_, rfl, d, _, rfl, hd, fun D nD => ⟨D, os.map s, rfl, .inl (.inl ?_), fun k hk => ?_, ?_⟩⟩
    · rw [upd_same]
      unfold dkOf
      rw [List.map_map, List.map_map]
      rfl
    · obtain ⟨o, _, rfl⟩ := List.mem_map.mp hk
      exact hs o
    · rw [prodL, Nat.one_mul]
      exact q _ (same_upd nD)
def spWanted : Sp := fun vs H Q _ => ∃ (n : Int) (d : Addr) (r : Nat) (os : List Int) (s : Int → Nat), vs = [.int n, .ref d, ctV r] ∧ SzAt H d os s ∧ (∀ o, 0 < s o) ∧ ∀ H', Same H H' → Q (ctV (wantN s os n r)) H'
theorem ok_wanted {f : Addr} {fd : FuncData} (B : Bt mg) (F : Fun K "wanted" "wanted" s_wanted f fd) (C_ranks_below : Cal P w K mg base 2 "ranks_below" spBelow) (C_all_ranks : Cal P w K mg base 2 "all_ranks" spAll) : FnOk P w K mg base (L2.CX P w) 3 f fd ["number", "sizes", "rank"] spWanted := by
  refine F.okX sc_wanted (fun vs H Q E h => ?_) (fun cdv Ar outer s0 H vs Q E hr h => ?_)
  · obtain ⟨n, d, r, os, s, rfl, _⟩ := h
    rfl
  · obtain ⟨n, d, r, os, s, rfl, hd, hp, q⟩ := h
    refine ⟨_, (pss_cons (ps_set (i := 3) sc_wanted.nd rfl (Or.inl rfl) (pe_cal C_ranks_below hr (by decide) (by rfl) (pa_cons (pv 0) (pa_cons (pv 1) pa_nil))))
      (pss_cons (ps_set (i := 4) sc_wanted.nd rfl (Or.inl rfl) (pe_op op_sub (pv 2) (pe_op op_mod (pv 2) (pv 3))))
      (pss_cons (ps_if (pt_cmpR op_eq (pe_op op_mod (pv 0) pe_int) pe_int (nomark _)) (pss_one (ps_ret (pv 4))) pss_nil)
      (pss_one (ps_ret (pe_callB (call_min2 rfl) (by rfl) B.min_ (by decide +kernel) (pa_cons (pe_op op_add (pv 4) (pv 3)) (pa_cons (pe_cal C_all_ranks hr (by decide) (by rfl) (pa_cons (pv 1) pa_nil)) pa_nil)))))))), ?_⟩
    refine ⟨_, rfl, _, rfl, n, d, os, s, rfl, hd, fun H1 s1 => ?_⟩
    have hB : 0 < below s os n := prodS_pos hp _
    refine ⟨_, rfl, _, rfl, _, rfl, _, _, rfl, rfl, (by show (0 : Int) < (below s os n : Nat); omega), _, _, rfl, rfl, ?_⟩
    have e1 : ((r : Int) - (r : Int) % (below s os n : Int)) = ((r - r % below s os n : Nat) : Int) := by
      rw [Int.ofNat_sub (Nat.mod_le _ _), Int.natCast_emod]
    refine ⟨_, rfl, _, _, rfl, rfl, (by show (0:Int) < 2; decide), rfl, _, rfl, ite2 (fun e => ?_) (fun e => ?_)⟩
    · have en : n % 2 = 0 := V.int.inj (of_decide_eq_true e)
      refine ⟨_, rfl, ?_⟩
      have := q _ s1
      unfold wantN at this
      rw [if_pos en] at this
      show Q (.int ((r : Int) - (r : Int) % (below s os n : Int))) H1
      rw [e1]
      exact this
    · have en : ¬ n % 2 = 0 := fun z => e (decide_eq_true (congrArg V.int z))
      refine ⟨_, rfl, _, rfl, _, _, rfl, rfl, _, rfl, d, os, s, rfl, hd.mono s1, fun H2 s2 => ⟨_, _, rfl, ?_⟩⟩
      have := q _ (s1.trans s2)
      unfold wantN at this
      rw [if_neg en] at this
      show Q (.int (if ((prodS s os : Nat) : Int) < ((r : Int) - (r : Int) % (below s os n : Int)) + ((below s os n : Nat) : Int) then ((prodS s os : Nat) : Int) else ((r : Int) - (r : Int) % (below s os n : Int)) + ((below s os n : Nat) : Int))) H2
      rw [e1]
      have e2 : (if ((prodS s os : Nat) : Int) < ((r - r % below s os n : Nat) : Int) + ((below s os n : Nat) : Int) then ((prodS s os : Nat) : Int) else ((r - r % below s os n : Nat) : Int) + ((below s os n : Nat) : Int)) = ((min (r - r % below s os n + below s os n) (prodS s os) : Nat) : Int) := by
        split <;> omega
      rw [e2]
      exact this
end
end G

namespace G
open PySem PySem.Spec PyProof.Rows L2 PM
/-! ### raised, the least ranks -/
def IsRaised (g : List Row) (os : List Int) (rho : Int → Nat) (p : Int) (r : Nat) : Prop :=
  (ownAt g p = 0 → (∃ w ∈ wsOf g p, r = wtN g os (numAt g p) (rho w)) ∧ ∀ w ∈ wsOf g p, r ≤ wtN g os (numAt g p) (rho w)) ∧
  (ownAt g p ≠ 0 → (∃ w ∈ wsOf g p, r = wtN g os (numAt g p) (rho w)) ∧ ∀ w ∈ wsOf g p, wtN g os (numAt g p) (rho w) ≤ r)
section
variable {g : List Row} {os : List Int} {rho rho' m : Int → Nat} {p : Int} {r r' : Nat}
theorem raised_mono (h : IsRaised g os rho p r) (h' : IsRaised g os rho' p r') (le : ∀ w ∈ wsOf g p, rho w ≤ rho' w) : r ≤ r' := by
  by_cases o : ownAt g p = 0
  · obtain ⟨w, hw, e⟩ := (h'.1 o).1
    rw [e]
    exact Nat.le_trans ((h.1 o).2 w hw) (want_mono (le w hw))
  · obtain ⟨w, hw, e⟩ := (h.2 o).1
    rw [e]
    exact Nat.le_trans (want_mono (le w hw)) ((h'.2 o).2 w hw)
theorem raised_enough (h : IsRaised g os rho p r) (he : Enough g os m p) (le : ∀ w ∈ wsOf g p, rho w ≤ m w) : r ≤ m p := by
  by_cases o : ownAt g p = 0
  · obtain ⟨w, hw, e⟩ := he.1 o
    exact Nat.le_trans (Nat.le_trans ((h.1 o).2 w hw) (want_mono (le w hw))) e
  · obtain ⟨w, hw, e⟩ := (h.2 o).1
    rw [e]
    exact Nat.le_trans (want_mono (le w hw)) (he.2 o w hw)
theorem raised_all (h : IsRaised g os rho p r) (le : ∀ w ∈ wsOf g p, rho w ≤ allN g os) : r ≤ allN g os := by
  have : ∃ w ∈ wsOf g p, r = wtN g os (numAt g p) (rho w) := by
    by_cases o : ownAt g p = 0
    · exact (h.1 o).1
    · exact (h.2 o).1
  obtain ⟨w, hw, e⟩ := this
  rw [e]
  exact want_le (le w hw)
theorem enough_of (h : IsRaised g os rho p r) (le : r ≤ rho p) : Enough g os rho p := by
  refine ⟨fun o => ?_, fun o w hw => Nat.le_trans ((h.2 o).2 w hw) le⟩
  obtain ⟨w, hw, e⟩ := (h.1 o).1
  exact ⟨w, hw, by rw [← e]; exact le⟩
theorem ways_in (hv : ValidG g) (hp : InG g p) {q : Int} (hq : q ∈ wsOf g p) : InG g q := by
  obtain ⟨r, hr, _, _, ew⟩ := row_at hp
  rw [ew] at hq
  exact (hv.2 r (List.mem_of_getElem? hr)).2.2.2.1 q hq
end
theorem ct_int (l : List Nat) : l.map ctV = (l.map fun n : Nat => (n : Int)).map V.int := by
  rw [List.map_map]
  rfl
def rkN (rs : List Nat) (p : Int) : Nat := (rs[p.toNat]?).getD 0
structure Chain (g : List Row) (os : List Int) (rs rs' : List Nat) : Prop where
  l1 : rs.length = g.length
  l2 : rs'.length = g.length
  up : ∀ p, InG g p → IsRaised g os (rkN rs) p (rkN rs' p)
  le : ∀ p, InG g p → rkN rs p ≤ rkN rs' p
  all : ∀ p, InG g p → rkN rs p ≤ allN g os
  least : ∀ m : Int → Nat, (∀ p, InG g p → m p ≤ allN g os) → (∀ p, InG g p → Enough g os m p) → ∀ p, InG g p → rkN rs p ≤ m p
section
variable {g : List Row} {os : List Int} {rs rs' rs2 : List Nat}
theorem Chain.all' (hv : ValidG g) (h : Chain g os rs rs') {p : Int} (hp : InG g p) : rkN rs' p ≤ allN g os := raised_all (h.up p hp) fun w hw => h.all w (ways_in hv hp hw)
theorem Chain.next (hv : ValidG g) (h : Chain g os rs rs') (l : rs2.length = g.length) (up : ∀ p, InG g p → IsRaised g os (rkN rs') p (rkN rs2 p)) : Chain g os rs' rs2 :=
  ⟨h.l2, l, up, fun p hp => raised_mono (h.up p hp) (up p hp) fun w hw => h.le w (ways_in hv hp hw), fun p hp => h.all' hv hp, fun m m1 m2 p hp => raised_enough (h.up p hp) (m2 p hp) fun w hw => h.least m m1 m2 w (ways_in hv hp hw)⟩
theorem Chain.done (h : Chain g os rs rs) : LeastR g os (rkN rs) := ⟨h.all, fun p hp => enough_of (h.up p hp) (Nat.le_refl _), h.least⟩
theorem rkN_zero {n : Nat} {p : Int} : rkN (List.replicate n 0) p = 0 := by
  unfold rkN
  rw [List.getElem?_replicate]
  split <;> rfl
theorem Chain.start (up : ∀ p, InG g p → IsRaised g os (rkN (List.replicate g.length 0)) p (rkN rs' p)) (l : rs'.length = g.length) : Chain g os (List.replicate g.length 0) rs' :=
  ⟨List.length_replicate, l, up, fun p _ => by rw [rkN_zero]; exact Nat.zero_le _, fun p _ => by rw [rkN_zero]; exact Nat.zero_le _, fun m _ _ p _ => by rw [rkN_zero]; exact Nat.zero_le _⟩
def leftN (B : Nat) (rs : List Nat) : Nat := (rs.map fun x => B - x).sum
theorem left_lt {B : Nat} : ∀ {a b : List Nat}, a.length = b.length → (∀ (i : Nat) (x y : Nat), a[i]? = some x → b[i]? = some y → x ≤ y ∧ y ≤ B) → leftN B b ≤ leftN B a ∧ (a ≠ b → leftN B b < leftN B a)
  | [], [], _, _ => ⟨Nat.le_refl _, fun h => absurd rfl h⟩
  | x :: a, y :: b, hl, h => by
    have ih := left_lt (B := B) (a := a) (b := b) (by simpa using hl) fun i => h (i + 1)
    have h0 := h 0 x y rfl rfl
    have e1 : leftN B (x :: a) = (B - x) + leftN B a := by unfold leftN; rw [List.map_cons, List.sum_cons]
    have e2 : leftN B (y :: b) = (B - y) + leftN B b := by unfold leftN; rw [List.map_cons, List.sum_cons]
    rw [e1, e2]
    refine ⟨by omega, fun ne => ?_⟩
    by_cases e : x = y
    · have := ih.2 fun z => ne (by rw [e, z])
      omega
    · omega
  | [], _ :: _, hl, _ => by simp at hl
  | _ :: _, [], hl, _ => by simp at hl
theorem Chain.left (hv : ValidG g) (h : Chain g os rs rs') (ne : rs ≠ rs') : leftN (allN g os) rs' < leftN (allN g os) rs := by
  refine (left_lt (by rw [h.l1, h.l2]) fun i x y hx hy => ?_).2 ne
  have hi : i < g.length := by rw [← h.l1]; exact (List.getElem?_eq_some_iff.mp hx).1
  have hp : InG g (i : Int) := ⟨by omega, by omega⟩
  have e1 : rkN rs (i : Int) = x := by unfold rkN; rw [Int.toNat_natCast, hx]; rfl
  have e2 : rkN rs' (i : Int) = y := by unfold rkN; rw [Int.toNat_natCast, hy]; rfl
  have := h.le _ hp
  have := h.all' hv hp
  omega
end
theorem szN_le {g : List Row} (h : g.length ≤ 40) (o : Int) : szN g o ≤ 1000 := by
  unfold szN
  have := List.count_le_length (a := o) (l := g.map Row.n)
  rw [List.length_map] at this
  omega
section
variable {P : Program} {w : World} {K : PySem.W.Frag} {mg : Str → Option Value} {base : Heap}
def spRaised (K : PySem.W.Frag) : Sp := fun vs H Q _ => ∃ (v : V) (d a : Addr) (g : List Row) (os : List Int) (rs : List Nat), vs = [v, .ref d, .ref a] ∧ Dp K H v (gameD g) ∧ ValidG g ∧ SzAt H d os (szN g) ∧ SqL K H a (rs.map ctV) ∧ rs.length = g.length ∧
  ∀ H' R (rs' : List Nat), Same H H' → H R = none → H' R = some (.lst (rs'.map ctV)) → rs'.length = g.length → (∀ p, InG g p → IsRaised g os (rkN rs) p (rkN rs' p)) → Q (.ref R) H'
theorem ok_raised {f : Addr} {fd : FuncData} (B : Bt mg) (F : Fun K "raised" "raised" s_raised f fd) (C_wanted : Cal P w K mg base 3 "wanted" spWanted) : FnOk P w K mg base (L2.CX P w) 4 f fd ["game", "sizes", "ranks"] (spRaised K) := by
  refine F.okX sc_raised (fun vs H Q E h => ?_) (fun cdv Ar outer s0 H vs Q E hr h => ?_)
  · obtain ⟨v, d, a, g, os, rs, rfl, _⟩ := h
    rfl
  · obtain ⟨v, d, a, g, os, rs, rfl, hg, hv, hd, hS, hl, q⟩ := h
    refine ⟨_, (pss_cons (ps_set (i := 3) sc_raised.nd rfl (Or.inl rfl) (pe_lst pa_nil))
      (pss_cons (ps_for (passes_of rfl) rfl (pi_list (pv 0)) (pg_tup (by rfl) (pgs_cons (pg_name (i := 4) sc_raised.nd rfl (Or.inl rfl)) (pgs_cons (pg_name (i := 5) sc_raised.nd rfl (Or.inr rfl)) (pgs_cons (pg_name (i := 6) sc_raised.nd rfl (Or.inl rfl)) pgs_nil)))) (pss_cons (ps_setLc (i := 7) (own := [("way", 8)]) (by rfl) sc_raised.nd rfl rfl (sw_true rfl rfl rfl (by decide +kernel)) (pi_list (pv 6)) (blkOk_by (own := [("way", 8)]) (N := ["game", "sizes", "ranks", "found", "player", "number", "ways", "wants", "way"]) (sc := defScope s_raised) (by decide +kernel)) (fun _ _ _ _ _ => (pg_name (i := 8) sc_raised.nd rfl (Or.inl rfl))) (fun _ _ _ _ _ => pts_nil) (fun _ _ _ _ _ => (pe_cal C_wanted hr (by decide) (by rfl) (pa_cons (pv 5) (pa_cons (pv 1) (pa_cons (pe_ix (kr_ix_list (K := K) rfl) (pv 2) (pv 8) (fun _ _ => rfl)) pa_nil))))))
      (pss_one (ps_expr (pe_bm PySem.F.plainAttrs_list PySem.F.slot_list_append PySem.F.type_list_append mt_append (pv 3) (pa_cons (pe_ifExp (pt_cmpR op_eq (pv 4) pe_int (nomark _)) (pe_callB (cr_min rfl) (by rfl) B.min_ (by decide +kernel) (pa_cons (pv 7) pa_nil)) (pe_callB (cr_max rfl) (by rfl) B.max_ (by decide +kernel) (pa_cons (pv 7) pa_nil))) pa_nil))))))
      (pss_one (ps_ret (pv 3))))), ?_⟩
    obtain ⟨ag, xg, rfl, hG, hGl, hGr⟩ := dp_game hg
    have h40 := hv.1
    refine ⟨Nat.zero_le _, fun R nR => ?_⟩
    have sR : Same H (upd H R (.lst [])) := same_upd nR
    refine ⟨_, rfl, ag, rfl, ⟨_, sR.seq hG⟩, for_list (K := K) (a := ag) (xs := xg) (fun j σ H' => ∃ (y4 y5 y6 y7 : Option V) (rs' : List Nat), σ = [some (.ref ag), some (.ref d), some (.ref a), some (.ref R), y4, y5, y6, y7, none] ∧ Same H H' ∧ H' R = some (.lst (rs'.map ctV)) ∧ rs'.length = j ∧ ∀ p, InG g p → p.toNat < j → IsRaised g os (rkN rs) p (rkN rs' p)) ⟨none, none, none, none, [], rfl, sR, upd_same, rfl, fun p _ h => absurd h (Nat.not_lt_zero _)⟩ (fun j σ H' _ ⟨_, _, _, _, _, _, sm, _⟩ => sm.seq hG) (fun j x σ H' hj hP => ?_) (fun σ H' hP => ?_)⟩
    · obtain ⟨y4, y5, y6, y7, rs', rfl, sm, hR, hl', hup⟩ := hP
      have hjn : j < g.length := by rw [← hGl]; exact (List.getElem?_eq_some_iff.mp hj).1
      have hp : InG g (j : Int) := ⟨by omega, by omega⟩
      obtain ⟨r, hr0, e1, e2, e3⟩ := row_at hp
      rw [Int.toNat_natCast] at hr0
      obtain ⟨t, wy, ht, hT, hW⟩ := hGr j r hr0
      rw [hj] at ht
      cases ht
      have hvr := hv.2 r (List.mem_of_getElem? hr0)
      have hwl := hvr.len
      refine ⟨t, _, rfl, same_sqt sm hT, rfl, _, _, rfl, _, _, rfl, _, _, rfl, rfl, ?_⟩
      have inw : ∀ q ∈ r.ws, InG g q := fun q hq => ways_in hv hp (by rw [e3]; exact hq)
      refine ⟨_, rfl, wy, rfl, ⟨_, sm.seq hW⟩, fun D nD => lc_pure ((r.ws.map fun q => wtN g os r.n (rkN rs q)).map ctV) (by rw [List.length_map, List.length_map, List.length_map]) (sm.seq hW) nD (by rw [List.length_map]; omega) (fun i x y H2 Q' hx hy sm2 hQ => ?_) (fun H2 sm2 hD => ?_)⟩
      · rw [List.getElem?_map] at hx
        obtain ⟨q', hq', rfl⟩ := Option.map_eq_some_iff.mp hx
        rw [List.getElem?_map, List.getElem?_map, hq'] at hy
        cases hy
        have hqi := inw q' (List.mem_of_getElem? hq')
        have hat : (rs.map ctV)[q'.toNat]? = some (ctV (rkN rs q')) := by
          have : q'.toNat < rs.length := by rw [hl]; have := hqi.1; have := hqi.2; omega
          unfold rkN
          rw [List.getElem?_map, List.getElem?_eq_getElem this]
          rfl
        exact ⟨rfl, _, rfl, _, rfl, _, rfl, _, rfl, a, _, q', _, rfl, rfl, (sm.trans sm2).seq hS, atI_int hqi.1 hat, _, d, _, os, szN g, rfl, hd.mono (sm.trans sm2), szN_pos g, fun H3 s3 => hQ _ s3⟩
      · have sm3 := sm.trans sm2
        have ne : (r.ws.map fun q => wtN g os r.n (rkN rs q)) ≠ [] := fun z => hvr.2.2.1 (List.map_eq_nil_iff.mp z)
        have pos : 0 < ((r.ws.map fun q => wtN g os r.n (rkN rs q)).map fun n : Nat => (n : Int)).length := by
          rw [List.length_map]
          exact List.length_pos_iff.mpr ne
        rw [ct_int] at hD
        have hR2 := sm2 _ _ hR
        have key : ∀ k : Nat, IsRaised g os (rkN rs) (j : Int) k → Same H (upd H2 R (.lst (rs'.map ctV ++ [ctV k]))) ∧ (upd H2 R (.lst (rs'.map ctV ++ [ctV k]))) R = some (.lst ((rs' ++ [k]).map ctV)) ∧ (rs' ++ [k]).length = j + 1 ∧ ∀ p, InG g p → p.toNat < j + 1 → IsRaised g os (rkN rs) p (rkN (rs' ++ [k]) p) := fun k hk => by
          refine ⟨fun b o e => ?_, by rw [upd_same, List.map_append]; rfl, by rw [List.length_append, hl']; rfl, fun p hp' hlt => ?_⟩
          · rw [upd_ne (ne_of_none e nR)]
            exact sm3 _ _ e
          · by_cases z : p.toNat < j
            · have : rkN (rs' ++ [k]) p = rkN rs' p := by unfold rkN; rw [List.getElem?_append_left (by omega)]
              rw [this]
              exact hup p hp' z
            · have ep : p = (j : Int) := by have := hp'.1; omega
              subst ep
              have : rkN (rs' ++ [k]) (j : Int) = k := by unfold rkN; rw [Int.toNat_natCast, List.getElem?_append_right (by omega), hl', Nat.sub_self]; rfl
              rw [this]
              exact hk
        refine ⟨.ref R, rfl, .inl ⟨rfl, _, .inl (.inl hR2)⟩, _, rfl, rfl, _, rfl, ite2 (fun e => ?_) (fun e => ?_)⟩
        · have eo : ownAt g (j : Int) = 0 := e1.trans (V.int.inj (of_decide_eq_true e))
          refine ⟨_, rfl, D, _, rfl, .inl (.inl hD), pos, fun m hm hall => ?_⟩
          obtain ⟨k, hk, rfl⟩ := List.mem_map.mp hm
          obtain ⟨q0, hq0, rfl⟩ := List.mem_map.mp hk
          obtain ⟨a1, a2, a3, a4⟩ := key (wtN g os r.n (rkN rs q0)) ⟨fun _ => by
            rw [e2, e3]
            exact ⟨⟨q0, hq0, rfl⟩, fun w' hw' => Int.ofNat_le.mp (hall _ (List.mem_map_of_mem (List.mem_map_of_mem hw')))⟩, fun z => absurd eo z⟩
          exact ⟨R, _, _, rfl, rfl, hR2, by rw [List.length_map]; exact small1000 (by omega), _, _, _, _, _, rfl, a1, a2, a3, a4⟩
        · have eo : ownAt g (j : Int) ≠ 0 := fun z => e (decide_eq_true (congrArg V.int (e1.symm.trans z)))
          refine ⟨_, rfl, D, _, rfl, .inl (.inl hD), pos, fun m hm hall => ?_⟩
          obtain ⟨k, hk, rfl⟩ := List.mem_map.mp hm
          obtain ⟨q0, hq0, rfl⟩ := List.mem_map.mp hk
          obtain ⟨a1, a2, a3, a4⟩ := key (wtN g os r.n (rkN rs q0)) ⟨fun z => absurd z eo, fun _ => by
            rw [e2, e3]
            exact ⟨⟨q0, hq0, rfl⟩, fun w' hw' => Int.ofNat_le.mp (hall _ (List.mem_map_of_mem (List.mem_map_of_mem hw')))⟩⟩
          exact ⟨R, _, _, rfl, rfl, hR2, by rw [List.length_map]; exact small1000 (by omega), _, _, _, _, _, rfl, a1, a2, a3, a4⟩
    · obtain ⟨y4, y5, y6, y7, rs', rfl, sm, hR, hl', hup⟩ := hP
      exact ⟨_, rfl, q _ R rs' sm nR hR (by rw [hl', hGl]) fun p hp => hup p hp (by have := hp.1; have := hp.2; omega)⟩
def spLeastR (K : PySem.W.Frag) : Sp := fun vs H Q _ => ∃ (v : V) (d : Addr) (g : List Row) (os : List Int), vs = [v, .ref d] ∧ Dp K H v (gameD g) ∧ ValidG g ∧ SzAt H d os (szN g) ∧
  ∀ H' R (rs : List Nat), Same H H' → H' R = some (.lst (rs.map ctV)) → rs.length = g.length → LeastR g os (rkN rs) → Q (.ref R) H'
theorem ok_least_ranks {f : Addr} {fd : FuncData} (B : Bt mg) (F : Fun K "least_ranks" "least_ranks" s_least_ranks f fd) (C_raised : Cal P w K mg base 4 "raised" (spRaised K)) : FnOk P w K mg base (L2.CX P w) 5 f fd ["game", "sizes"] (spLeastR K) := by
  refine F.okX sc_least_ranks (fun vs H Q E h => ?_) (fun cdv Ar outer s0 H vs Q E hr h => ?_)
  · obtain ⟨v, d, g, os, rfl, _⟩ := h
    rfl
  · obtain ⟨v, d, g, os, rfl, hg, hv, hd, q⟩ := h
    refine ⟨_, (pss_cons (ps_set (i := 2) sc_least_ranks.nd rfl (Or.inl rfl) (pe_op op_rep (pe_lst (pa_cons pe_int pa_nil)) (pe_callB call_len_seq (by rfl) B.len_ (by decide +kernel) (pa_cons (pv 0) pa_nil))))
      (pss_cons (ps_set (i := 3) sc_least_ranks.nd rfl (Or.inl rfl) (pe_cal C_raised hr (by decide) (by rfl) (pa_cons (pv 0) (pa_cons (pv 1) (pa_cons (pv 2) pa_nil)))))
      (pss_cons (ps_while (passes_of rfl) (pt_cmpR (op_neD hr.units) (pv 3) (pv 2) (nomark _)) (pss_cons (ps_set (i := 2) sc_least_ranks.nd rfl (Or.inl rfl) (pv 3))
      (pss_one (ps_set (i := 3) sc_least_ranks.nd rfl (Or.inl rfl) (pe_cal C_raised hr (by decide) (by rfl) (pa_cons (pv 0) (pa_cons (pv 1) (pa_cons (pv 2) pa_nil))))))))
      (pss_one (ps_ret (pv 2)))))), ?_⟩
    obtain ⟨ag, xg, rfl, hG, hGl, hGr⟩ := dp_game hg
    have h40 := hv.1
    refine ⟨(by show 1 ≤ sizeLine; decide), fun l nl => ⟨_, rfl, _, _, rfl, .inl ((same_upd nl).seq hG), l, _, _, rfl, rfl, upd_same, by omega, by omega, by rw [Int.toNat_natCast]; show 1 * xg.length ≤ sizeLine; exact Nat.le_trans (show 1 * xg.length ≤ 40 by omega) (by decide), fun R nR => ?_⟩⟩
    have s1 : Same H (upd (upd H l (.lst [.int 0])) R (.lst (List.replicate ((xg.length : Int)).toNat [V.int 0]).flatten)) := (same_upd nl).trans (same_upd nR)
    have hR : (upd (upd H l (.lst [.int 0])) R (.lst (List.replicate ((xg.length : Int)).toNat [V.int 0]).flatten)) R = some (.lst ((List.replicate g.length 0).map ctV)) := by
      rw [upd_same, Int.toNat_natCast, hGl]
      have : ∀ n : Nat, (List.replicate n [V.int 0]).flatten = (List.replicate n 0).map ctV := fun n => by
        induction n with
        | zero => rfl
        | succ n ih => rw [List.replicate_succ, List.flatten_cons, ih, List.replicate_succ]; rfl
      rw [this]
    generalize upd (upd H l (.lst [.int 0])) R (.lst (List.replicate ((xg.length : Int)).toNat [V.int 0]).flatten) = H1 at s1 hR ⊢
    refine ⟨_, rfl, _, rfl, _, rfl, .ref ag, d, R, g, os, List.replicate g.length 0, rfl, dp_mono s1 _ _ hg, hv, hd.mono s1, .inl (.inl hR), List.length_replicate, fun H2 R2 rs2 s2 n2 h2 l2 up2 => ?_⟩
    refine ⟨fun m σ H' => ∃ (a b : Addr) (rs rs' : List Nat), σ = [some (.ref ag), some (.ref d), some (.ref a), some (.ref b)] ∧ Same H H' ∧ H' a = some (.lst (rs.map ctV)) ∧ H' b = some (.lst (rs'.map ctV)) ∧ Chain g os rs rs' ∧ m = leftN (allN g os) rs, ⟨_, R, R2, _, rs2, rfl, s1.trans s2, s2 _ _ hR, h2, Chain.start up2 l2, rfl⟩, fun m σ H' hW => ?_⟩
    obtain ⟨a, b, rs, rs', rfl, sm, ha, hb, ch, rfl⟩ := hW
    have ha' := ha
    have hb' := hb
    rw [ct_int] at ha' hb'
    refine ⟨_, rfl, _, rfl, intsD (rs'.map fun n : Nat => (n : Int)), intsD (rs.map fun n : Nat => (n : Int)), .lst (.inl (.inl hb')) (dpa_ints' _), .lst (.inl (.inl ha')) (dpa_ints' _), shaped_ints _, shaped_ints _, _, rfl, ?_⟩
    rw [eqv_ints]
    by_cases e : rs = rs'
    · subst e
      rw [decide_eq_true rfl]
      exact iteF ⟨_, rfl, q _ a rs sm ha ch.l1 ch.done⟩
    · have ne : ¬ (rs'.map (fun n : Nat => (n : Int)) = rs.map fun n : Nat => (n : Int)) := fun z => e ((List.map_inj_right fun x y h => Int.ofNat.inj h).mp z).symm
      rw [decide_eq_false ne]
      refine iteT ⟨fun σ' H'' => ∃ (a b : Addr) (rs2 rs3 : List Nat), σ' = [some (.ref ag), some (.ref d), some (.ref a), some (.ref b)] ∧ Same H H'' ∧ H'' a = some (.lst (rs2.map ctV)) ∧ H'' b = some (.lst (rs3.map ctV)) ∧ Chain g os rs2 rs3 ∧ rs2 = rs', fun σ' H'' ⟨a, b, rs2, rs3, h1, h2, h3, h4, h5, h6⟩ => ⟨leftN (allN g os) rs', ch.left hv e, a, b, rs2, rs3, h1, h2, h3, h4, h5, by rw [h6]⟩, ?_⟩
      refine ⟨_, rfl, _, rfl, _, rfl, _, rfl, .ref ag, d, b, g, os, rs', rfl, dp_mono sm _ _ hg, hv, hd.mono sm, .inl (.inl hb), ch.l2, fun H3 R3 rs3 s3 n3 h3 l3 up3 => ?_⟩
      exact ⟨b, R3, rs', rs3, rfl, sm.trans s3, s3 _ _ hb, h3, ch.next hv l3 up3, rfl⟩
end
end G

namespace G
open PySem PySem.Spec PyProof.Rows L2 PM
abbrev s_sizes_of_counts : Stmt := topS 20
theorem sc_sizes_of_counts : FnScope ["numbers", "odd_numbers", "number"] ["numbers"] (defScope s_sizes_of_counts) := ⟨rfl, rfl, rfl, by decide +kernel, rfl, by decide +kernel, by decide +kernel⟩
abbrev s_measure_of : Stmt := topS 27
theorem sc_measure_of : FnScope ["rank", "sizes", "counts", "left", "size"] ["rank", "sizes"] (defScope s_measure_of) := ⟨rfl, rfl, rfl, by decide +kernel, rfl, by decide +kernel, by decide +kernel⟩
abbrev s_check_few : Stmt := topS 16
theorem sc_check_few : FnScope ["game", "most"] ["game", "most"] (defScope s_check_few) := ⟨rfl, rfl, rfl, by decide +kernel, rfl, by decide +kernel, by decide +kernel⟩
abbrev s_measures : Stmt := topS 19
theorem sc_measures : FnScope ["game", "sizes", "row", "rank"] ["game"] (defScope s_measures) := ⟨rfl, rfl, rfl, by decide +kernel, rfl, by decide +kernel, by decide +kernel⟩
/-- a measure of a rank -/
def MeasAt (H : Hp) (s : Int → Nat) (os : List Int) (v : V) (r : Nat) : Prop := (prodS s os ≤ r ∧ v = .non) ∨ (r < prodS s os ∧ ∃ t, v = .ref t ∧ H t = some (.tup ((tupN s os r).map V.int)))
theorem MeasAt.mono {H H' : Hp} {s : Int → Nat} {os : List Int} {v : V} {r : Nat} (h : MeasAt H s os v r) (sm : Same H H') : MeasAt H' s os v r := h.imp_right fun ⟨a, t, e, b⟩ => ⟨a, t, e, sm _ _ b⟩
theorem digs_take {s : Int → Nat} {os : List Int} {r j : Nat} {o : Int} (h : os[j]? = some o) : digs s (os.take (j + 1)) r = digs s (os.take j) r ++ [r / prodS s (os.take j) % s o] := by
  rw [List.take_add_one, h]
  exact digs_app (os.take j) [o] r
theorem prod_take {s : Int → Nat} {os : List Int} {j : Nat} {o : Int} (h : os[j]? = some o) : prodS s (os.take (j + 1)) = prodS s (os.take j) * s o := by
  rw [List.take_add_one, h]
  rw [show (some o).toList = [o] from rfl, prodS_app]
  show _ * (s o * 1) = _
  rw [Nat.mul_one]
section
variable {P : Program} {w : World} {K : PySem.W.Frag} {mg : Str → Option Value} {base : Heap}
def spMeasOf (K : PySem.W.Frag) : Sp := fun vs H Q _ => ∃ (r : Nat) (d : Addr) (os : List Int) (s : Int → Nat), vs = [ctV r, .ref d] ∧ SzAt H d os s ∧ (∀ o, 0 < s o) ∧ ∀ H' v, Same H H' → MeasAt H' s os v r → Q v H'
theorem ok_measure_of {f : Addr} {fd : FuncData} (B : Bt mg) (F : Fun K "measure_of" "measure_of" s_measure_of f fd) : FnOk P w K mg base (L2.CX P w) 1 f fd ["rank", "sizes"] (spMeasOf K) := by
  refine F.okX sc_measure_of (fun vs H Q E h => ?_) (fun cdv Ar outer s0 H vs Q E hr h => ?_)
  · obtain ⟨r, d, os, s, rfl, _⟩ := h
    rfl
  · obtain ⟨r, d, os, s, rfl, ⟨hd, hl, hs⟩, hp, q⟩ := h
    refine ⟨_, (pss_cons (ps_set (i := 2) sc_measure_of.nd rfl (Or.inl rfl) (pe_lst pa_nil))
      (pss_cons (ps_set (i := 3) sc_measure_of.nd rfl (Or.inl rfl) (pv 0))
      (pss_cons (ps_lock (ps_for (passes_of rfl) rfl (pi_values (pv 1)) (pg_name (i := 4) sc_measure_of.nd rfl (Or.inl rfl)) (pss_cons (ps_expr (pe_bm PySem.F.plainAttrs_list PySem.F.slot_list_append PySem.F.type_list_append mt_append (pv 2) (pa_cons (pe_op op_mod (pv 3) (pv 4)) pa_nil)))
      (pss_one (ps_set (i := 3) sc_measure_of.nd rfl (Or.inl rfl) (pe_op op_fdiv (pv 3) (pv 4)))))))
      (pss_cons (ps_if (pt_cmpR op_gt (pv 3) pe_int (nomark _)) (pss_one (ps_ret pe_non)) pss_nil)
      (pss_cons (ps_expr (pe_bm0 PySem.F.plainAttrs_list PySem.F.slot_list_reverse PySem.F.type_list_reverse mt_reverse (pv 2)))
      (pss_one (ps_ret (pe_callTy call_tuple_of (by rfl) B.tuple_ (by decide +kernel) (pa_cons (pv 2) pa_nil))))))))), ?_⟩
    refine ⟨Nat.zero_le _, fun L nL => ⟨_, rfl, ?_⟩⟩
    have sL : Same H (upd H L (.lst [])) := same_upd nL
    have hd1 := sL _ _ hd
    have hL1 : (upd H L (.lst [])) L = some (.lst (([] : List Nat).map ctV)) := upd_same
    have Ld : L ≠ d := fun e => by rw [e, hd] at nL; cases nL
    generalize upd H L (.lst []) = H1 at sL hd1 hL1 ⊢
    refine ⟨d, _, hd1, True.intro, fun od => ⟨_, rfl, d, od, _, rfl, upd_same, ?_⟩⟩
    refine for_it walk_values (fun (j : Nat) σ H' => ∃ y4 : Option V, σ = [some (ctV r), some (.ref d), some (.ref L), some (ctV (r / prodS s (os.take j))), y4] ∧ (∀ b o, H b = some o → b ≠ d → H' b = some o) ∧ H' d = some (.frz od (.dK (dkOf os fun o => ctV (s o)))) ∧ H' L = some (.lst ((digs s (os.take j) r).map ctV))) ⟨none, by rw [show r / prodS s (os.take 0) = r from Nat.div_one r]; rfl, fun b o e n => by rw [upd_ne n]; exact sL _ _ e, upd_same, by rw [upd_ne Ld]; exact hL1⟩ (fun j σ H' _ ⟨_, _, _, h, _⟩ => h)
      (fun j x σ G1 G2 hj hP y => ?_) (fun σ G1 hP => ?_)
    · obtain ⟨y4, rfl, k1, k2, k3⟩ := hP
      obtain ⟨rfl, k, hk⟩ := y
      obtain ⟨o, ho, rfl, rfl⟩ := get_dkOf hk
      have hjl : j < os.length := (List.getElem?_eq_some_iff.mp ho).1
      have so := hs o
      have so2 := hp o
      refine ⟨.ref L, rfl, .inl ⟨rfl, _, .inl (.inl k3)⟩, _, rfl, _, rfl, _, _, rfl, rfl, (by show (0 : Int) < (s o : Nat); omega), L, _, _, rfl, rfl, k3, by rw [List.length_map, digs_len]; exact small1000 (by rw [List.length_take]; omega), ?_⟩
      refine ⟨_, rfl, _, rfl, _, _, rfl, rfl, ⟨by show (0 : Int) < (s o : Nat); omega, by show ((s o : Nat) : Int) < _; omega⟩, ?_⟩
      refine ⟨some (ctV (s o)), ?_, fun b o' e n => ?_, ?_, ?_⟩
      · show [some (ctV r), some (V.ref d), some (.ref L), some (V.int (((r / prodS s (os.take j) : Nat) : Int) / ((s o : Nat) : Int))), some (ctV (s o))] = _
        rw [prod_take ho, ← Nat.div_div_eq_div_mul]
        unfold ctV
        rw [Int.natCast_ediv (r / prodS s (os.take j)) (s o)]
      · rw [upd_ne (ne_of_none e nL)]
        exact k1 b o' e n
      · rw [upd_ne Ld.symm]
        exact k2
      · rw [upd_same, digs_take ho, List.map_append]
        show some (HO.lst (_ ++ [V.int (((r / prodS s (os.take j) : Nat) : Int) % ((s o : Nat) : Int))])) = _
        rw [← Int.natCast_emod]
        rfl
    · obtain ⟨y4, rfl, k1, k2, k3⟩ := hP
      rw [len_dkOf, List.take_length] at k3 ⊢
      refine ⟨k2, ?_⟩
      have same : Same H (upd G1 d (.dK (dkOf os fun o => ctV (s o)))) := fun b o e => by
        by_cases z : b = d
        · rw [z, hd] at e
          rw [z, upd_same]
          exact e
        · rw [upd_ne z]
          exact k1 b o e z
      have hL : (upd G1 d (.dK (dkOf os fun o => ctV (s o)))) L = some (.lst ((digs s os r).map ctV)) := by rw [upd_ne Ld]; exact k3
      generalize upd G1 d (.dK (dkOf os fun o => ctV (s o))) = G2 at same hL ⊢
      have hpp := prodS_pos hp os
      refine ⟨_, rfl, _, _, rfl, rfl, _, rfl, ite2 (fun e => ?_) (fun e => ?_)⟩
      · have e' : (0 : Int) < ((r / prodS s os : Nat) : Int) := of_decide_eq_true e
        refine q _ _ same (.inl ⟨?_, rfl⟩)
        have : 0 < r / prodS s os := by omega
        exact (Nat.div_pos_iff.mp this).2
      · have e' : ¬ (0 : Int) < ((r / prodS s os : Nat) : Int) := fun z => e (decide_eq_true z)
        have lt : r < prodS s os := by
          have : r / prodS s os = 0 := Nat.eq_zero_of_not_pos fun z => e' (Int.ofNat_lt.mpr z)
          exact Nat.lt_of_div_eq_zero hpp this
        refine ⟨.ref L, rfl, .inl ⟨rfl, _, .inl (.inl hL)⟩, L, _, rfl, rfl, hL, ?_⟩
        refine ⟨_, rfl, L, _, rfl, .inl ⟨.inl (.inl upd_same), fun t nt => ?_⟩⟩
        refine q _ _ (fun b o e => ?_) (.inr ⟨lt, t, rfl, ?_⟩)
        · rw [upd_ne (show b ≠ t from fun z => by
            rw [z] at e
            have e2 := same _ _ e
            by_cases y : t = L
            · rw [y] at e
              rw [nL] at e
              cases e
            · rw [upd_ne y, e2] at nt
              cases nt), upd_ne (ne_of_none e nL)]
          exact same _ _ e
        · rw [upd_same]
          unfold tupN
          rw [← List.map_reverse, List.map_map]
          rfl
end
/-! ### the counts of the odd numbers -/
theorem kr_count {X : Cx} {K : PySem.W.Frag} (hK : X.K = K) {o e : Expr} {to : TE} {t : TA} {apos cpos : Pos} (ho : PE X o to) (ha : PA X [e] t) (hbase : attributeBase o "count" X.env (eval o X.env) = eval o X.env := by rfl)
    (hfew : ((backTo cpos (starEach [e] X.env)).all (fun x => !x.1) && (backToKw cpos (keywordEach [] X.env)).all (fun x => x.1.isSome) && decide (([e] : List Expr).length + ([] : List Keyword).length + (if ([] : List Keyword).isEmpty then 0 else 1) < 30)) = true := by rfl)
    (hline : (apos.endLine == cpos.line) = true := by rfl) (hs : starEach [e] X.env = (false, eval e X.env) :: starEach [] X.env := by rfl) (hplain : (backTo cpos (starEach [] X.env)).any (·.1) = false := by rfl) :
    PE X (.Call (.Attribute o "count" apos) [e] [] cpos) (tBM K "list" (rCntI K) to t) := hK ▸ pe_bm PySem.F.plainAttrs_list PySem.F.slot_list_count PySem.F.type_list_count mt_lcount ho ha hbase hfew hline hs hplain
theorem sci_ints {w : World} {K : PySem.W.Frag} {a : Addr} {ns : List Int} {g : TG} {tt : TT} {te : TE} {vs : List Nat} {σ : L2.St} {H1 : Hp} {D : Addr} {Qd : Hp → Prop} (f : Int → Bool) (hS : SqL K H1 a (ns.map V.int)) (nD : H1 D = none) (hz : ns.length ≤ 40)
    (hs : ∀ (n : Int) (H : Hp) (Qe : VK) (N : Hp → Prop), n ∈ ns → Same H1 H → (f n = true → ∀ H', Same H H' → Qe (.int n) H') → (f n = false → ∀ H', Same H H' → N H') → g (.int n) (wipe σ vs) H fun σ2 H2 => wipe σ2 vs = wipe σ vs ∧ tt σ2 H2 fun b H3 => if b = true then te σ2 H3 Qe else N H3)
    (hd : ∀ H S n, Same H1 H → H D = some (SetO w D S n) → (∀ k, S k = true ↔ k ∈ ns.filter f) → n ≤ ns.length → Qd H) :
    ∃ M : Nat → Nat → Hp → Prop, (∃ m, M 0 m (upd H1 D (SetO w D (fun _ => false) 0))) ∧ ∀ i m H, M i m H →
      ((Itl K a).stop i H ∧ Qd H) ∨ ((Itl K a).go i H ∧ ∃ Nx : Hp → Prop, (∀ H', Nx H' → ∃ m', m' < m ∧ M (i + 1) m' H') ∧ ∀ x H', (Itl K a).yld i H x H' → TurnI w g tt te vs σ D Nx x H') := by
  refine ⟨fun i m H => m = ns.length - i ∧ i ≤ ns.length ∧ Same H1 H ∧ ∃ S n, H D = some (SetO w D S n) ∧ (∀ k, S k = true ↔ k ∈ (ns.take i).filter f) ∧ n ≤ i, ⟨_, rfl, Nat.zero_le _, same_upd nD, _, 0, upd_same, fun k => by simp, Nat.le_refl _⟩, ?_⟩
  rintro i m H ⟨rfl, hi, sm, S, n, hD, mem, hn⟩
  have hSH := sm.seq hS
  have hlen : (ns.map V.int).length = ns.length := List.length_map _
  by_cases hlt : i < ns.length
  · have hx : ns[i]? = some ns[i] := List.getElem?_eq_getElem hlt
    generalize ns[i] = x at hx
    have step : ns.take (i + 1) = ns.take i ++ [x] := by rw [List.take_add_one, hx]; rfl
    refine .inr ⟨walk_list.goes i H (by rw [hlen]; exact hlt) hSH, fun H' => i + 1 ≤ ns.length ∧ Same H1 H' ∧ ∃ S n, H' D = some (SetO w D S n) ∧ (∀ k, S k = true ↔ k ∈ (ns.take (i + 1)).filter f) ∧ n ≤ i + 1, fun H' h => ⟨ns.length - (i + 1), by omega, rfl, h⟩, fun y H' yl => ?_⟩
    obtain ⟨e, hy⟩ := walk_list.yields i H y H' (by rw [hlen]; exact hlt) hSH yl
    subst e
    rw [List.getElem?_map, hx] at hy
    cases hy
    refine hs x H' _ _ (List.mem_of_getElem? hx) sm (fun hf H2 s2 => ⟨x, S, n, rfl, s2 _ _ hD, by unfold scanBound; omega, hlt, fun b o e => ?_, _, _, upd_same, fun k => ?_, ?_⟩) (fun hf H2 s2 => ⟨hlt, sm.trans s2, S, n, s2 _ _ hD, fun k => ?_, by omega⟩)
    · rw [upd_ne (ne_of_none e nD)]
      exact s2 _ _ (sm _ _ e)
    · rw [Bool.or_eq_true, mem k, decide_eq_true_eq, step, List.filter_append, List.filter_cons_of_pos hf, List.filter_nil, List.mem_append, List.mem_singleton]
    · split <;> omega
    · rw [mem k, step, List.filter_append, List.filter_cons_of_neg (by rw [hf]; decide), List.filter_nil, List.append_nil]
  · have e : i = ns.length := by omega
    subst e
    rw [List.take_length] at mem
    exact .inl ⟨by have := (walk_list (K := K) (a := a) (xs := ns.map V.int)).stops H hSH; rw [hlen] at this; exact this, hd H S n sm hD mem hn⟩
section
variable {P : Program} {w : World} {K : PySem.W.Frag} {mg : Str → Option Value} {base : Heap}
def spSizes (K : PySem.W.Frag) : Sp := fun vs H Q _ => ∃ (a : Addr) (ns : List Int), vs = [.ref a] ∧ SqL K H a (ns.map V.int) ∧ ns.length ≤ 40 ∧ ∀ H' d os, Same H H' → H' d = some (.dK (dkOf os fun o => ctV (ns.count o + 1))) → os.Pairwise (· < ·) → (∀ x, x ∈ os ↔ x ∈ ns ∧ x % 2 = 1) → os.length ≤ 40 → Q (.ref d) H'
theorem ok_sizes_of_counts {f : Addr} {fd : FuncData} (B : Bt mg) (F : Fun K "sizes_of_counts" "sizes_of_counts" s_sizes_of_counts f fd) : FnOk P w K mg base (L2.CX P w) 1 f fd ["numbers"] (spSizes K) := by
  refine F.okX sc_sizes_of_counts (fun vs H Q E h => ?_) (fun cdv Ar outer s0 H vs Q E hr h => ?_)
  · obtain ⟨a, ns, rfl, _⟩ := h
    rfl
  · obtain ⟨a, ns, rfl, hS, hz, q⟩ := h
    refine ⟨_, (pss_cons (ps_set (i := 1) sc_sizes_of_counts.nd rfl (Or.inl rfl) (pe_callB (cr_sortedSet rfl) (by rfl) B.sorted_ (by decide +kernel) (pa_cons (pe_sci (own := [("number", 2)]) (by rfl) sc_sizes_of_counts.nd (pi_list (pv 0)) (blkOk_by (own := [("number", 2)]) (N := ["numbers", "odd_numbers", "number"]) (sc := defScope s_sizes_of_counts) (by decide +kernel)) (fun _ _ _ _ _ => (pg_name (i := 2) sc_sizes_of_counts.nd rfl (Or.inl rfl))) (fun _ _ _ _ _ => (pts_one (pt_cmpR op_eq (pe_op op_mod (pv 2) pe_int) pe_int (nomark _)))) (fun _ _ _ _ _ => (pv 2))) pa_nil)))
      (pss_one (ps_ret (pe_dc (own := [("number", 2)]) (by rfl) sc_sizes_of_counts.nd (pi_list (pv 1)) (blkOk_by (own := [("number", 2)]) (N := ["numbers", "odd_numbers", "number"]) (sc := defScope s_sizes_of_counts) (by decide +kernel)) (fun _ _ _ _ _ => (pg_name (i := 2) sc_sizes_of_counts.nd rfl (Or.inl rfl))) (fun _ _ _ _ _ => pts_nil) (fun _ _ _ _ _ => (pv 2)) (fun _ _ _ _ _ => (pe_op op_add (kr_count (K := K) rfl (pv 0) (pa_cons (pv 2) pa_nil)) pe_int)))))), ?_⟩
    refine ⟨_, rfl, a, rfl, ⟨_, hS⟩, fun D nD => sci_ints (w := w) (fun n => decide (n % 2 = 1)) hS nD hz (fun n H2 Qe N hn sm q1 q2 => ?_) (fun H2 S c sm hD mem hc => ⟨D, S, c, rfl, hD, by omega, fun ks p up hm hl np => ?_⟩)⟩
    · refine ⟨rfl, _, rfl, _, _, rfl, rfl, (by show (0:Int) < 2; decide), rfl, _, rfl, ite2 (fun e => ?_) (fun e => ?_)⟩
      · exact ⟨_, rfl, q1 (decide_eq_true (V.int.inj (of_decide_eq_true e))) _ (Same.refl _)⟩
      · exact q2 (decide_eq_false fun z => e (decide_eq_true (congrArg V.int z))) _ (Same.refl _)
    have sm2 : Same H (upd H2 p (.lst (ks.map V.int))) := sm.trans (same_upd np)
    have hS2 := sm2.seq hS
    have hp : (upd H2 p (.lst (ks.map V.int))) p = some (.lst (ks.map V.int)) := upd_same
    generalize upd H2 p (.lst (ks.map V.int)) = H3 at sm2 hS2 hp ⊢
    have hkl : ks.length ≤ 40 := by omega
    refine ⟨_, rfl, p, rfl, ⟨_, .inl (.inl hp)⟩, fun D2 nD2 => dc_ints walk_list ks (fun _ => true) (fun o v _ => v = ctV (ns.count o + 1)) (fun _ _ _ _ _ h => h) (List.length_map _).symm (by omega) (up.imp fun h => Int.ne_of_lt h) nD2 (fun H4 s4 => s4.seq (.inl (.inl hp))) (fun i H4 x H5 _ _ y => y_list y) (fun o H4 Qe N ho s4 q1 q2 => ?_) (fun H4 h s4 hD4 hR => ?_)⟩
    · exact ⟨rfl, _, rfl, .ref a, rfl, .inl ⟨rfl, _, s4.seq hS2⟩, _, rfl, a, ns, o, rfl, rfl, s4.seq hS2, _, _, rfl, rfl, q1 rfl _ _ (Same.refl _) rfl⟩
    · rw [List.filter_eq_self.mpr fun _ _ => rfl] at hD4 hR
      have e : dkOf ks h = dkOf ks fun o => ctV (ns.count o + 1) := List.map_congr_left fun o ho => by rw [hR o ho]
      rw [e] at hD4
      exact q _ D2 ks (sm2.trans s4) hD4 up (fun x => by rw [hm, mem, List.mem_filter, decide_eq_true_eq]) hkl
def spFew (K : PySem.W.Frag) (TM : Addr) : Sp := fun vs H Q E => ∃ (v : V) (g : List Row), vs = [v, .int 10] ∧ Dp K H v (gameD g) ∧ (g.length ≤ 10 → Q .non H) ∧ (10 < g.length → E (.ref TM) none H)
theorem ok_check_few {f TM : Addr} {fd : FuncData} (B : Bt mg) (T : PlainX K mg "TooMany" TM) (F : Fun K "check_few" "check_few" s_check_few f fd) : FnOk P w K mg base (L2.CX P w) 3 f fd ["game", "most"] (spFew K TM) := by
  refine F.okX sc_check_few (fun vs H Q E h => ?_) (fun cdv Ar outer s0 H vs Q E hr h => ?_)
  · obtain ⟨v, g, rfl, _⟩ := h
    rfl
  · obtain ⟨v, g, rfl, hg, q1, q2⟩ := h
    refine ⟨_, (pss_one (ps_if (pt_cmpR op_gt (pe_callB call_len_seq (by rfl) B.len_ (by decide +kernel) (pa_cons (pv 0) pa_nil)) (pv 1) (nomark _)) (pss_one (ps_raise rfl (takes_of rfl rfl rfl rfl) (SkE.pmk_own1 PySem.F.excBase_ValueError T.xC T.gC T.kC (raises_own T.exC T.tyC) rfl (pe_joined (.cons pe_str (.cons (pe_fmt (pv 1)) (.cons pe_str .nil))))))) pss_nil)), ?_⟩
    obtain ⟨ag, xg, rfl, hG, hGl, hGr⟩ := dp_game hg
    refine ⟨_, rfl, _, _, rfl, .inl hG, _, rfl, _, _, rfl, rfl, _, rfl, ite2 (fun e => ?_) (fun e => ?_)⟩
    · have e' : (10 : Int) < (xg.length : Int) := of_decide_eq_true e
      exact ⟨_, rfl, (by decide +kernel), _, rfl, .inr ⟨10, rfl, (by decide +kernel), _, rfl, (by decide +kernel), _, rfl, (by decide +kernel), q2 (by omega)⟩⟩
    · have e' : ¬ (10 : Int) < (xg.length : Int) := fun z => e (decide_eq_true z)
      exact q1 (by omega)
end
end G

namespace G
open PySem PySem.Spec PyProof.Rows L2 PM
/-- a list made over a list, each told by what holds of it and stays -/
theorem lc_any {K : PySem.W.Frag} {a : Addr} {xs : List V} {g : TG} {te : TE} {vs : List Nat} {σ : L2.St} {H1 : Hp} {D : Addr} {Qd : Hp → Prop} (Rr : Nat → V → Hp → Prop) (hR : ∀ i v H H', KeepT H H' → Rr i v H → Rr i v H') (hS : SqL K H1 a xs) (nD : H1 D = none) (hz : xs.length ≤ 1000)
    (hs : ∀ (i : Nat) (x : V) (H : Hp) (Q : VK), xs[i]? = some x → Same H1 H → (∀ v H', Same H H' → Rr i v H' → Q v H') → g x (wipe σ vs) H fun σ2 H2 => wipe σ2 vs = wipe σ vs ∧ te σ2 H2 Q)
    (hd : ∀ H ys, Same H1 H → H D = some (.lst ys) → ys.length = xs.length → (∀ i v, ys[i]? = some v → Rr i v H) → Qd H) :
    ∃ W : Nat → Nat → Hp → Prop, (∃ m, W 0 m (upd H1 D (.lst []))) ∧ ∀ i m H, W i m H →
      ((Itl K a).stop i H ∧ Qd H) ∨ ((Itl K a).go i H ∧ ∃ Nx : Hp → Prop, (∀ H', Nx H' → ∃ m', m' < m ∧ W (i + 1) m' H') ∧ ∀ x H', (Itl K a).yld i H x H' → g x (wipe σ vs) H' fun σ2 H2 => wipe σ2 vs = wipe σ vs ∧ tYes σ2 H2 fun b H3 =>
        if b = true then te σ2 H3 fun y H4 => ∃ acc, H4 D = some (.lst acc) ∧ acc.length < sizeLine ∧ Nx (upd H4 D (.lst (acc ++ [y]))) else Nx H3) := by
  refine lc_list (K := K) (a := a) (xs := xs) (fun i H => Same H1 H ∧ ∃ ys, H D = some (.lst ys) ∧ ys.length = i ∧ ∀ k v, ys[k]? = some v → Rr k v H) ⟨same_upd nD, [], upd_same, rfl, fun k v h => by cases h⟩ (fun i H _ p => p.1.seq hS) (fun i x H hi ⟨sm, ys, hD, hl, hr⟩ => ?_) (fun H ⟨sm, ys, hD, hl, hr⟩ => hd H ys sm hD hl hr)
  have hlt := (List.getElem?_eq_some_iff.mp hi).1
  refine hs i x H _ hi sm (fun v H' s hv => ⟨_, s _ _ hD, small1000 (by omega), fun b o e => ?_, ys ++ [v], upd_same, by rw [List.length_append, hl]; rfl, fun k u hk => ?_⟩)
  · rw [upd_ne (ne_of_none e nD)]
    exact s _ _ (sm _ _ e)
  · have kt : KeepT H' (upd H' D (.lst (ys ++ [v]))) := KeepT.upd (s _ _ hD) fun _ z => nomatch z
    refine hR k u _ _ kt ?_
    by_cases z : k < ys.length
    · rw [List.getElem?_append_left z] at hk
      exact hR k u _ _ (KeepT.of s) (hr k u hk)
    · rw [List.getElem?_append_right (by omega)] at hk
      have e0 : k - ys.length = 0 := by
        have := (List.getElem?_eq_some_iff.mp hk).1
        simp at this
        omega
      rw [e0] at hk
      cases hk
      rw [show k = i by omega]
      exact hv
theorem MeasAt.keep {H H' : Hp} {s : Int → Nat} {os : List Int} {v : V} {r : Nat} (h : MeasAt H s os v r) (k : KeepT H H') : MeasAt H' s os v r := h.imp_right fun ⟨a, t, e, b⟩ => ⟨a, t, e, k _ _ b⟩
section
variable {P : Program} {w : World} {K : PySem.W.Frag} {mg : Str → Option Value} {base : Heap}
def spMeas (K : PySem.W.Frag) (A : Ads) : Sp := fun vs H Q E => ∃ (v : V) (g : List Row), vs = [v] ∧ Dp K H v (gameD g) ∧ ValidG g ∧ (g.length ≤ 10 → ∀ H' a xs os rho, Same H H' → H a = none → H' a = some (.lst xs) → xs.length = g.length → OddsOf g os → LeastR g os rho → (∀ p, InG g p → ∃ v, xs[p.toNat]? = some v ∧ MeasAt H' (szN g) os v (rho p)) → Q (.ref a) H') ∧
  (10 < g.length → ∀ H', Same H H' → E (.ref A.TooMany) none H')
theorem ok_measures {f : Addr} {fd : FuncData} {A : Ads} {tk : Tok} (M_MOST_MEASURED : mg "MOST_MEASURED" = some (.int 10 tk)) (F : Fun K "measures" "measures" s_measures f fd) (C_check_game : Cal P w K mg base 6 "check_game" (spCheckGame K A.BadGame)) (C_check_few : Cal P w K mg base 3 "check_few" (spFew K A.TooMany)) (C_sizes_of_counts : Cal P w K mg base 1 "sizes_of_counts" (spSizes K))
    (C_least_ranks : Cal P w K mg base 5 "least_ranks" (spLeastR K)) (C_measure_of : Cal P w K mg base 1 "measure_of" (spMeasOf K)) : FnOk P w K mg base (L2.CX P w) 7 f fd ["game"] (spMeas K A) := by
  refine F.okX sc_measures (fun vs H Q E h => ?_) (fun cdv Ar outer s0 H vs Q E hr h => ?_)
  · obtain ⟨v, g, rfl, _⟩ := h
    rfl
  · obtain ⟨v, g, rfl, hg, hv, q, qe⟩ := h
    refine ⟨_, (pss_cons (ps_expr (pe_calX C_check_game hr (by decide) (takes_of rfl rfl rfl rfl) (by rfl) (pa_cons (pv 0) pa_nil)))
      (pss_cons (ps_expr (pe_calX C_check_few hr (by decide) (takes_of rfl rfl rfl rfl) (by rfl) (pa_cons (pv 0) (pa_cons (pe_glob (v := .int 10) (by rfl) M_MOST_MEASURED ⟨_, rfl⟩) pa_nil))))
      (pss_cons (ps_set (i := 1) sc_measures.nd rfl (Or.inr rfl) (pe_cal C_sizes_of_counts hr (by decide) (by rfl) (pa_cons (pe_lc (own := [("row", 2)]) (by rfl) sc_measures.nd (pi_list (pv 0)) (blkOk_by (own := [("row", 2)]) (N := ["game", "sizes", "row", "rank"]) (sc := defScope s_measures) (by decide +kernel)) (fun _ _ _ _ _ => (pg_name (i := 2) sc_measures.nd rfl (Or.inl rfl))) (fun _ _ _ _ _ => pts_nil) (fun _ _ _ _ _ => (pe_ix (kr_ix_tup (K := K) rfl) (pv 2) pe_int (fun _ _ => rfl)))) pa_nil)))
      (pss_one (ps_ret (pe_lc (own := [("rank", 3)]) (by rfl) sc_measures.nd (pi_list (pe_cal C_least_ranks hr (by decide) (by rfl) (pa_cons (pv 0) (pa_cons (pv 1) pa_nil)))) (blkOk_by (own := [("rank", 3)]) (N := ["game", "sizes", "row", "rank"]) (sc := defScope s_measures) (by decide +kernel)) (fun _ _ _ _ _ => (pg_name (i := 3) sc_measures.nd rfl (Or.inl rfl))) (fun _ _ _ _ _ => pts_nil) (fun _ _ _ _ _ => (pe_cal C_measure_of hr (by decide) (by rfl) (pa_cons (pv 3) (pa_cons (pv 1) pa_nil)))))))))), ?_⟩
    refine ⟨_, rfl, v, gameD g, rfl, .of hg, hv.sz, fun _ H1 s1 => ?_, fun e he => by rw [gameErr_valid hv] at he; cases he⟩
    refine ⟨_, rfl, v, g, rfl, dp_mono s1 _ _ hg, fun hle => ?_, fun hgt => qe hgt _ s1⟩
    obtain ⟨ag, xg, rfl, hG, hGl, hGr⟩ := dp_game hg
    refine ⟨_, rfl, ag, rfl, ⟨_, s1.seq hG⟩, fun D nD => lc_pure ((g.map Row.n).map V.int) (by rw [List.length_map, List.length_map, hGl]) (s1.seq hG) nD (by omega) (fun i x y H2 Q' hx hy sm hQ => ?_) (fun H2 sm2 hD => ⟨D, g.map Row.n, rfl, .inl (.inl hD), by rw [List.length_map]; omega, fun H3 d os sm3 hd up mem ol => ?_⟩)⟩
    · rw [List.getElem?_map, List.getElem?_map] at hy
      obtain ⟨n, hn, rfl⟩ := Option.map_eq_some_iff.mp hy
      obtain ⟨r, hr0, rfl⟩ := Option.map_eq_some_iff.mp hn
      obtain ⟨t, wy, ht, hT, hW⟩ := hGr i r hr0
      rw [hx] at ht
      cases ht
      exact ⟨rfl, _, rfl, t, _, 1, _, rfl, rfl, same_sqt (s1.trans sm) hT, atI_nat (j := 1) rfl, hQ _ (Same.refl _)⟩
    have s3 := s1.trans (sm2.trans sm3)
    have oo : OddsOf g os := ⟨up, mem⟩
    have sz : SzAt H3 d os (szN g) := ⟨hd, ol, szN_le hv.1⟩
    refine ⟨_, rfl, _, rfl, .ref ag, d, g, os, rfl, dp_mono s3 _ _ hg, hv, sz, fun H4 R rs s4 hR lR lr => ⟨R, rfl, ⟨_, .inl (.inl hR)⟩, fun L nL => lc_any (fun i v H => MeasAt H (szN g) os v (rkN rs (i : Int))) (fun i v H H' k h => h.keep k) (.inl (.inl hR)) nL (by rw [List.length_map]; omega) (fun i x H5 Q' hx s5 hQ => ?_) (fun H5 ys s5 hL yl hy => ?_)⟩⟩
    · rw [List.getElem?_map] at hx
      obtain ⟨r, hrx, rfl⟩ := Option.map_eq_some_iff.mp hx
      have er : rkN rs (i : Int) = r := by unfold rkN; rw [Int.toNat_natCast, hrx]; rfl
      rw [er] at hQ
      exact ⟨rfl, _, rfl, _, rfl, r, d, os, szN g, rfl, sz.mono (s4.trans s5), szN_pos g, fun H6 v s6 m => hQ v H6 s6 m⟩
    · rw [List.length_map] at yl
      refine q hle H5 L ys os (rkN rs) (s3.trans (s4.trans s5)) (Same.free (s3.trans s4) nL) hL (by rw [yl, lR]) oo lr fun p hp => ?_
      have hlt : p.toNat < ys.length := by rw [yl, lR]; have := hp.1; have := hp.2; omega
      have hv' := List.getElem?_eq_getElem hlt
      refine ⟨_, hv', ?_⟩
      have := hy _ _ hv'
      rw [show ((p.toNat : Nat) : Int) = p by have := hp.1; omega] at this
      exact this
end
end G

namespace PM
/-! ### digits with noughts, one more with a carry -/
def zdig (s : Int → Nat) (n : Int) : List Int → Nat → List Nat
  | [], _ => []
  | o :: os, r => (if o < n then 0 else r % s o) :: zdig s n os (r / s o)
def incZ (s : Int → Nat) (n : Int) : List Int → List Nat → Option (List Nat)
  | o :: os, d :: ds => if n ≤ o then (if d + 1 < s o then some ((d + 1) :: ds) else (incZ s n os ds).map (0 :: ·)) else (incZ s n os ds).map (d :: ·)
  | _, _ => none
section
variable {s : Int → Nat} {n : Int}
theorem zdig_len : ∀ (os : List Int) (r : Nat), (zdig s n os r).length = os.length
  | [], _ => rfl
  | o :: os, r => congrArg (· + 1) (zdig_len os (r / s o))
theorem zdig_at : ∀ (os : List Int) (r i : Nat) (o : Int) (d : Nat), os[i]? = some o → (digs s os r)[i]? = some d → (zdig s n os r)[i]? = some (if o < n then 0 else d)
  | [], _, _, _, _, e, _ => by cases e
  | o :: os, r, 0, o', d, e, e2 => by
    cases e
    cases e2
    rfl
  | o :: os, r, i + 1, o', d, e, e2 => zdig_at os (r / s o) i o' d e e2
theorem digs_zero (h : ∀ o, 0 < s o) : ∀ (l : List Int) (x : Nat), digs s l (prodS s l * x) = l.map fun _ => 0
  | [], _ => rfl
  | o :: l, x => by
    show (s o * prodS s l * x) % s o :: digs s l (s o * prodS s l * x / s o) = 0 :: l.map fun _ => 0
    rw [Nat.mul_assoc, Nat.mul_mod_right, Nat.mul_div_cancel_left _ (h o), digs_zero h l]
theorem zdig_hi : ∀ (b : List Int) (r : Nat), (∀ o ∈ b, ¬ o < n) → zdig s n b r = digs s b r
  | [], _, _ => rfl
  | o :: b, r, h => by
    show (if o < n then 0 else r % s o) :: zdig s n b (r / s o) = r % s o :: digs s b (r / s o)
    rw [if_neg (h o List.mem_cons_self), zdig_hi b _ fun o' ho => h o' (List.mem_cons_of_mem _ ho)]
theorem zdig_split : ∀ (a b : List Int) (r : Nat), (∀ o ∈ a, o < n) → (∀ o ∈ b, ¬ o < n) → zdig s n (a ++ b) r = (a.map fun _ => 0) ++ digs s b (r / prodS s a)
  | [], b, r, _, hb => by
    show zdig s n b r = digs s b (r / 1)
    rw [Nat.div_one, zdig_hi b r hb]
  | o :: a, b, r, ha, hb => by
    show (if o < n then 0 else r % s o) :: zdig s n (a ++ b) (r / s o) = 0 :: ((a.map fun _ => 0) ++ digs s b (r / (s o * prodS s a)))
    rw [if_pos (ha o List.mem_cons_self), zdig_split a b _ (fun o' ho => ha o' (List.mem_cons_of_mem _ ho)) hb, Nat.div_div_eq_div_mul]
theorem lo_lt {os : List Int} : ∀ o ∈ lo n os, o < n := fun o ho => of_decide_eq_true (List.mem_filter.mp ho).2
theorem hi_ge {os : List Int} : ∀ o ∈ hi n os, ¬ o < n := fun o ho => by
  have := (List.mem_filter.mp ho).2
  rwa [Bool.not_eq_true', decide_eq_false_iff_not] at this
theorem zdig_first (h : ∀ o, 0 < s o) {os : List Int} (up : os.Pairwise (· < ·)) (r : Nat) : zdig s n os r = digs s os (below s os n * (r / below s os n)) := by
  have hB : 0 < below s os n := prodS_pos h _
  have e1 : zdig s n (lo n os ++ hi n os) r = ((lo n os).map fun _ => 0) ++ digs s (hi n os) (r / below s os n) := zdig_split _ _ r lo_lt hi_ge
  have e2 : digs s (lo n os ++ hi n os) (below s os n * (r / below s os n)) = ((lo n os).map fun _ => 0) ++ digs s (hi n os) (r / below s os n) := by
    rw [digs_app]
    show digs s (lo n os) (prodS s (lo n os) * (r / below s os n)) ++ digs s (hi n os) (prodS s (lo n os) * (r / below s os n) / prodS s (lo n os)) = _
    rw [digs_zero h, Nat.mul_div_cancel_left _ (show 0 < prodS s (lo n os) from hB)]
  rw [← split_up up] at e1 e2
  rw [e1, e2]
theorem incZ_lo : ∀ (a b : List Int) (ds : List Nat), (∀ o ∈ a, o < n) → incZ s n (a ++ b) ((a.map fun _ => 0) ++ ds) = (incZ s n b ds).map ((a.map fun _ => 0) ++ ·)
  | [], b, ds, _ => by
    show incZ s n b ds = (incZ s n b ds).map fun x => [] ++ x
    cases incZ s n b ds <;> rfl
  | o :: a, b, ds, ha => by
    have ho := ha o List.mem_cons_self
    show (if n ≤ o then _ else (incZ s n (a ++ b) ((a.map fun _ => 0) ++ ds)).map (0 :: ·)) = _
    rw [if_neg (by omega), incZ_lo a b ds fun o' h => ha o' (List.mem_cons_of_mem _ h), Option.map_map]
    rfl
theorem incZ_hi (h : ∀ o, 0 < s o) : ∀ (b : List Int) (x : Nat), (∀ o ∈ b, ¬ o < n) → x < prodS s b → incZ s n b (digs s b x) = if x + 1 < prodS s b then some (digs s b (x + 1)) else none
  | [], x, _, hx => by
    have hx' : x < 1 := hx
    have e : ¬ x + 1 < prodS s [] := by show ¬ x + 1 < 1; omega
    rw [if_neg e]
    rfl
  | o :: b, x, hb, hx => by
    have ho := hb o List.mem_cons_self
    have hx' : x < s o * prodS s b := hx
    have hq := Nat.div_lt_of_lt_mul hx'
    have hs := h o
    have ed := Nat.div_add_mod x (s o)
    have hm := Nat.mod_lt x hs
    show (if n ≤ o then (if x % s o + 1 < s o then some ((x % s o + 1) :: digs s b (x / s o)) else (incZ s n b (digs s b (x / s o))).map (0 :: ·)) else _) = if x + 1 < s o * prodS s b then some ((x + 1) % s o :: digs s b ((x + 1) / s o)) else none
    rw [if_pos (by omega)]
    have hmul : s o * (x / s o + 1) ≤ s o * prodS s b := Nat.mul_le_mul_left _ hq
    rw [Nat.mul_add, Nat.mul_one] at hmul
    by_cases c : x % s o + 1 < s o
    · have e1 : x + 1 = s o * (x / s o) + (x % s o + 1) := by omega
      have d1 : (x + 1) / s o = x / s o := by
        rw [e1, Nat.mul_add_div hs, Nat.div_eq_of_lt c, Nat.add_zero]
      have d2 : (x + 1) % s o = x % s o + 1 := by
        rw [e1, Nat.mul_add_mod, Nat.mod_eq_of_lt c]
      rw [if_pos c, if_pos (by omega), d1, d2]
    · have e1 : x + 1 = s o * (x / s o + 1) := by rw [Nat.mul_add, Nat.mul_one]; omega
      have d1 : (x + 1) / s o = x / s o + 1 := by rw [e1, Nat.mul_div_cancel_left _ hs]
      have d2 : (x + 1) % s o = 0 := by rw [e1, Nat.mul_mod_right]
      rw [if_neg c, incZ_hi h b (x / s o) (fun o' h' => hb o' (List.mem_cons_of_mem _ h')) hq, d1, d2]
      by_cases c2 : x / s o + 1 < prodS s b
      · have : s o * (x / s o + 1) < s o * prodS s b := Nat.mul_lt_mul_of_pos_left c2 hs
        rw [if_pos c2, if_pos (by omega)]
        rfl
      · have : s o * prodS s b ≤ s o * (x / s o + 1) := Nat.mul_le_mul_left _ (by omega)
        rw [if_neg c2, if_neg (by omega)]
        rfl
theorem inc_want (h : ∀ o, 0 < s o) {os : List Int} (up : os.Pairwise (· < ·)) {r : Nat} (hr : r < prodS s os) (e : ¬ n % 2 = 0) : incZ s n os (zdig s n os r) = if wantN s os n r < prodS s os then some (digs s os (wantN s os n r)) else none := by
  have hB : 0 < below s os n := prodS_pos h _
  have ep := prod_split (s := s) (n := n) up
  have hx : r / below s os n < prodS s (hi n os) := Nat.div_lt_of_lt_mul (by rw [← ep]; exact hr)
  have e1 : zdig s n (lo n os ++ hi n os) r = ((lo n os).map fun _ => 0) ++ digs s (hi n os) (r / below s os n) := zdig_split _ _ r lo_lt hi_ge
  have e2 := incZ_lo (s := s) (lo n os) (hi n os) (digs s (hi n os) (r / below s os n)) (lo_lt (os := os))
  rw [incZ_hi h _ _ hi_ge hx] at e2
  have e3 : ∀ y, digs s (lo n os ++ hi n os) (below s os n * y) = ((lo n os).map fun _ => 0) ++ digs s (hi n os) y := fun y => by
    rw [digs_app]
    show digs s (lo n os) (prodS s (lo n os) * y) ++ digs s (hi n os) (prodS s (lo n os) * y / prodS s (lo n os)) = _
    rw [digs_zero h, Nat.mul_div_cancel_left _ (show 0 < prodS s (lo n os) from hB)]
  rw [← e1, ← split_up up] at e2
  rw [← split_up up] at e3
  rw [e2, want_odd e]
  by_cases c : r / below s os n + 1 < prodS s (hi n os)
  · have lt : below s os n * (r / below s os n + 1) < prodS s os := by
      rw [ep]
      exact Nat.mul_lt_mul_of_pos_left c hB
    have em : min (below s os n * (r / below s os n + 1)) (prodS s os) = below s os n * (r / below s os n + 1) := by omega
    rw [if_pos c, em, if_pos lt, e3]
    rfl
  · have ge : prodS s os ≤ below s os n * (r / below s os n + 1) := by
      rw [ep]
      exact Nat.mul_le_mul_left _ (by omega)
    have em : min (below s os n * (r / below s os n + 1)) (prodS s os) = prodS s os := by omega
    rw [if_neg c, em, if_neg (Nat.lt_irrefl _)]
    rfl
theorem even_want (h : ∀ o, 0 < s o) {os : List Int} (up : os.Pairwise (· < ·)) (r : Nat) (e : n % 2 = 0) : zdig s n os r = digs s os (wantN s os n r) := by
  rw [zdig_first h up, want_even e]
end
theorem set_mid {α : Type} (d v : α) : ∀ (P S : List α), (P ++ d :: S).set P.length v = P ++ v :: S
  | [], _ => rfl
  | x :: P, S => congrArg (x :: ·) (set_mid d v P S)
theorem at_mid {α : Type} (d : α) : ∀ (P S : List α), (P ++ d :: S)[P.length]? = some d
  | [], _ => rfl
  | x :: P, S => at_mid d P S
theorem take_mid {α : Type} (d : α) : ∀ (P S : List α), (P ++ d :: S).take P.length = P
  | [], _ => rfl
  | x :: P, S => congrArg (x :: ·) (take_mid d P S)
theorem drop_mid {α : Type} (d : α) : ∀ (P S : List α), (P ++ d :: S).drop (P.length + 1) = S
  | [], _ => rfl
  | x :: P, S => drop_mid d P S
end PM

namespace G
open PySem PySem.Spec PyProof.Rows L2 PM
abbrev s__law_wanted : Stmt := topS 48
theorem sc__law_wanted : FnScope ["_law_counts", "_law_number", "_law_known", "_law_found", "_law_k"] ["_law_counts", "_law_number", "_law_known"] (defScope s__law_wanted) := ⟨rfl, rfl, rfl, by decide +kernel, rfl, by decide +kernel, by decide +kernel⟩
abbrev s__law_rank : Stmt := topS 49
theorem sc__law_rank : FnScope ["_law_measure"] ["_law_measure"] (defScope s__law_rank) := ⟨rfl, rfl, rfl, by decide +kernel, rfl, by decide +kernel, by decide +kernel⟩
theorem tup_ct (s : Int → Nat) (os : List Int) (r : Nat) : (tupN s os r).map V.int = (digs s os r).reverse.map ctV := by
  unfold tupN
  rw [List.map_map]
  rfl
/-- the law's counts: the greatest odd number first -/
def CtAt (K : PySem.W.Frag) (H : Hp) (c : Addr) (os : List Int) (s : Int → Nat) : Prop := ∃ xs, SqL K H c xs ∧ xs.length = os.length ∧ ∀ (k : Nat) (o : Int), os.reverse[k]? = some o → ∃ t, xs[k]? = some (.ref t) ∧ SqT K H t [.int o, .int ((s o : Int) - 1)]
theorem CtAt.mono {K : PySem.W.Frag} {H H' : Hp} {c : Addr} {os : List Int} {s : Int → Nat} (h : CtAt K H c os s) (sm : Same H H') : CtAt K H' c os s := by
  obtain ⟨xs, h1, h2, h3⟩ := h
  exact ⟨xs, sm.seq h1, h2, fun k o e => (h3 k o e).imp fun t z => ⟨z.1, same_sqt sm z.2⟩⟩
theorem ixN_c {n j : Nat} (h : j < n) : ixN n (j : Int) = some j := by
  unfold ixN
  rw [if_pos (by omega), if_pos (by omega), Int.toNat_natCast]
theorem rev_at {α : Type} {l : List α} {k : Nat} {x : α} (hk : k < l.length) (h : l[l.length - 1 - k]? = some x) : l.reverse[k]? = some x := by
  rw [List.getElem?_reverse hk]
  exact h
section
variable {P : Program} {w : World} {K : PySem.W.Frag} {mg : Str → Option Value} {base : Heap}
structure OsOk (os : List Int) (s : Int → Nat) : Prop where
  pos : ∀ o, 0 < s o
  le : ∀ o, s o ≤ 1000
  up : os.Pairwise (· < ·)
  len : os.length ≤ 40
def spLawWanted (K : PySem.W.Frag) : Sp := fun vs H Q _ => ∃ (c : Addr) (n : Int) (v : V) (os : List Int) (s : Int → Nat) (r : Nat), vs = [.ref c, .int n, v] ∧ CtAt K H c os s ∧ OsOk os s ∧ r ≤ prodS s os ∧ MeasAt H s os v r ∧ ∀ H' v', Same H H' → MeasAt H' s os v' (wantN s os n r) → Q v' H'
theorem ok_law_wanted {f : Addr} {fd : FuncData} (B : Bt mg) (F : Fun K "_law_wanted" "_law_wanted" s__law_wanted f fd) : FnOk P w K mg base (L2.CX P w) 1 f fd ["_law_counts", "_law_number", "_law_known"] (spLawWanted K) := by
  refine F.okX sc__law_wanted (fun vs H Q E h => ?_) (fun cdv Ar outer s0 H vs Q E hr h => ?_)
  · obtain ⟨c, n, v, os, s, r, rfl, _⟩ := h
    rfl
  · obtain ⟨c, n, v, os, s, r, rfl, hC, ok, hr', hM, q⟩ := h
    refine ⟨_, (pss_cons (ps_if (pt_cmpR op_isN (pv 2) pe_non (nomark _)) (pss_one (ps_ret pe_non)) pss_nil)
      (pss_cons (ps_set (i := 3) sc__law_wanted.nd rfl (Or.inl rfl) (pe_lst pa_nil))
      (pss_cons (ps_for (passes_of rfl) rfl (pi_range1 (by rfl) B.range_ (pa_cons (pe_callB call_len_seq (by rfl) B.len_ (by decide +kernel) (pa_cons (pv 0) pa_nil)) pa_nil)) (pg_name (i := 4) sc__law_wanted.nd rfl (Or.inl rfl)) (pss_one (ps_expr (pe_bm PySem.F.plainAttrs_list PySem.F.slot_list_append PySem.F.type_list_append mt_append (pv 3) (pa_cons (pe_op op_mul (pe_ix ix_tup (pv 2) (pv 4) (fun _ _ => rfl)) (pe_callTy call_int1 (by rfl) B.int_ (by decide +kernel) (pa_cons (pe_cmpR op_ge (pe_ix ix_tup (pe_ix ix_list (pv 0) (pv 4) (fun _ _ => rfl)) pe_int (fun _ _ => rfl)) (pv 1) (nomark _)) pa_nil))) pa_nil)))))
      (pss_cons (ps_if (pt_cmpR op_eq (pe_op op_mod (pv 1) pe_int) pe_int (nomark _)) (pss_one (ps_ret (pe_callTy call_tuple_of (by rfl) B.tuple_ (by decide +kernel) (pa_cons (pv 3) pa_nil)))) pss_nil)
      (pss_cons (ps_for (passes_of rfl) rfl (pi_range3 (by rfl) B.range_ (pa_cons (pe_op op_sub (pe_callB call_len_seq (by rfl) B.len_ (by decide +kernel) (pa_cons (pv 0) pa_nil)) pe_int) (pa_cons (pe_un un_neg pe_int) (pa_cons (pe_un un_neg pe_int) pa_nil)))) (pg_name (i := 4) sc__law_wanted.nd rfl (Or.inl rfl)) (pss_one (ps_if (pt_cmpR op_ge (pe_ix ix_tup (pe_ix ix_list (pv 0) (pv 4) (fun _ _ => rfl)) pe_int (fun _ _ => rfl)) (pv 1) (nomark _)) (pss_cons (ps_if (pt_cmpR op_lt (pe_ix ix_list (pv 3) (pv 4) (fun _ _ => rfl)) (pe_ix ix_tup (pe_ix ix_list (pv 0) (pv 4) (fun _ _ => rfl)) pe_int (fun _ _ => rfl)) (nomark _)) (pss_one (ps_ret (pe_callTy call_tuple_of (by rfl) B.tuple_ (by decide +kernel) (pa_cons (pe_op op_cat (pe_op op_cat (pe_slice sl_list (pv 3) po_none (po_some (pv 4))) (pe_lst (pa_cons (pe_op op_add (pe_ix ix_list (pv 3) (pv 4) (fun _ _ => rfl)) pe_int) pa_nil))) (pe_slice sl_list (pv 3) (po_some (pe_op op_add (pv 4) pe_int)) po_none)) pa_nil)))) pss_nil)
      (pss_one (ps_asg pe_int (pg_sub (pv 3) (pv 4) set_list)))) pss_nil)))
      (pss_one (ps_ret pe_non))))))), ?_⟩
    obtain ⟨xs, hX, hXl, hXt⟩ := hC
    have l40 := ok.len
    rcases hM with ⟨ge, rfl⟩ | ⟨lt, t, rfl, ht⟩
    · refine ⟨_, rfl, rfl, _, rfl, iteT (q _ _ (Same.refl _) (.inl ⟨?_, rfl⟩))⟩
      have : r = prodS s os := by omega
      rw [this, want_top ok.pos ok.up]
      exact Nat.le_refl _
    refine ⟨_, rfl, rfl, _, rfl, iteF ?_⟩
    rw [tup_ct] at ht
    obtain ⟨z, hz⟩ : ∃ z, z = zdig s n os r := ⟨_, rfl⟩
    have zl : z.length = os.length := by rw [hz, zdig_len]
    have dl := digs_len (s := s) os r
    -- the noughts
    refine ⟨Nat.zero_le _, fun Fd nF => ?_⟩
    have sF : Same H (upd H Fd (.lst [])) := same_upd nF
    refine ⟨_, rfl, _, _, rfl, .inl (sF.seq hX), _, rfl, by omega, by omega, for_range (lo := 0) (n := ((xs.length : Int)).toNat) (fun j σ H' => ∃ y4 : Option V, σ = [some (.ref c), some (.int n), some (.ref t), some (.ref Fd), y4] ∧ Same H H' ∧ H' Fd = some (.lst ((z.reverse.take j).map ctV))) ⟨none, rfl, sF, upd_same⟩ (fun j σ H' hj hP => ?_) (fun σ H' hP => ?_)⟩
    · obtain ⟨y4, rfl, sm, hF⟩ := hP
      rw [show (0 : Int) + (j : Nat) = (j : Int) by omega]
      have hjn : j < os.length := by omega
      have hi : os.length - 1 - j < os.length := by omega
      obtain ⟨o, ho⟩ : ∃ o, os[os.length - 1 - j]? = some o := ⟨_, List.getElem?_eq_getElem hi⟩
      obtain ⟨d, hd⟩ : ∃ d, (digs s os r)[os.length - 1 - j]? = some d := ⟨_, List.getElem?_eq_getElem (by rw [dl]; exact hi)⟩
      have hzd : z[os.length - 1 - j]? = some (if o < n then 0 else d) := by rw [hz]; exact zdig_at os r _ o d ho hd
      have hor : os.reverse[j]? = some o := rev_at hjn ho
      have hdr : (digs s os r).reverse[j]? = some d := rev_at (by rw [dl]; exact hjn) (by rw [dl]; exact hd)
      have hzr : z.reverse[j]? = some (if o < n then 0 else d) := rev_at (by rw [zl]; exact hjn) (by rw [zl]; exact hzd)
      obtain ⟨t', hx, hT⟩ := hXt j o hor
      have hd1000 : d < s o := by
        obtain ⟨d', e1, e2⟩ := digs_lt ok.pos os r _ o ho
        rw [hd] at e1
        cases e1
        exact e2
      have so := ok.le o
      refine ⟨.ref Fd, rfl, .inl ⟨rfl, _, .inl (.inl hF)⟩, _, rfl, _, rfl, t, _, (j : Int), _, rfl, rfl, .inl (.inl (sm _ _ ht)), atI_nat (by rw [List.getElem?_map, hdr]; rfl), _, rfl, _, rfl, c, xs, (j : Int), _, rfl, rfl, sm.seq hX, atI_nat hx, t', _, 0, _, rfl, rfl, same_sqt sm hT, atI_nat (j := 0) rfl, _, rfl, _, _, rfl, rfl, .inr ⟨_, rfl, _, _, rfl, rfl, .inl ⟨by omega, by omega⟩, Fd, _, _, rfl, rfl, hF, ?_, ?_⟩⟩
      · rw [List.length_map, List.length_take]
        exact small1000 (by omega)
      · refine ⟨some (.int (j : Int)), rfl, fun b o' e => ?_, ?_⟩
        · rw [upd_ne (ne_of_none e nF)]
          exact sm _ _ e
        · rw [upd_same, List.take_add_one, hzr, List.map_append]
          show some (HO.lst (_ ++ [V.int ((d : Int) * (if decide (n ≤ o) = true then 1 else 0))])) = some (HO.lst (_ ++ [ctV (if o < n then 0 else d)]))
          by_cases h : o < n
          · rw [if_pos h, decide_eq_false (by omega : ¬ n ≤ o), if_neg Bool.false_ne_true, Int.mul_zero]
            rfl
          · rw [if_neg h, decide_eq_true (by omega : n ≤ o), if_pos rfl, Int.mul_one]
            rfl
    · obtain ⟨y4, rfl, sm, hF⟩ := hP
      rw [show ((xs.length : Int)).toNat = z.reverse.length by rw [List.length_reverse]; omega, List.take_length] at hF
      refine ⟨_, rfl, _, _, rfl, rfl, (by show (0:Int) < 2; decide), rfl, _, rfl, ite2 (fun e => ?_) (fun e => ?_)⟩
      · -- an even number
        have en : n % 2 = 0 := V.int.inj (of_decide_eq_true e)
        refine ⟨_, rfl, Fd, _, rfl, .inl ⟨.inl (.inl hF), fun tt ntt => q _ _ (sm.trans (same_upd ntt)) (.inr ⟨?_, tt, rfl, ?_⟩)⟩⟩
        · rw [want_even en]
          exact Nat.lt_of_le_of_lt (Nat.mul_div_le _ _) lt
        · rw [upd_same, tup_ct, hz, even_want ok.pos ok.up r en]
      · -- an odd one
        have en : ¬ n % 2 = 0 := fun z => e (decide_eq_true (congrArg V.int z))
        have hinc := inc_want ok.pos ok.up lt en
        rw [← hz] at hinc
        refine ⟨_, rfl, _, _, rfl, .inl (sm.seq hX), _, _, rfl, rfl, _, rfl, _, rfl, _, _, _, _, rfl, RgC.neg (by omega) (by omega) (by decide) (by decide), ?_⟩
        rw [show ((xs.length : Int) - 1 - (-1)).toNat = os.length by omega]
        refine for_rangeC (fun i σ H' => ∃ y4 : Option V, σ = [some (.ref c), some (.int n), some (.ref t), some (.ref Fd), y4] ∧ Same H H' ∧ H' Fd = some (.lst ((List.replicate i 0 ++ z.drop i).reverse.map ctV)) ∧ incZ s n os z = (incZ s n (os.drop i) (z.drop i)).map (List.replicate i 0 ++ ·)) ⟨y4, rfl, sm, hF, by show incZ s n os z = (incZ s n os z).map fun x => [] ++ x; cases incZ s n os z <;> rfl⟩ (fun i σ H' hi hP => ?_) (fun σ H' hP => ?_)
        · obtain ⟨y4, rfl, sm, hF, hinv⟩ := hP
          rw [show (xs.length : Int) - 1 + (i : Nat) * (-1) = ((os.length - 1 - i : Nat) : Int) by omega]
          obtain ⟨o, ho⟩ : ∃ o, os[i]? = some o := ⟨_, List.getElem?_eq_getElem hi⟩
          obtain ⟨d, hd⟩ : ∃ d, z[i]? = some d := ⟨_, List.getElem?_eq_getElem (by rw [zl]; exact hi)⟩
          have od : os.drop i = o :: os.drop (i + 1) := by
            rw [List.drop_eq_getElem_cons hi]
            rw [List.getElem?_eq_getElem hi] at ho
            rw [Option.some.inj ho]
          have hiz : i < z.length := by rw [zl]; exact hi
          have zd : z.drop i = d :: z.drop (i + 1) := by
            rw [List.drop_eq_getElem_cons hiz]
            rw [List.getElem?_eq_getElem hiz] at hd
            rw [Option.some.inj hd]
          rw [od, zd] at hinv
          rw [zd] at hF
          have hRl : (z.drop (i + 1)).reverse.length = os.length - 1 - i := by rw [List.length_reverse, List.length_drop, zl]; omega
          have eF : (List.replicate i 0 ++ d :: z.drop (i + 1)).reverse = (z.drop (i + 1)).reverse ++ d :: List.replicate i 0 := by
            rw [List.reverse_append, List.reverse_cons, List.append_assoc, List.reverse_replicate]
            rfl
          rw [eF] at hF
          have atF : ((z.drop (i + 1)).reverse ++ d :: List.replicate i 0)[os.length - 1 - i]? = some d := by rw [← hRl]; exact at_mid d _ _
          have lF : ((z.drop (i + 1)).reverse ++ d :: List.replicate i 0).length = os.length := by
            rw [List.length_append, hRl, List.length_cons, List.length_replicate]
            omega
          have hor : os.reverse[os.length - 1 - i]? = some o := rev_at (by omega) (by rw [show os.length - 1 - (os.length - 1 - i) = i by omega]; exact ho)
          obtain ⟨t', hx, hT⟩ := hXt _ o hor
          have so := ok.le o
          have sp := ok.pos o
          refine ⟨_, rfl, _, rfl, c, xs, ((os.length - 1 - i : Nat) : Int), _, rfl, rfl, sm.seq hX, atI_nat hx, t', _, 0, _, rfl, rfl, same_sqt sm hT, atI_nat (j := 0) rfl, _, rfl, _, _, rfl, rfl, _, rfl, ite2 (fun e => ?_) (fun e => ?_)⟩
          · have hle : n ≤ o := of_decide_eq_true e
            have hin : incZ s n os z = (if d + 1 < s o then some ((d + 1) :: z.drop (i + 1)) else (incZ s n (os.drop (i + 1)) (z.drop (i + 1))).map (0 :: ·)).map (List.replicate i 0 ++ ·) := by
              rw [hinv]
              show ((if n ≤ o then _ else _ : Option (List Nat))).map _ = _
              rw [if_pos hle]
            refine ⟨_, rfl, _, rfl, Fd, _, ((os.length - 1 - i : Nat) : Int), _, rfl, rfl, .inl (.inl hF), atI_nat (by rw [List.getElem?_map, atF]; rfl), _, rfl, _, rfl, c, xs, ((os.length - 1 - i : Nat) : Int), _, rfl, rfl, sm.seq hX, atI_nat hx, t', _, 1, _, rfl, rfl, same_sqt sm hT, atI_nat (j := 1) rfl, _, _, rfl, rfl, _, rfl, ite2 (fun e2 => ?_) (fun e2 => ?_)⟩
            · -- one more here
              have lt1 : d + 1 < s o := by
                have : (d : Int) < (s o : Int) - 1 := of_decide_eq_true e2
                omega
              rw [if_pos lt1] at hin
              have hres : wantN s os n r < prodS s os ∧ digs s os (wantN s os n r) = List.replicate i 0 ++ (d + 1) :: z.drop (i + 1) := by
                rw [hin] at hinc
                by_cases cc : wantN s os n r < prodS s os
                · rw [if_pos cc] at hinc
                  exact ⟨cc, (Option.some.inj hinc).symm⟩
                · rw [if_neg cc] at hinc
                  cases hinc
              have cut1 : cutV (((z.drop (i + 1)).reverse ++ d :: List.replicate i 0).map ctV) none (some ((os.length - 1 - i : Nat) : Int)) = (z.drop (i + 1)).reverse.map ctV := by
                rw [cut_to _ (by rw [List.length_map, lF]; omega), ← List.map_take, ← hRl, take_mid]
              have cut2 : cutV (((z.drop (i + 1)).reverse ++ d :: List.replicate i 0).map ctV) (some (((os.length - 1 - i : Nat) : Int) + 1)) none = (List.replicate i 0).map ctV := by
                rw [show ((os.length - 1 - i : Nat) : Int) + 1 = ((os.length - 1 - i + 1 : Nat) : Int) from rfl, cut_from _ (by rw [List.length_map, lF]; omega), ← List.map_drop, ← hRl, drop_mid]
              refine ⟨_, rfl, _, rfl, _, rfl, Fd, _, rfl, .inl (.inl hF), fun a1 na1 => ?_⟩
              rw [cut1]
              have s1 : Same H' (upd H' a1 (.lst ((z.drop (i + 1)).reverse.map ctV))) := same_upd na1
              have h1 : (upd H' a1 (.lst ((z.drop (i + 1)).reverse.map ctV))) a1 = some (.lst ((z.drop (i + 1)).reverse.map ctV)) := upd_same
              generalize upd H' a1 (.lst ((z.drop (i + 1)).reverse.map ctV)) = G1 at s1 h1 ⊢
              have hF1 := s1 _ _ hF
              refine ⟨_, rfl, _, rfl, Fd, _, ((os.length - 1 - i : Nat) : Int), _, rfl, rfl, .inl (.inl hF1), atI_nat (by rw [List.getElem?_map, atF]; rfl), _, _, rfl, rfl, (by show 1 ≤ sizeLine; decide), fun a2 na2 => ?_⟩
              dsimp only
              rw [show V.int ((d : Int) + 1) = ctV (d + 1) from rfl]
              have s2 : Same G1 (upd G1 a2 (.lst [ctV (d + 1)])) := same_upd na2
              have h2 : (upd G1 a2 (.lst [ctV (d + 1)])) a2 = some (.lst [ctV (d + 1)]) := upd_same
              generalize upd G1 a2 (.lst [ctV (d + 1)]) = G2 at s2 h2 ⊢
              refine ⟨a1, a2, _, _, rfl, rfl, s2 _ _ h1, h2, ?_, fun a3 na3 => ?_⟩
              · rw [List.length_map, hRl]
                exact Nat.le_trans (show os.length - 1 - i + 1 ≤ 1000 by omega) (by decide)
              have s3 : Same G2 (upd G2 a3 (.lst ((z.drop (i + 1)).reverse.map ctV ++ [ctV (d + 1)]))) := same_upd na3
              have h3 : (upd G2 a3 (.lst ((z.drop (i + 1)).reverse.map ctV ++ [ctV (d + 1)]))) a3 = some (.lst ((z.drop (i + 1)).reverse.map ctV ++ [ctV (d + 1)])) := upd_same
              generalize upd G2 a3 (.lst ((z.drop (i + 1)).reverse.map ctV ++ [ctV (d + 1)])) = G3 at s3 h3 ⊢
              have hF3 := s3 _ _ (s2 _ _ hF1)
              refine ⟨_, rfl, _, rfl, _, _, rfl, rfl, _, rfl, Fd, _, rfl, .inl (.inl hF3), fun a4 na4 => ?_⟩
              rw [cut2]
              have s4 : Same G3 (upd G3 a4 (.lst ((List.replicate i 0).map ctV))) := same_upd na4
              have h4 : (upd G3 a4 (.lst ((List.replicate i 0).map ctV))) a4 = some (.lst ((List.replicate i 0).map ctV)) := upd_same
              generalize upd G3 a4 (.lst ((List.replicate i 0).map ctV)) = G4 at s4 h4 ⊢
              refine ⟨a3, a4, _, _, rfl, rfl, s4 _ _ h3, h4, ?_, fun a5 na5 => ?_⟩
              · rw [List.length_append, List.length_map, List.length_map, hRl, List.length_replicate]
                exact Nat.le_trans (show os.length - 1 - i + 1 + i ≤ 1000 by omega) (by decide)
              have s5 : Same H (upd G4 a5 (.lst ((z.drop (i + 1)).reverse.map ctV ++ [ctV (d + 1)] ++ (List.replicate i 0).map ctV))) := sm.trans (s1.trans (s2.trans (s3.trans (s4.trans (same_upd na5)))))
              refine ⟨a5, _, rfl, .inl ⟨.inl (.inl upd_same), fun tt ntt => q _ _ (s5.trans (same_upd ntt)) (.inr ⟨hres.1, tt, rfl, ?_⟩)⟩⟩
              rw [upd_same, tup_ct, hres.2]
              congr 2
              rw [List.reverse_append, List.reverse_cons, List.reverse_replicate, List.map_append, List.map_append]
              rfl
            · -- a nought, and on
              have ge1 : ¬ d + 1 < s o := fun z' => e2 (decide_eq_true (show (d : Int) < (s o : Int) - 1 by omega))
              rw [if_neg ge1] at hin
              refine ⟨_, rfl, _, rfl, Fd, _, ((os.length - 1 - i : Nat) : Int), _, rfl, rfl, hF, ixN_c (by rw [List.length_map, lF]; omega), some (.int ((os.length - 1 - i : Nat) : Int)), rfl, fun b o' e => ?_, ?_, ?_⟩
              · rw [upd_ne (ne_of_none e nF)]
                exact sm _ _ e
              · rw [upd_same]
                congr 2
                rw [show (V.int 0) = ctV 0 from rfl, ← List.map_set, ← hRl, set_mid]
                congr 1
                rw [List.reverse_append, List.reverse_replicate]
                rfl
              · rw [hin, Option.map_map, List.replicate_succ']
                congr 1
                funext x
                show List.replicate i 0 ++ 0 :: x = List.replicate i 0 ++ [0] ++ x
                rw [List.append_assoc]
                rfl
          · -- below the number
            have hgt : ¬ n ≤ o := fun z' => e (decide_eq_true z')
            have d0 : d = 0 := by
              obtain ⟨d', e1⟩ : ∃ d', (digs s os r)[i]? = some d' := ⟨_, List.getElem?_eq_getElem (by rw [dl]; exact hi)⟩
              have := zdig_at os r i o d' ho e1 (n := n)
              rw [← hz, hd, if_pos (by omega)] at this
              exact Option.some.inj this
            refine ⟨some (.int ((os.length - 1 - i : Nat) : Int)), rfl, sm, ?_, ?_⟩
            · rw [hF, d0]
              congr 3
              rw [List.reverse_append, List.reverse_replicate]
              rfl
            · have hin : incZ s n os z = ((incZ s n (os.drop (i + 1)) (z.drop (i + 1))).map (d :: ·)).map (List.replicate i 0 ++ ·) := by
                rw [hinv]
                show ((if n ≤ o then _ else _ : Option (List Nat))).map _ = _
                rw [if_neg hgt]
              rw [hin, d0, Option.map_map, List.replicate_succ']
              congr 1
              funext x
              show List.replicate i 0 ++ 0 :: x = List.replicate i 0 ++ [0] ++ x
              rw [List.append_assoc]
              rfl
        · obtain ⟨y4, rfl, sm, hF, hinv⟩ := hP
          refine q _ _ sm (.inl ⟨?_, rfl⟩)
          have h0 : incZ s n os z = none := by
            rw [hinv, List.drop_length]
            rfl
          rw [h0] at hinc
          by_cases cc : wantN s os n r < prodS s os
          · rw [if_pos cc] at hinc
            cases hinc
          · omega
end
end G

namespace G
open PySem PySem.Spec PyProof.Rows L2 PM
abbrev s__law_measures : Stmt := topS 50
theorem sc__law_measures : FnScope ["_law_game_here", "_law_counts", "_law_number", "_law_found", "_law_place", "_law_player", "_law_ways", "_law_ranks", "_law_best", "_law_row", "_law_pair", "_law_way"] ["_law_game_here"] (defScope s__law_measures) := ⟨rfl, rfl, rfl, by decide +kernel, rfl, by decide +kernel, by decide +kernel⟩
/-! ### a comprehension within a comprehension -/
theorem kr_pi_list {X : Cx} {K : PySem.W.Frag} (h : X.K = K) {tg l : Expr} {tl : TE} (hl : PE X l tl) : PI X tg l (iList K tl) := h ▸ pi_list hl
def rTupOf (K : PySem.W.Frag) : List V → Hp → VK → Prop := fun xs H Q => ∃ p ys, xs = [.ref p] ∧ ((SqL K H p ys ∧ ∀ l, H l = none → Q (.ref l) (upd H l (.tup ys))) ∨ (SqT K H p ys ∧ Q (.ref p) H))
theorem kr_call_tuple_of {X : Cx} {K : PySem.W.Frag} (h : X.K = K) : CallR X (.type "tuple") (rTupOf K) := h ▸ call_tuple_of
theorem blkOk_by0 {N : List Str} {sc scope : Scope} {own : List (Str × Nat)} (h : blkC N scope scope own = true) (nf : (scope.names.all fun y => match y.2 with | .free => false | _ => true) = true) : BlkOk N sc scope own := by
  obtain ⟨a, b, c, d, e⟩ := blkOk_by h
  refine ⟨a, b, c, fun y hy z => ?_, e⟩
  have := List.all_eq_true.mp nf y hy
  rw [z] at this
  cases this
/-- a list of some of those walked: how many -/
theorem lc_cnt {K : PySem.W.Frag} {a : Addr} {xs : List V} {g : TG} {tt : TT} {te : TE} {vs : List Nat} {σ : L2.St} {H1 : Hp} {D : Addr} {Qd : Hp → Prop} (f : Nat → Bool) (hS : SqL K H1 a xs) (nD : H1 D = none) (hz : xs.length ≤ 1000)
    (hs : ∀ (i : Nat) (x : V) (H : Hp) (Q : VK) (N : Hp → Prop), xs[i]? = some x → Same H1 H → (f i = true → ∀ v H', Same H H' → Q v H') → (f i = false → ∀ H', Same H H' → N H') →
      g x (wipe σ vs) H fun σ2 H2 => wipe σ2 vs = wipe σ vs ∧ tt σ2 H2 fun b H3 => if b = true then te σ2 H3 Q else N H3)
    (hd : ∀ H ys, Same H1 H → H D = some (.lst ys) → ys.length = (List.range xs.length).countP f → Qd H) :
    ∃ W : Nat → Nat → Hp → Prop, (∃ m, W 0 m (upd H1 D (.lst []))) ∧ ∀ i m H, W i m H →
      ((Itl K a).stop i H ∧ Qd H) ∨ ((Itl K a).go i H ∧ ∃ Nx : Hp → Prop, (∀ H', Nx H' → ∃ m', m' < m ∧ W (i + 1) m' H') ∧ ∀ x H', (Itl K a).yld i H x H' → g x (wipe σ vs) H' fun σ2 H2 => wipe σ2 vs = wipe σ vs ∧ tt σ2 H2 fun b H3 =>
        if b = true then te σ2 H3 fun y H4 => ∃ acc, H4 D = some (.lst acc) ∧ acc.length < sizeLine ∧ Nx (upd H4 D (.lst (acc ++ [y]))) else Nx H3) := by
  refine lc_list (K := K) (a := a) (xs := xs) (fun i H => Same H1 H ∧ ∃ ys, H D = some (.lst ys) ∧ ys.length = (List.range i).countP f) ⟨same_upd nD, [], upd_same, rfl⟩ (fun i H _ p => p.1.seq hS) (fun i x H hi ⟨sm, ys, hD, hl⟩ => ?_) (fun H ⟨sm, ys, hD, hl⟩ => hd H ys sm hD hl)
  have hlt := (List.getElem?_eq_some_iff.mp hi).1
  have le : (List.range i).countP f ≤ i := by
    have := List.countP_le_length (p := f) (l := List.range i)
    rw [List.length_range] at this
    exact this
  refine hs i x H _ _ hi sm (fun hf v H' s => ⟨_, s _ _ hD, small1000 (by omega), fun b o e => ?_, ys ++ [v], upd_same, ?_⟩) (fun hf H' s => ⟨sm.trans s, ys, s _ _ hD, ?_⟩)
  · rw [upd_ne (ne_of_none e nD)]
    exact s _ _ (sm _ _ e)
  · rw [List.length_append, hl, List.range_succ, List.countP_append, List.countP_cons_of_pos hf]
    rfl
  · rw [hl, List.range_succ, List.countP_append, List.countP_cons_of_neg (by rw [hf]; decide)]
    rfl
theorem count_range (g : List Row) (k : Int) : (List.range g.length).countP (fun i => decide (numAt g (i : Nat) = k)) = (g.map Row.n).count k := by
  rw [← count_upto]
  unfold upto
  rw [List.countP_map]
  rfl
/-! ### ranks as data: which is above -/
def rkA (s : Int → Nat) (os : List Int) (r : Nat) : Int := if r < prodS s os then 0 else 1
def rkT (s : Int → Nat) (os : List Int) (r : Nat) : List Int := if r < prodS s os then tupN s os r else []
def rankD (s : Int → Nat) (os : List Int) (r : Nat) : PyData := .tuple [.int (rkA s os r), .tuple ((rkT s os r).map .int)]
def RankAt (H : Hp) (s : Int → Nat) (os : List Int) (v : V) (r : Nat) : Prop := ∃ t u, v = .ref t ∧ H t = some (.tup [.int (rkA s os r), .ref u]) ∧ H u = some (.tup ((rkT s os r).map V.int))
theorem RankAt.keep {H H' : Hp} {s : Int → Nat} {os : List Int} {v : V} {r : Nat} (h : RankAt H s os v r) (k : KeepT H H') : RankAt H' s os v r := by
  obtain ⟨t, u, e, a, b⟩ := h
  exact ⟨t, u, e, k _ _ a, k _ _ b⟩
theorem RankAt.dp {K : PySem.W.Frag} {H : Hp} {s : Int → Nat} {os : List Int} {v : V} {r : Nat} (h : RankAt H s os v r) : Dp K H v (rankD s os r) := by
  obtain ⟨t, u, rfl, a, b⟩ := h
  exact .tup (.inl (.inl a)) (.cons (.int _) (.cons (.tup (.inl (.inl b)) (dpa_ints' _)) .nil))
section
variable {s : Int → Nat} {os : List Int} {r r' : Nat}
theorem rank_gt (h : ∀ o, 0 < s o) (hr : r ≤ prodS s os) (hr' : r' ≤ prodS s os) : gtM (rkA s os r) (rkT s os r) (rkA s os r') (rkT s os r') = decide (r' < r) := by
  unfold gtM rkA rkT
  by_cases a : r < prodS s os
  · rw [if_pos a, if_pos a]
    by_cases b : r' < prodS s os
    · rw [if_pos b, if_pos b, if_pos rfl]
      exact decide_eq_decide.mpr (tupN_lt h os r' r b a)
    · rw [if_neg b, if_neg b, if_neg (by decide)]
      exact decide_eq_decide.mpr ⟨fun z => absurd z (by decide), fun z => by omega⟩
  · rw [if_neg a, if_neg a]
    by_cases b : r' < prodS s os
    · rw [if_pos b, if_pos b, if_neg (by decide)]
      exact decide_eq_decide.mpr ⟨fun _ => by omega, fun _ => by decide⟩
    · rw [if_neg b, if_neg b, if_pos rfl]
      exact decide_eq_decide.mpr ⟨fun z => absurd z (List.not_lt_nil _), fun z => by omega⟩
theorem eqv_tints (xs ys : List Int) : PyData.eqv (.tuple (xs.map .int)) (.tuple (ys.map .int)) = decide (xs = ys) := by
  have : PyData.eqv (.tuple (xs.map .int)) (.tuple (ys.map .int)) = PyData.eqv (intsD xs) (intsD ys) := rfl
  rw [this, eqv_ints]
theorem rank_lt (h : ∀ o, 0 < s o) (hr : r ≤ prodS s os) (hr' : r' ≤ prodS s os) : PySem.W.dataLt (rankD s os r) (rankD s os r') = decide (r < r') := by
  unfold rankD
  have al : PySem.W.alike (.tuple ((rkT s os r).map .int)) (.tuple ((rkT s os r').map .int)) = true := PySem.W.alike_ints _ _
  rw [PySem.W.dataLt_pair rfl al, PySem.W.dataLt_int]
  have e1 : PySem.W.dataLt (.tuple ((rkT s os r).map .int)) (.tuple ((rkT s os r').map .int)) = decide (rkT s os r < rkT s os r') := by
    rw [PySem.W.dataLt_tuple]
    exact PySem.W.dataLt_ints _ _
  rw [e1, eqv_tints]
  have g := rank_gt (r := r') (r' := r) h hr' hr
  unfold gtM at g
  rw [← g]
  show (if ((rkA s os r) == (rkA s os r')) = true then _ else _) = _
  by_cases a : rkA s os r = rkA s os r'
  · rw [if_pos (beq_iff_eq.mpr a), if_pos a.symm]
    by_cases b : rkT s os r = rkT s os r'
    · rw [decide_eq_true b, if_pos rfl, b, decide_eq_false (List.lt_irrefl _)]
    · rw [decide_eq_false b, if_neg Bool.false_ne_true]
  · rw [if_neg (fun z => a (beq_iff_eq.mp z)), if_neg (fun z => a z.symm)]
theorem rank_alike (r r' : Nat) : PySem.W.alike (rankD s os r) (rankD s os r') = true := by
  have al : PySem.W.alike (.tuple ((rkT s os r).map .int)) (.tuple ((rkT s os r').map .int)) = true := PySem.W.alike_ints _ _
  show (true && (PySem.W.alike (.tuple ((rkT s os r).map .int)) (.tuple ((rkT s os r').map .int)) && true)) = true
  rw [al]; rfl
theorem rank_depth (r : Nat) : (rankD s os r).depth ≤ 8 := by
  show max 0 (max (PyData.depthAll ((rkT s os r).map .int) + 1) 0) + 1 ≤ 8
  rw [PySem.W.depth_ints]
  decide
/-- the first of the sorted ones is the least, the last the greatest -/
theorem sorted_ends {bs : List (V × PyData)} {f : V × PyData → Nat} (h : ∀ o, 0 < s o) (hf : ∀ b ∈ bs, b.2 = rankD s os (f b) ∧ f b ≤ prodS s os) (ne : bs ≠ []) :
    ∃ b0 b1, b0 ∈ bs ∧ b1 ∈ bs ∧ (bs.mergeSort (PySem.W.dataLe false (·.2)))[0]? = some b0 ∧ (bs.mergeSort (PySem.W.dataLe false (·.2)))[bs.length - 1]? = some b1 ∧ (∀ b ∈ bs, f b0 ≤ f b) ∧ ∀ b ∈ bs, f b ≤ f b1 := by
  have tot := PySem.W.sortLe_total (PyProof.Rows.listOrd PyProof.Rows.itemOrd) false fun b : V × PyData => PySem.W.keyToks b.2
  have hp := List.mergeSort_perm bs (PySem.W.dataLe false (·.2))
  have hl : (bs.mergeSort (PySem.W.dataLe false (·.2))).length = bs.length := hp.length_eq
  have hpw : (bs.mergeSort (PySem.W.dataLe false (·.2))).Pairwise fun a b => PySem.W.dataLe false (·.2) a b = true := List.pairwise_mergeSort (fun a b c => tot.trans a b c) (fun a b => Bool.or_eq_true_iff.mpr (tot.total a b)) bs
  have pos : 0 < bs.length := List.length_pos_iff.mpr ne
  generalize bs.mergeSort (PySem.W.dataLe false (·.2)) = l at hp hl hpw
  have key : ∀ a ∈ bs, ∀ b ∈ bs, PySem.W.dataLe false (·.2) a b = true → f a ≤ f b := fun a ha b hb e => by
    have e' : (!PySem.W.dataLt b.2 a.2) = true := e
    obtain ⟨ea, la⟩ := hf a ha
    obtain ⟨eb, lb⟩ := hf b hb
    rw [ea, eb, rank_lt h lb la, Bool.not_eq_true', decide_eq_false_iff_not] at e'
    omega
  have at_ : ∀ i, i < l.length → ∃ b, l[i]? = some b ∧ b ∈ bs := fun i hi => ⟨l[i], List.getElem?_eq_getElem hi, hp.mem_iff.mp (List.getElem_mem hi)⟩
  obtain ⟨b0, h0, m0⟩ := at_ 0 (by omega)
  obtain ⟨b1, h1, m1⟩ := at_ (bs.length - 1) (by omega)
  refine ⟨b0, b1, m0, m1, h0, h1, fun b hb => ?_, fun b hb => ?_⟩
  · obtain ⟨j, hj⟩ := List.mem_iff_getElem?.mp (hp.mem_iff.mpr hb)
    obtain ⟨a1, a2⟩ := List.getElem?_eq_some_iff.mp h0
    obtain ⟨c1, c2⟩ := List.getElem?_eq_some_iff.mp hj
    rcases Nat.eq_zero_or_pos j with z | z
    · subst z
      rw [a2] at c2
      rw [c2]
      exact Nat.le_refl _
    · have := List.pairwise_iff_getElem.mp hpw 0 j a1 c1 z
      rw [a2, c2] at this
      exact key b0 m0 b hb this
  · obtain ⟨j, hj⟩ := List.mem_iff_getElem?.mp (hp.mem_iff.mpr hb)
    obtain ⟨a1, a2⟩ := List.getElem?_eq_some_iff.mp h1
    obtain ⟨c1, c2⟩ := List.getElem?_eq_some_iff.mp hj
    by_cases z : j < bs.length - 1
    · have := List.pairwise_iff_getElem.mp hpw j (bs.length - 1) c1 a1 z
      rw [a2, c2] at this
      exact key b hb b1 m1 this
    · have : j = bs.length - 1 := by omega
      subst this
      rw [a2] at c2
      rw [c2]
      exact Nat.le_refl _
end
section
variable {P : Program} {w : World} {K : PySem.W.Frag} {mg : Str → Option Value} {base : Heap}
def spLawRank : Sp := fun vs H Q _ => ∃ (v : V) (os : List Int) (s : Int → Nat) (r : Nat), vs = [v] ∧ MeasAt H s os v r ∧ ∀ H' v', Same H H' → RankAt H' s os v' r → Q v' H'
theorem ok_law_rank {f : Addr} {fd : FuncData} (F : Fun K "_law_rank" "_law_rank" s__law_rank f fd) : FnOk P w K mg base (L2.CX P w) 1 f fd ["_law_measure"] spLawRank := by
  refine F.okX sc__law_rank (fun vs H Q E h => ?_) (fun cdv Ar outer s0 H vs Q E hr h => ?_)
  · obtain ⟨v, os, s, r, rfl, _⟩ := h
    rfl
  · obtain ⟨v, os, s, r, rfl, hM, q⟩ := h
    refine ⟨_, (pss_cons (ps_if (pt_cmpR op_isN (pv 0) pe_non (nomark _)) (pss_one (ps_ret (pe_tup (pa_cons pe_int (pa_cons (pe_tup pa_nil) pa_nil))))) pss_nil)
      (pss_one (ps_ret (pe_tup (pa_cons pe_int (pa_cons (pv 0) pa_nil)))))), ?_⟩
    rcases hM with ⟨ge, rfl⟩ | ⟨lt, t, rfl, ht⟩
    · refine ⟨_, rfl, rfl, _, rfl, iteT ⟨Nat.zero_le _, fun u nu => ⟨(by show 2 ≤ sizeLine; decide), fun t nt => q _ _ ((same_upd nu).trans (same_upd nt)) ⟨t, u, rfl, ?_, ?_⟩⟩⟩⟩
      · rw [upd_same]
        unfold rkA
        rw [if_neg (by omega)]
      · rw [same_upd nt _ _ upd_same]
        unfold rkT
        rw [if_neg (by omega)]
        rfl
    · refine ⟨_, rfl, rfl, _, rfl, iteF ⟨_, rfl, (by show 2 ≤ sizeLine; decide), fun p np => q _ _ (same_upd np) ⟨p, t, rfl, ?_, ?_⟩⟩⟩
      · rw [upd_same]
        unfold rkA
        rw [if_pos lt]
      · rw [same_upd np _ _ ht]
        unfold rkT
        rw [if_pos lt]
end
end G

namespace G
open PySem PySem.Spec PyProof.Rows L2 PM
theorem rankD_inj {s : Int → Nat} {os : List Int} {r r' : Nat} (h : ∀ o, 0 < s o) (hr : r ≤ prodS s os) (hr' : r' ≤ prodS s os) (e : rankD s os r = rankD s os r') : r = r' := by
  have h1 := rank_lt h hr hr'
  have h2 := rank_lt h hr' hr
  rw [e, rank_lt h hr' hr', decide_eq_false (Nat.lt_irrefl _)] at h1
  rw [e, rank_lt h hr' hr', decide_eq_false (Nat.lt_irrefl _)] at h2
  have a := of_decide_eq_false h1.symm
  have b := of_decide_eq_false h2.symm
  omega
theorem zip_at {α β : Type} : ∀ {xs : List α} {ys : List β} {p : α × β}, p ∈ xs.zip ys → ∃ i : Nat, xs[i]? = some p.1 ∧ ys[i]? = some p.2
  | x :: xs, y :: ys, p, h => by
    rw [List.zip_cons_cons] at h
    rcases List.mem_cons.mp h with rfl | h
    · exact ⟨0, rfl, rfl⟩
    · obtain ⟨i, h1, h2⟩ := zip_at h
      exact ⟨i + 1, h1, h2⟩
  | [], _, p, h => by cases h
  | _ :: _, [], p, h => by cases h
theorem zip_mem {α β : Type} : ∀ {xs : List α} {ys : List β} {i : Nat} {x : α} {y : β}, xs[i]? = some x → ys[i]? = some y → (x, y) ∈ xs.zip ys
  | x :: xs, y :: ys, 0, _, _, h1, h2 => by
    cases h1
    cases h2
    exact List.mem_cons_self
  | x :: xs, y :: ys, i + 1, _, _, h1, h2 => List.mem_cons_of_mem _ (zip_mem (i := i) h1 h2)
  | [], _, _, _, _, h, _ => by cases h
  | _ :: _, [], _, _, _, _, h => by cases h
theorem zip_fst {α β : Type} : ∀ {xs : List α} {ys : List β}, xs.length = ys.length → (xs.zip ys).map (·.1) = xs
  | [], _, _ => rfl
  | x :: xs, y :: ys, h => congrArg (x :: ·) (zip_fst (by simpa using h))
  | _ :: _, [], h => by simp at h
theorem zip_snd {α β : Type} : ∀ {xs : List α} {ys : List β}, xs.length = ys.length → (xs.zip ys).map (·.2) = ys
  | [], [], _ => rfl
  | x :: xs, y :: ys, h => congrArg (y :: ·) (zip_snd (by simpa using h))
  | [], _ :: _, h => by simp at h
  | _ :: _, [], h => by simp at h
open Classical in
/-- which stand at the ends of the sorted ones -/
theorem sorted_pick {s : Int → Nat} {os : List Int} {ys : List V} {fl : List Nat} (h : ∀ o, 0 < s o) (hl : ys.length = fl.length) (ne : fl ≠ []) (hf : ∀ r ∈ fl, r ≤ prodS s os) :
    ∃ (i0 i1 : Nat) (v0 v1 : V) (r0 r1 : Nat), ys[i0]? = some v0 ∧ fl[i0]? = some r0 ∧ ys[i1]? = some v1 ∧ fl[i1]? = some r1 ∧ ((((ys.zip (fl.map (rankD s os))).mergeSort (PySem.W.dataLe false (·.2))).map (·.1))[0]? = some v0) ∧
      ((((ys.zip (fl.map (rankD s os))).mergeSort (PySem.W.dataLe false (·.2))).map (·.1))[fl.length - 1]? = some v1) ∧ (∀ r ∈ fl, r0 ≤ r) ∧ ∀ r ∈ fl, r ≤ r1 := by
  have hl2 : ys.length = (fl.map (rankD s os)).length := by rw [List.length_map]; exact hl
  have zl : (ys.zip (fl.map (rankD s os))).length = fl.length := by rw [List.length_zip, List.length_map]; omega
  have ex : ∀ b ∈ ys.zip (fl.map (rankD s os)), ∃ (i : Nat) (r : Nat), ys[i]? = some b.1 ∧ fl[i]? = some r ∧ b.2 = rankD s os r := fun b hb => by
    obtain ⟨i, h1, h2⟩ := zip_at hb
    rw [List.getElem?_map] at h2
    obtain ⟨r, hr, e⟩ := Option.map_eq_some_iff.mp h2
    exact ⟨i, r, h1, hr, e.symm⟩
  have ok : ∀ b ∈ ys.zip (fl.map (rankD s os)), b.2 = rankD s os (if z : ∃ r, b.2 = rankD s os r ∧ r ≤ prodS s os then choose z else 0) ∧ (if z : ∃ r, b.2 = rankD s os r ∧ r ≤ prodS s os then choose z else 0) ≤ prodS s os := fun b hb => by
    obtain ⟨i, r, _, h2, h3⟩ := ex b hb
    have z : ∃ r, b.2 = rankD s os r ∧ r ≤ prodS s os := ⟨r, h3, hf r (List.mem_of_getElem? h2)⟩
    rw [dif_pos z]
    exact choose_spec z
  have ne2 : ys.zip (fl.map (rankD s os)) ≠ [] := fun z => ne (List.eq_nil_of_length_eq_zero (by rw [← zl, z]; rfl))
  obtain ⟨b0, b1, m0, m1, h0, h1, lo0, hi1⟩ := sorted_ends (f := fun b : V × PyData => if z : ∃ r, b.2 = rankD s os r ∧ r ≤ prodS s os then choose z else 0) h ok ne2
  have val : ∀ b ∈ ys.zip (fl.map (rankD s os)), ∀ r ∈ fl, b.2 = rankD s os r → (if z : ∃ r, b.2 = rankD s os r ∧ r ≤ prodS s os then choose z else 0) = r := fun b hb r hr e => by
    obtain ⟨k1, k2⟩ := ok b hb
    exact rankD_inj h k2 (hf r hr) (k1.symm.trans e)
  obtain ⟨i0, r0, a1, a2, a3⟩ := ex b0 m0
  obtain ⟨i1, r1, c1, c2, c3⟩ := ex b1 m1
  have e0 := val b0 m0 r0 (List.mem_of_getElem? a2) a3
  have e1 := val b1 m1 r1 (List.mem_of_getElem? c2) c3
  have all : ∀ r ∈ fl, r0 ≤ r ∧ r ≤ r1 := fun r hr => by
    obtain ⟨j, hj⟩ := List.mem_iff_getElem?.mp hr
    have hlt : j < ys.length := by rw [hl]; exact (List.getElem?_eq_some_iff.mp hj).1
    have hb := zip_mem (List.getElem?_eq_getElem hlt) (show (fl.map (rankD s os))[j]? = some (rankD s os r) by rw [List.getElem?_map, hj]; rfl)
    have q0 := lo0 _ hb
    have q1 := hi1 _ hb
    have ev := val _ hb r hr rfl
    dsimp only at q0 q1 ev
    rw [ev] at q0 q1
    exact ⟨by omega, by omega⟩
  refine ⟨i0, i1, b0.1, b1.1, r0, r1, a1, a2, c1, c2, by rw [List.getElem?_map, h0]; rfl, ?_, fun r hr => (all r hr).1, fun r hr => (all r hr).2⟩
  rw [zl] at h1
  rw [List.getElem?_map, h1]
  rfl
theorem at_last {xs : List V} {v : V} (hl : 0 < xs.length) (h : xs[xs.length - 1]? = some v) : atI xs (-1) = some v := by
  unfold atI
  have : ixN xs.length (-1) = some (xs.length - 1) := by
    unfold ixN
    rw [if_neg (by decide), if_pos (by omega)]
    congr 1
    omega
  rw [this]
  exact h
end G

namespace G
open PySem PySem.Spec PyProof.Rows L2 PM
section
variable {P : Program} {w : World} {K : PySem.W.Frag} {mg : Str → Option Value} {base : Heap}
def oddL (ks : List Int) : List Int := ks.filter fun x => decide (x % 2 = 1)
theorem oddL_rev (ks : List Int) : oddL ks.reverse = (oddL ks).reverse := List.filter_reverse
def spLawMeas (K : PySem.W.Frag) : Sp := fun vs H Q _ => ∃ (v : V) (g : List Row), vs = [v] ∧ Dp K H v (gameD g) ∧ ValidG g ∧ ∀ H' F xs os rs, Same H H' → H F = none → H' F = some (.lst xs) → xs.length = g.length → OddsOf g os → LeastR g os (rkN rs) → (∀ p, InG g p → ∃ v, xs[p.toNat]? = some v ∧ MeasAt H' (szN g) os v (rkN rs p)) → Q (.ref F) H'
theorem ok_law_measures {f : Addr} {fd : FuncData} (B : Bt mg) (F : Fun K "_law_measures" "_law_measures" s__law_measures f fd) (C__law_wanted : Cal P w K mg base 1 "_law_wanted" (spLawWanted K)) (C__law_rank : Cal P w K mg base 1 "_law_rank" spLawRank) : FnOk P w K mg base (L2.CX P w) 2 f fd ["_law_game_here"] (spLawMeas K) := by
  refine F.okX sc__law_measures (fun vs H Q E h => ?_) (fun cdv Ar outer s0 H vs Q E hr h => ?_)
  · obtain ⟨v, g, rfl, _⟩ := h
    rfl
  · obtain ⟨v, g, rfl, hg, hv, q⟩ := h
    refine ⟨_, (pss_cons (ps_set (i := 1) sc__law_measures.nd rfl (Or.inr rfl) (pe_lst pa_nil))
      (pss_cons (ps_for (passes_of rfl) rfl (pi_reversed (by rfl) B.reversed_ (pa_cons (pe_sortset (by rfl) B.sorted_ (by rfl) B.set_ (pe_lc (own := [("_law_row", 9)]) (by rfl) sc__law_measures.nd (pi_list (pv 0)) (blkOk_by (own := [("_law_row", 9)]) (N := ["_law_game_here", "_law_counts", "_law_number", "_law_found", "_law_place", "_law_player", "_law_ways", "_law_ranks", "_law_best", "_law_row", "_law_pair", "_law_way"]) (sc := defScope s__law_measures) (by decide +kernel)) (fun _ _ _ _ _ => (pg_name (i := 9) sc__law_measures.nd rfl (Or.inl rfl))) (fun _ _ _ _ _ => pts_nil) (fun _ _ _ _ _ => (pe_ix (kr_ix_tup (K := K) rfl) (pv 9) pe_int (fun _ _ => rfl))))) pa_nil)) (pg_name (i := 2) sc__law_measures.nd rfl (Or.inr rfl)) (pss_one (ps_if (pt_cmpR op_eq (pe_op op_mod (pv 2) pe_int) pe_int (nomark _)) (pss_one (ps_expr (pe_bm PySem.F.plainAttrs_list PySem.F.slot_list_append PySem.F.type_list_append mt_append (pv 1) (pa_cons (pe_tup (pa_cons (pv 2) (pa_cons (pe_callB call_len_seq (by rfl) B.len_ (by decide +kernel) (pa_cons (pe_lc (own := [("_law_row", 9)]) (by rfl) sc__law_measures.nd (pi_list (pv 0)) (blkOk_by (own := [("_law_row", 9)]) (N := ["_law_game_here", "_law_counts", "_law_number", "_law_found", "_law_place", "_law_player", "_law_ways", "_law_ranks", "_law_best", "_law_row", "_law_pair", "_law_way"]) (sc := defScope s__law_measures) (by decide +kernel)) (fun _ _ _ _ _ => (pg_name (i := 9) sc__law_measures.nd rfl (Or.inl rfl))) (fun _ _ _ _ _ => (pts_one (pt_cmpR op_eq (pe_ix (kr_ix_tup (K := K) rfl) (pv 9) pe_int (fun _ _ => rfl)) (pv 2) (nomark _)))) (fun _ _ _ _ _ => (pv 9))) pa_nil)) pa_nil))) pa_nil)))) pss_nil)))
      (pss_cons (ps_set (i := 3) sc__law_measures.nd rfl (Or.inr rfl) (pe_lc (own := [("_law_row", 9)]) (by rfl) sc__law_measures.nd (pi_list (pv 0)) (blkOk_by (own := [("_law_row", 9)]) (N := ["_law_game_here", "_law_counts", "_law_number", "_law_found", "_law_place", "_law_player", "_law_ways", "_law_ranks", "_law_best", "_law_row", "_law_pair", "_law_way"]) (sc := defScope s__law_measures) (by decide +kernel)) (fun _ _ _ _ _ => (pg_name (i := 9) sc__law_measures.nd rfl (Or.inl rfl))) (fun _ _ _ _ _ => pts_nil) (fun _ _ _ _ _ => (pe_callTy (kr_call_tuple_of (K := K) rfl) (by rfl) B.tuple_ (by decide +kernel) (pa_cons (pe_lc (own := [("_law_pair", 10)]) (by rfl) sc__law_measures.nd (kr_pi_list (K := K) rfl (pv 1)) (blkOk_by0 (own := [("_law_pair", 10)]) (N := ["_law_game_here", "_law_counts", "_law_number", "_law_found", "_law_place", "_law_player", "_law_ways", "_law_ranks", "_law_best", "_law_row", "_law_pair", "_law_way"]) (by decide +kernel) (by decide +kernel)) (fun _ _ _ _ _ => (pg_name (i := 10) sc__law_measures.nd rfl (Or.inl rfl))) (fun _ _ _ _ _ => pts_nil) (fun _ _ _ _ _ => pe_int)) pa_nil)))))
      (pss_cons (ps_set (i := 4) sc__law_measures.nd rfl (Or.inl rfl) (pe_op op_sub (pe_callB call_len_seq (by rfl) B.len_ (by decide +kernel) (pa_cons (pv 0) pa_nil)) pe_int))
      (pss_cons (ps_while (passes_of rfl) (pt_cmpR op_ge (pv 4) pe_int (nomark _)) (pss_cons (ps_asg (pe_ix ix_list (pv 0) (pv 4) (fun _ _ => rfl)) (pg_tup (by rfl) (pgs_cons (pg_name (i := 5) sc__law_measures.nd rfl (Or.inl rfl)) (pgs_cons (pg_name (i := 2) sc__law_measures.nd rfl (Or.inr rfl)) (pgs_cons (pg_name (i := 6) sc__law_measures.nd rfl (Or.inl rfl)) pgs_nil)))))
      (pss_cons (ps_set (i := 7) sc__law_measures.nd rfl (Or.inl rfl) (pe_callB (cr_sortedD hr.units) (by rfl) B.sorted_ (by decide +kernel) (pa_cons (pe_lc (own := [("_law_way", 11)]) (by rfl) sc__law_measures.nd (pi_list (pv 6)) (blkOk_by (own := [("_law_way", 11)]) (N := ["_law_game_here", "_law_counts", "_law_number", "_law_found", "_law_place", "_law_player", "_law_ways", "_law_ranks", "_law_best", "_law_row", "_law_pair", "_law_way"]) (sc := defScope s__law_measures) (by decide +kernel)) (fun _ _ _ _ _ => (pg_name (i := 11) sc__law_measures.nd rfl (Or.inl rfl))) (fun _ _ _ _ _ => pts_nil) (fun _ _ _ _ _ => (pe_cal C__law_rank hr (by decide) (by rfl) (pa_cons (pe_cal C__law_wanted hr (by decide) (by rfl) (pa_cons (pv 1) (pa_cons (pv 2) (pa_cons (pe_ix (kr_ix_list (K := K) rfl) (pv 3) (pv 11) (fun _ _ => rfl)) pa_nil)))) pa_nil)))) pa_nil)))
      (pss_cons (ps_set (i := 8) sc__law_measures.nd rfl (Or.inl rfl) (pe_ix ix_list (pe_lst (pa_cons (pe_ix ix_list (pv 7) pe_int (fun _ _ => rfl)) (pa_cons (pe_ix ix_list (pv 7) (pe_un un_neg pe_int) (fun _ _ => rfl)) pa_nil))) (pv 5) (fun _ _ => rfl)))
      (pss_cons (ps_if (pt_cmpR (op_gtM hr.units) (pv 8) (pe_cal C__law_rank hr (by decide) (by rfl) (pa_cons (pe_ix ix_list (pv 3) (pv 4) (fun _ _ => rfl)) pa_nil)) (nomark _)) (pss_cons (ps_asg (pe_ix ix_list (pe_lst (pa_cons (pe_ix ix_tup (pv 8) pe_int (fun _ _ => rfl)) (pa_cons pe_non pa_nil))) (pe_ix ix_tup (pv 8) pe_int (fun _ _ => rfl)) (fun _ _ => rfl)) (pg_sub (pv 3) (pv 4) set_list))
      (pss_one (ps_set (i := 4) sc__law_measures.nd rfl (Or.inl rfl) (pe_callB call_len_seq (by rfl) B.len_ (by decide +kernel) (pa_cons (pv 0) pa_nil))))) pss_nil)
      (pss_one (ps_set (i := 4) sc__law_measures.nd rfl (Or.inl rfl) (pe_op op_sub (pv 4) pe_int))))))))
      (pss_one (ps_ret (pv 3)))))))), ?_⟩
    obtain ⟨ag, xg, rfl, hG, hGl, hGr⟩ := dp_game hg
    have h40 := hv.1
    -- the counts
    refine ⟨Nat.zero_le _, fun C nC => ?_⟩
    have sC : Same H (upd H C (.lst [])) := same_upd nC
    have hC1 : (upd H C (.lst [])) C = some (.lst (([] : List Addr).map V.ref)) := upd_same
    generalize upd H C (.lst []) = H1 at sC hC1 ⊢
    refine ⟨_, rfl, ag, rfl, ⟨_, sC.seq hG⟩, fun D nD => lc_pure ((g.map Row.n).map V.int) (by rw [List.length_map, List.length_map, hGl]) (sC.seq hG) nD (by omega) (fun i x y H2 Q' hx hy sm hQ => ?_) (fun H2 sm2 hD => ⟨D, g.map Row.n, rfl, .inl (.inl hD), by rw [List.length_map]; omega, fun ks p up mem np => ⟨p, _, rfl, .inl (.inl upd_same), ?_⟩⟩)⟩
    · rw [List.getElem?_map, List.getElem?_map] at hy
      obtain ⟨n, hn, rfl⟩ := Option.map_eq_some_iff.mp hy
      obtain ⟨r, hr0, rfl⟩ := Option.map_eq_some_iff.mp hn
      obtain ⟨t, wy, ht, hT, hW⟩ := hGr i r hr0
      rw [hx] at ht
      cases ht
      exact ⟨rfl, _, rfl, t, _, 1, _, rfl, rfl, same_sqt (sC.trans sm) hT, atI_nat (j := 1) rfl, hQ _ (Same.refl _)⟩
    have sp : Same H2 (upd H2 p (.lst (ks.map V.int))) := same_upd np
    have hp3 : (upd H2 p (.lst (ks.map V.int))) p = some (.lst (ks.map V.int)) := upd_same
    have hC3 := sp _ _ (sm2 _ _ hC1)
    have s13 := sm2.trans sp
    generalize upd H2 p (.lst (ks.map V.int)) = H3 at sp hp3 hC3 s13 ⊢
    have s03 := sC.trans s13
    have pC : p ≠ C := fun e => by rw [e, sm2 _ _ hC1] at np; cases np
    have kl : (ks.map V.int).length = ks.length := List.length_map _
    have kl40 : ks.length ≤ 40 := by
      have := few_of (up.imp fun h => Int.ne_of_lt h) fun x hx => (mem x).mp hx
      rw [List.length_map] at this
      omega
    refine for_it walk_rev (fun (j : Nat) σ H' => ∃ (y2 : Option V) (ts : List Addr), σ = [some (.ref ag), some (.ref C), y2, none, none, none, none, none, none, none, none, none] ∧ Same H H' ∧ H' p = some (.lst (ks.map V.int)) ∧ H' C = some (.lst (ts.map V.ref)) ∧ ts.length = (oddL (ks.reverse.take j)).length ∧ ∀ (k : Nat) (o : Int), (oddL (ks.reverse.take j))[k]? = some o → ∃ t, ts[k]? = some t ∧ H' t = some (.tup [.int o, .int ((g.map Row.n).count o : Nat)])) ⟨none, [], rfl, s03, hp3, hC3, rfl, fun k o h => by cases h⟩ (fun j σ H' _ ⟨_, _, _, _, h, _⟩ => .inl (.inl h)) (fun j x σ G1 G2 hj hP y => ?_) (fun σ H' hP => ?_)
    · obtain ⟨y2, ts, rfl, sm, hp, hC, tl, tt⟩ := hP
      obtain ⟨rfl, hx⟩ := y
      rw [kl] at hx hj
      rw [List.getElem?_map] at hx
      obtain ⟨o, ho, rfl⟩ := Option.map_eq_some_iff.mp hx
      have hor : ks.reverse[j]? = some o := rev_at hj (by rw [show ks.length - 1 - j = ks.length - 1 - j from rfl]; exact ho)
      have step : ks.reverse.take (j + 1) = ks.reverse.take j ++ [o] := by rw [List.take_add_one, hor]; rfl
      refine ⟨_, rfl, _, _, rfl, rfl, (by show (0:Int) < 2; decide), rfl, _, rfl, ite2 (fun e => ?_) (fun e => ?_)⟩
      · have eo : o % 2 = 1 := V.int.inj (of_decide_eq_true e)
        have ol : oddL (ks.reverse.take (j + 1)) = oddL (ks.reverse.take j) ++ [o] := by
          rw [step]
          unfold oddL
          rw [List.filter_append, List.filter_cons_of_pos (p := fun x : Int => decide (x % 2 = 1)) (decide_eq_true eo)]
          rfl
        refine ⟨.ref C, rfl, .inl ⟨rfl, _, .inl (.inl hC)⟩, _, rfl, _, rfl, ag, rfl, ⟨_, sm.seq hG⟩, fun L nL => lc_cnt (fun i => decide (numAt g (i : Nat) = o)) (sm.seq hG) nL (by omega) (fun i x G3 Q' N hx s3 q1 q2 => ?_) (fun G3 ys s3 hL yl => ⟨L, ys, rfl, .inl (.inl (.inl hL)), (by show 2 ≤ sizeLine; decide), fun T nT => ?_⟩)⟩
        · have hi : i < g.length := by rw [← hGl]; exact (List.getElem?_eq_some_iff.mp hx).1
          have hr0 : g[i]? = some g[i] := List.getElem?_eq_getElem hi
          obtain ⟨t, wy, ht, hT, hW⟩ := hGr i _ hr0
          rw [hx] at ht
          cases ht
          have en : numAt g (i : Int) = g[i].n := numAt_of (by rw [Int.toNat_natCast]; exact hr0)
          refine ⟨rfl, _, rfl, t, _, 1, _, rfl, rfl, same_sqt (sm.trans s3) hT, atI_nat (j := 1) rfl, _, rfl, rfl, _, rfl, ite2 (fun e2 => ?_) (fun e2 => ?_)⟩
          · exact ⟨_, rfl, q1 (decide_eq_true (en.trans (V.int.inj (of_decide_eq_true e2)))) _ _ (Same.refl _)⟩
          · exact q2 (decide_eq_false fun z => e2 (decide_eq_true (congrArg V.int (en.symm.trans z)))) _ (Same.refl _)
        · rw [hGl, count_range] at yl
          have hCT := same_upd (o := .tup [.int o, .int (ys.length : Nat)]) nT _ _ (s3 _ _ hC)
          have TC : T ≠ C := fun e => by rw [e, s3 _ _ hC] at nT; cases nT
          refine ⟨C, _, _, rfl, rfl, hCT, ?_, ?_⟩
          · rw [List.length_map, tl]
            have := List.length_filter_le (fun x : Int => decide (x % 2 = 1)) (ks.reverse.take j)
            have : (ks.reverse.take j).length ≤ j := by rw [List.length_take]; omega
            unfold oddL
            exact small1000 (by omega)
          · have same : Same H (upd (upd G3 T (.tup [.int o, .int (ys.length : Nat)])) C (.lst (ts.map V.ref ++ [.ref T]))) := fun b u e => by
              rw [upd_ne (ne_of_none e nC)]
              exact same_upd nT _ _ (s3 _ _ (sm _ _ e))
            refine ⟨_, ts ++ [T], rfl, same, ?_, by rw [upd_same, List.map_append]; rfl, by rw [ol, List.length_append, List.length_append, tl]; rfl, fun k o' hk => ?_⟩
            · rw [upd_ne pC]
              exact same_upd nT _ _ (s3 _ _ hp)
            · rw [ol] at hk
              by_cases z : k < ts.length
              · rw [List.getElem?_append_left (by omega)] at hk
                obtain ⟨t, h1, h2⟩ := tt k o' hk
                refine ⟨t, by rw [List.getElem?_append_left z]; exact h1, ?_⟩
                rw [upd_ne (fun e => by rw [e, hC] at h2; cases h2)]
                exact same_upd nT _ _ (s3 _ _ h2)
              · rw [List.getElem?_append_right (by omega)] at hk
                have e0 : k - (oddL (ks.reverse.take j)).length = 0 := by
                  have := (List.getElem?_eq_some_iff.mp hk).1
                  simp at this
                  omega
                rw [e0] at hk
                cases hk
                refine ⟨T, by rw [List.getElem?_append_right (by omega), tl, e0]; rfl, ?_⟩
                rw [upd_ne TC, upd_same, yl]
      · have eo : ¬ o % 2 = 1 := fun z => e (decide_eq_true (congrArg V.int z))
        have ol : oddL (ks.reverse.take (j + 1)) = oddL (ks.reverse.take j) := by
          rw [step]
          unfold oddL
          rw [List.filter_append, List.filter_cons_of_neg (p := fun x : Int => decide (x % 2 = 1)) (by rw [decide_eq_false eo]; decide), List.filter_nil, List.append_nil]
        exact ⟨_, ts, rfl, sm, hp, hC, by rw [ol]; exact tl, by rw [ol]; exact tt⟩
    · obtain ⟨y2, ts, rfl, sm, hp, hC, tl, tt⟩ := hP
      rw [kl] at tl tt
      rw [show ks.reverse.take ks.length = ks.reverse by rw [← List.length_reverse, List.take_length], oddL_rev] at tl tt
      have oo : OddsOf g (oddL ks) := ⟨up.filter _, fun x => by unfold oddL; rw [List.mem_filter, mem, decide_eq_true_eq]⟩
      have ol40 : (oddL ks).length ≤ 40 := Nat.le_trans (List.length_filter_le _ _) kl40
      have ook : OsOk (oddL ks) (szN g) := ⟨szN_pos g, szN_le h40, oo.up, ol40⟩
      rw [List.length_reverse] at tl
      have ct : CtAt K H' C (oddL ks) (szN g) := ⟨ts.map V.ref, .inl (.inl hC), by rw [List.length_map]; exact tl, fun k o ho => by
        obtain ⟨t, h1, h2⟩ := tt k o ho
        refine ⟨t, by rw [List.getElem?_map, h1]; rfl, .inl (.inl ?_)⟩
        rw [h2]
        have : ((szN g o : Nat) : Int) - 1 = ((g.map Row.n).count o : Nat) := by unfold szN; omega
        rw [this]⟩
      generalize oddL ks = os at oo ol40 ook tl ct
      clear tt
      have gS : ∀ {G : Hp}, Same H G → SqL K G ag xg := fun s => s.seq hG
      have hpos := prodS_pos (szN_pos g) os
      -- noughts for each place
      refine ⟨_, rfl, ag, rfl, ⟨_, gS sm⟩, fun Fa nF => lc_any (fun i v G => MeasAt G (szN g) os v 0) (fun i v G G' k h => h.keep k) (gS sm) nF (by omega) (fun i x G Q' hx s1 hQ => ?_) (fun G fs s1 hF fl hf => ?_)⟩
      · refine ⟨rfl, _, rfl, C, rfl, ⟨_, .inl (.inl (s1 _ _ hC))⟩, fun L nL => lc_pure (List.replicate os.length (V.int 0)) (by rw [List.length_replicate, List.length_map, tl]) (.inl (.inl (s1 _ _ hC))) nL (by rw [List.length_map]; omega) (fun i x y G2 Q2 hx hy s2 hQ2 => ?_) (fun G2 s2 hL => ⟨L, _, rfl, .inl ⟨.inl (.inl hL), fun tt ntt => hQ _ _ (s2.trans (same_upd ntt)) (.inr ⟨hpos, tt, rfl, ?_⟩)⟩⟩)⟩
        · rw [List.getElem?_replicate] at hy
          split at hy
          · cases hy
            exact ⟨rfl, hQ2 _ (Same.refl _)⟩
          · cases hy
        · rw [upd_same, tup_ct]
          have := digs_zero (s := szN g) (szN_pos g) os 0
          rw [Nat.mul_zero] at this
          rw [this, List.map_const', List.reverse_replicate, List.map_replicate]
          rfl
      have same0 : Same H G := sm.trans s1
      have nF0 : H Fa = none := Same.free sm nF
      have ctG := ct.mono s1
      have nFH : H' Fa = none := nF
      -- place after place
      refine ⟨_, rfl, _, _, rfl, .inl (gS same0), _, _, rfl, rfl, ?_⟩
      refine ⟨fun m σ G' => ∃ (y2 y5 y6 y7 y8 : Option V) (pl : Int) (fs : List V) (rs : List Nat), σ = [some (.ref ag), some (.ref C), y2, some (.ref Fa), some (.int pl), y5, y6, y7, y8, none, none, none] ∧ Same H' G' ∧ G' Fa = some (.lst fs) ∧ fs.length = g.length ∧ (∀ p, InG g p → ∃ v, fs[p.toNat]? = some v ∧ MeasAt G' (szN g) os v (rkN rs p)) ∧ rs.length = g.length ∧ (∀ p, InG g p → rkN rs p ≤ allN g os) ∧
        (∀ m : Int → Nat, (∀ p, InG g p → m p ≤ allN g os) → (∀ p, InG g p → Enough g os m p) → ∀ p, InG g p → rkN rs p ≤ m p) ∧ -1 ≤ pl ∧ pl < (g.length : Int) ∧ (∀ q, InG g q → pl < q → Enough g os (rkN rs) q) ∧ m = leftN (allN g os) rs * (g.length + 1) + (pl + 1).toNat,
        ⟨_, y2, none, none, none, none, (xg.length : Int) - 1, fs, List.replicate g.length 0, rfl, s1, hF, by rw [fl, hGl], fun p hp => ?_, List.length_replicate, fun p _ => by rw [rkN_zero]; exact Nat.zero_le _, fun m _ _ p _ => by rw [rkN_zero]; exact Nat.zero_le _, by omega, by omega, fun q hq hlt => absurd hq.2 (by omega), rfl⟩, fun m σ G' hW => ?_⟩
      · have hlt : p.toNat < fs.length := by rw [fl, hGl]; have := hp.1; have := hp.2; omega
        have hfv := List.getElem?_eq_getElem hlt
        exact ⟨_, hfv, by rw [rkN_zero]; exact hf _ _ hfv⟩
      clear hF fl hf fs
      obtain ⟨y2, y5, y6, y7, y8, pl, fs, rs, rfl, sm1, hF, fl, hf, rl, rall, rleast, pl0, pl1, rdone, rfl⟩ := hW
      have sH := sm.trans sm1
      refine ⟨_, rfl, _, _, rfl, rfl, _, rfl, ite2 (fun e => ?_) (fun e => ?_)⟩
      · have hpl : 0 ≤ pl := of_decide_eq_true e
        have hp : InG g pl := ⟨hpl, pl1⟩
        obtain ⟨r, hr0, e1, e2, e3⟩ := row_at hp
        obtain ⟨t, wy, ht, hT, hW⟩ := hGr _ r hr0
        have hvr := hv.2 r (List.mem_of_getElem? hr0)
        have hwl := hvr.len
        have inw : ∀ q ∈ r.ws, InG g q := fun q hq => ways_in hv hp (by rw [e3]; exact hq)
        -- what comes next, whichever way
        refine ⟨fun σ' G2 => ∃ (y2 y5 y6 y7 y8 : Option V) (pl' : Int) (fs : List V) (rs' : List Nat), σ' = [some (.ref ag), some (.ref C), y2, some (.ref Fa), some (.int pl'), y5, y6, y7, y8, none, none, none] ∧ Same H' G2 ∧ G2 Fa = some (.lst fs) ∧ fs.length = g.length ∧ (∀ p, InG g p → ∃ v, fs[p.toNat]? = some v ∧ MeasAt G2 (szN g) os v (rkN rs' p)) ∧ rs'.length = g.length ∧ (∀ p, InG g p → rkN rs' p ≤ allN g os) ∧
          (∀ m : Int → Nat, (∀ p, InG g p → m p ≤ allN g os) → (∀ p, InG g p → Enough g os m p) → ∀ p, InG g p → rkN rs' p ≤ m p) ∧ -1 ≤ pl' ∧ pl' < (g.length : Int) ∧ (∀ q, InG g q → pl' < q → Enough g os (rkN rs') q) ∧ leftN (allN g os) rs' * (g.length + 1) + (pl' + 1).toNat < leftN (allN g os) rs * (g.length + 1) + (pl + 1).toNat,
          fun σ' G2 ⟨a2, a5, a6, a7, a8, pl', fs', rs', k1, k2, k3, k4, k5, k6, k7, k8, k9, k10, k11, k12⟩ => ⟨_, k12, a2, a5, a6, a7, a8, pl', fs', rs', k1, k2, k3, k4, k5, k6, k7, k8, k9, k10, k11, rfl⟩, ?_⟩
        refine ⟨_, rfl, _, rfl, ag, _, pl, _, rfl, rfl, gS sH, atI_int hpl ht, t, _, rfl, same_sqt sH hT, rfl, _, _, rfl, _, _, rfl, _, _, rfl, rfl, ?_⟩
        have sqF : ∀ {G2 : Hp}, Same G' G2 → SqL K G2 Fa fs := fun s => .inl (.inl (s _ _ hF))
        -- the ranks wanted
        refine ⟨_, rfl, wy, rfl, ⟨_, sH.seq hW⟩, fun L nL => lc_any (fun i v G => RankAt G (szN g) os v (wtN g os r.n (rkN rs ((r.ws[i]?).getD 0)))) (fun i v G G2 k h => h.keep k) (sH.seq hW) nL (by rw [List.length_map]; omega) (fun i x G2 Q' hx s2 hQ => ?_) (fun G2 ys s2 hL yl hy => ?_)⟩
        · rw [List.getElem?_map] at hx
          obtain ⟨q0, hq0, rfl⟩ := Option.map_eq_some_iff.mp hx
          have hqi := inw q0 (List.mem_of_getElem? hq0)
          obtain ⟨v0, hv0, hm0⟩ := hf q0 hqi
          rw [hq0] at hQ
          refine ⟨rfl, _, rfl, _, rfl, _, rfl, _, rfl, Fa, _, q0, _, rfl, rfl, sqF s2, atI_int hqi.1 hv0, C, r.n, v0, os, szN g, rkN rs q0, rfl, ct.mono (sm1.trans s2), ook, rall q0 hqi, hm0.mono s2, fun G3 v1 s3 m1 => ⟨v1, os, szN g, _, rfl, m1, fun G4 v2 s4 m2 => hQ v2 G4 (s3.trans s4) m2⟩⟩
        rw [List.length_map] at yl
        have fll : (r.ws.map fun q => wtN g os r.n (rkN rs q)).length = ys.length := by rw [List.length_map, yl]
        have fne : (r.ws.map fun q => wtN g os r.n (rkN rs q)) ≠ [] := fun z => hvr.2.2.1 (List.map_eq_nil_iff.mp z)
        have fle : ∀ k ∈ (r.ws.map fun q => wtN g os r.n (rkN rs q)), k ≤ prodS (szN g) os := fun k hk => by
          obtain ⟨q0, hq0, rfl⟩ := List.mem_map.mp hk
          exact want_le (rall q0 (inw q0 hq0))
        have frk : ∀ (i : Nat) v k, ys[i]? = some v → (r.ws.map fun q => wtN g os r.n (rkN rs q))[i]? = some k → RankAt G2 (szN g) os v k := fun i v k h1 h2 => by
          rw [List.getElem?_map] at h2
          obtain ⟨q0, hq0, rfl⟩ := Option.map_eq_some_iff.mp h2
          have := hy i v h1
          rw [hq0] at this
          exact this
        obtain ⟨i0, i1, v0, v1, r0, r1, a1, a2, a3, a4, a5, a6, a7, a8⟩ := sorted_pick (szN_pos g) fll.symm fne fle
        have hzip : (ys.zip ((r.ws.map fun q => wtN g os r.n (rkN rs q)).map (rankD (szN g) os))).map (·.1) = ys := zip_fst (by rw [List.length_map]; exact fll.symm)
        refine ⟨L, ys.zip ((r.ws.map fun q => wtN g os r.n (rkN rs q)).map (rankD (szN g) os)), rfl, .inl (.inl (by rw [hzip]; exact hL)), fun b hb => ?_, fun d hd d' hd' => ?_, .inl fun d hd => ?_, fun b hb => ?_, fun S nS => ?_⟩
        · obtain ⟨i, h1, h2⟩ := zip_at hb
          rw [List.getElem?_map] at h2
          obtain ⟨k, hk, e⟩ := Option.map_eq_some_iff.mp h2
          rw [← e]
          exact (frk i _ k h1 hk).dp
        · rw [zip_snd (by rw [List.length_map]; exact fll.symm)] at hd hd'
          obtain ⟨k, _, rfl⟩ := List.mem_map.mp hd
          obtain ⟨k', _, rfl⟩ := List.mem_map.mp hd'
          exact rank_alike k k'
        · rw [zip_snd (by rw [List.length_map]; exact fll.symm)] at hd
          obtain ⟨k, _, rfl⟩ := List.mem_map.mp hd
          exact ⟨_, _, rfl⟩
        · obtain ⟨i, h1, h2⟩ := zip_at hb
          rw [List.getElem?_map] at h2
          obtain ⟨k, hk, e⟩ := Option.map_eq_some_iff.mp h2
          rw [← e]
          exact rank_depth k
        have sl : (((ys.zip ((r.ws.map fun q => wtN g os r.n (rkN rs q)).map (rankD (szN g) os))).mergeSort (PySem.W.dataLe false (·.2))).map (·.1)).length = (r.ws.map fun q => wtN g os r.n (rkN rs q)).length := by
          rw [List.length_map, List.length_mergeSort, List.length_zip, List.length_map]
          omega
        generalize ((ys.zip ((r.ws.map fun q => wtN g os r.n (rkN rs q)).map (rankD (szN g) os))).mergeSort (PySem.W.dataLe false (·.2))).map (·.1) = srt at a5 a6 sl nS ⊢
        have s3 : Same G2 (upd G2 S (.lst srt)) := same_upd nS
        have hS : (upd G2 S (.lst srt)) S = some (.lst srt) := upd_same
        generalize upd G2 S (.lst srt) = G3 at s3 hS ⊢
        have hlast : atI srt (-1) = some v1 := at_last (by rw [sl]; exact List.length_pos_iff.mpr fne) (by rw [sl]; exact a6)
        -- the best of them
        obtain ⟨vb, rb, hat, hrk, hra, hrl⟩ : ∃ vb rb, atI [v0, v1] r.p = some vb ∧ RankAt G2 (szN g) os vb rb ∧ IsRaised g os (rkN rs) pl rb ∧ rb ≤ allN g os := by
          have m0 := List.mem_of_getElem? a2
          have m1 := List.mem_of_getElem? a4
          rcases hvr.1 with z | z
          · refine ⟨v0, r0, by rw [z]; exact atI_nat (j := 0) rfl, frk i0 v0 r0 a1 a2, ⟨fun o => ?_, fun o => absurd (e1.trans z) o⟩, fle r0 m0⟩
            rw [e2, e3]
            obtain ⟨q0, hq0, eq0⟩ := List.mem_map.mp m0
            exact ⟨⟨q0, hq0, eq0.symm⟩, fun w' hw' => a7 _ (List.mem_map_of_mem hw')⟩
          · refine ⟨v1, r1, by rw [z]; exact atI_nat (j := 1) rfl, frk i1 v1 r1 a3 a4, ⟨fun o => (by rw [e1, z] at o; cases o), fun o => ?_⟩, fle r1 m1⟩
            rw [e2, e3]
            obtain ⟨q0, hq0, eq0⟩ := List.mem_map.mp m1
            exact ⟨⟨q0, hq0, eq0.symm⟩, fun w' hw' => a8 _ (List.mem_map_of_mem hw')⟩
        refine ⟨_, rfl, S, _, 0, _, rfl, rfl, .inl (.inl hS), atI_nat (j := 0) a5, _, rfl, _, rfl, S, _, -1, _, rfl, rfl, .inl (.inl hS), hlast, (by show 2 ≤ sizeLine; decide), fun L2 nL2 => ⟨_, rfl, L2, _, _, vb, rfl, rfl, .inl (.inl upd_same), hat, ?_⟩⟩
        have s4 : Same G3 (upd G3 L2 (.lst [v0, v1])) := same_upd nL2
        generalize upd G3 L2 (.lst [v0, v1]) = G4 at s4 ⊢
        have s24 := s3.trans s4
        have s04 := s2.trans s24
        have hrk4 := hrk.keep (KeepT.of s24)
        obtain ⟨tb, ub, rfl, hb1, hb2⟩ := hrk4
        obtain ⟨vp, hvp, hmp⟩ := hf pl hp
        refine ⟨_, rfl, _, rfl, _, rfl, Fa, _, pl, _, rfl, rfl, sqF s04, atI_int hpl hvp, vp, os, szN g, rkN rs pl, rfl, hmp.mono s04, fun G5 vq s5 hq => ?_⟩
        obtain ⟨tq, uq, rfl, hq1, hq2⟩ := hq
        refine ⟨tb, tq, ub, uq, _, _, _, _, rfl, rfl, .inl (.inl (s5 _ _ hb1)), .inl (.inl (s5 _ _ hb2)), .inl (.inl hq1), .inl (.inl hq2), _, rfl, ?_⟩
        rw [rank_gt (szN_pos g) hrl (rall pl hp)]
        have s05 := s04.trans s5
        refine if_key (fun σ' G6 => ∃ (y2 y5 y6 y7 y8 : Option V) (pc : Int) (fs' : List V) (rs' : List Nat), σ' = [some (.ref ag), some (.ref C), y2, some (.ref Fa), some (.int pc), y5, y6, y7, y8, none, none, none] ∧ Same H' G6 ∧ G6 Fa = some (.lst fs') ∧ fs'.length = g.length ∧ (∀ p, InG g p → ∃ v, fs'[p.toNat]? = some v ∧ MeasAt G6 (szN g) os v (rkN rs' p)) ∧ rs'.length = g.length ∧ (∀ p, InG g p → rkN rs' p ≤ allN g os) ∧
          (∀ m : Int → Nat, (∀ p, InG g p → m p ≤ allN g os) → (∀ p, InG g p → Enough g os m p) → ∀ p, InG g p → rkN rs' p ≤ m p) ∧ 0 ≤ pc ∧ pc ≤ (g.length : Int) ∧ (∀ q, InG g q → pc - 1 < q → Enough g os (rkN rs') q) ∧ leftN (allN g os) rs' * (g.length + 1) + pc.toNat < leftN (allN g os) rs * (g.length + 1) + (pl + 1).toNat)
          (fun hb kont => ?_) (fun hb => ?_) (fun σ' G6 hP => ?_)
        · have lt : rkN rs pl < rb := of_decide_eq_true hb
          obtain ⟨vm, hatm, hmm⟩ : ∃ vm, atI [.ref ub, .non] (rkA (szN g) os rb) = some vm ∧ MeasAt G5 (szN g) os vm rb := by
            by_cases z : rb < prodS (szN g) os
            · refine ⟨.ref ub, ?_, .inr ⟨z, ub, rfl, ?_⟩⟩
              · unfold rkA
                rw [if_pos z]
                exact atI_nat (j := 0) rfl
              · rw [s5 _ _ hb2]
                unfold rkT
                rw [if_pos z]
            · refine ⟨.non, ?_, .inl ⟨by omega, rfl⟩⟩
              unfold rkA
              rw [if_neg z]
              exact atI_nat (j := 1) rfl
          refine ⟨_, rfl, tb, _, 1, _, rfl, rfl, .inl (.inl (s5 _ _ hb1)), atI_nat (j := 1) rfl, (by show 2 ≤ sizeLine; decide), fun L3 nL3 => ?_⟩
          have s6 : Same G5 (upd G5 L3 (.lst [.ref ub, .non])) := same_upd nL3
          have hL3 : (upd G5 L3 (.lst [.ref ub, .non])) L3 = some (.lst [.ref ub, .non]) := upd_same
          generalize upd G5 L3 (.lst [.ref ub, .non]) = G6 at s6 hL3 ⊢
          have hF6 := (s05.trans s6) _ _ hF
          have hplt : pl.toNat < g.length := by omega
          refine ⟨_, rfl, tb, _, 0, _, rfl, rfl, .inl (.inl (s6 _ _ (s5 _ _ hb1))), atI_nat (j := 0) rfl, L3, _, _, vm, rfl, rfl, .inl (.inl hL3), hatm, _, rfl, _, rfl, Fa, fs, pl, pl.toNat, rfl, rfl, hF6, ?_, ?_⟩
          · unfold ixN
            rw [if_pos hpl, if_pos (by omega)]
          have smU : Same H' (upd G6 Fa (.lst (fs.set pl.toNat vm))) := fun b o e => by
            rw [upd_ne (ne_of_none e nFH)]
            exact (s05.trans s6) _ _ (sm1 _ _ e)
          have kt : KeepT G6 (upd G6 Fa (.lst (fs.set pl.toNat vm))) := KeepT.upd hF6 fun _ z => nomatch z
          have rset : ∀ p, InG g p → rkN (rs.set pl.toNat rb) p = if p = pl then rb else rkN rs p := fun p hp' => by
            unfold rkN
            by_cases z : p = pl
            · rw [z, List.getElem?_set_self (by omega), if_pos rfl]
              rfl
            · rw [List.getElem?_set_ne (fun h => z (by have := hp'.1; omega)), if_neg z]
          refine ⟨_, rfl, _, _, rfl, .inl (smU.seq (sm.seq hG)), kont _ _ ⟨_, _, _, _, _, (xg.length : Int), fs.set pl.toNat vm, rs.set pl.toNat rb, rfl, smU, upd_same, by rw [List.length_set]; exact fl, fun p hp' => ?_, by rw [List.length_set]; exact rl, fun p hp' => ?_, fun m m1 m2 p hp' => ?_, by omega, by omega, fun q hq hlt => absurd hq.2 (by omega), ?_⟩⟩
          · rw [rset p hp']
            by_cases z : p = pl
            · subst z
              rw [if_pos rfl]
              exact ⟨vm, List.getElem?_set_self (by omega), (hmm.mono s6).keep kt⟩
            · rw [if_neg z]
              obtain ⟨v', h1, h2⟩ := hf p hp'
              refine ⟨v', ?_, (h2.mono (s05.trans s6)).keep kt⟩
              rw [List.getElem?_set_ne (fun h => z (by have := hp'.1; omega))]
              exact h1
          · rw [rset p hp']
            split
            · exact hrl
            · exact rall p hp'
          · rw [rset p hp']
            split
            · rename_i z
              rw [z]
              exact raised_enough hra (m2 pl hp) fun w' hw' => rleast m m1 m2 w' (ways_in hv hp hw')
            · exact rleast m m1 m2 p hp'
          · have dec : leftN (allN g os) (rs.set pl.toNat rb) < leftN (allN g os) rs := by
              refine (left_lt (by rw [List.length_set]) fun i x y hx hy => ?_).2 fun z => ?_
              · have hi : i < g.length := by rw [← rl]; exact (List.getElem?_eq_some_iff.mp hx).1
                have hpi : InG g (i : Int) := ⟨by omega, by omega⟩
                have ex : rkN rs (i : Int) = x := by unfold rkN; rw [Int.toNat_natCast, hx]; rfl
                have ey : rkN (rs.set pl.toNat rb) (i : Int) = y := by unfold rkN; rw [Int.toNat_natCast, hy]; rfl
                rw [rset _ hpi] at ey
                have := rall _ hpi
                by_cases z : (i : Int) = pl
                · rw [if_pos z] at ey
                  rw [z] at ex
                  omega
                · rw [if_neg z] at ey
                  omega
              · have := rset pl hp
                rw [← z, if_pos rfl] at this
                omega
            have := Nat.mul_le_mul_right (g.length + 1) (Nat.succ_le_of_lt dec)
            rw [Nat.succ_mul] at this
            omega
        · have ge : rb ≤ rkN rs pl := by
            have := of_decide_eq_false hb
            omega
          refine ⟨_, _, _, _, _, pl, fs, rs, rfl, sm1.trans s05, s05 _ _ hF, fl, fun p hp' => ?_, rl, rall, rleast, hpl, by omega, fun q hq hlt => ?_, by omega⟩
          · obtain ⟨v', h1, h2⟩ := hf p hp'
            exact ⟨v', h1, h2.mono s05⟩
          · by_cases z : q = pl
            · rw [z]
              exact enough_of hra ge
            · exact rdone q hq (by omega)
        · obtain ⟨z2, z5, z6, z7, z8, pc, fs', rs', rfl, k2, k3, k4, k5, k6, k7, k8, k9, k10, k11, k12⟩ := hP
          exact ⟨_, rfl, _, _, rfl, rfl, _, _, _, _, _, pc - 1, fs', rs', rfl, k2, k3, k4, k5, k6, k7, k8, by omega, by omega, k11, by rw [show pc - 1 + 1 = pc by omega]; exact k12⟩
      · have hpl : pl = -1 := by
          have : ¬ 0 ≤ pl := fun z => e (decide_eq_true z)
          omega
        exact ⟨_, rfl, q _ Fa fs os rs sH nF0 hF fl oo ⟨rall, fun p hp => rdone p hp (by have := hp.1; omega), rleast⟩ hf⟩
end
end G

namespace G
open PySem PySem.Spec PyProof.Rows L2 PM
abbrev s__law_refused : Stmt := topS 51
theorem sc__law_refused : FnScope ["_law_game_here", "_law_refused_here", "_law_e"] ["_law_game_here"] (defScope s__law_refused) := ⟨rfl, rfl, rfl, by decide +kernel, rfl, by decide +kernel, by decide +kernel⟩
section
variable {P : Program} {w : World} {K : PySem.W.Frag} {mg : Str → Option Value} {base : Heap}
def spRefused5 (K : PySem.W.Frag) : Sp := fun vs H Q _ => ∃ (v : V) (g : List Row), vs = [v] ∧ Dp K H v (gameD g) ∧ ValidG g ∧ ∀ H', Same H H' → Q (.str (if g.length ≤ 10 then "none" else "many")) H'
theorem ok_law_refused5 {f : Addr} {fd : FuncData} {A : Ads} (T : Tx K mg A) (cT : Caught K A A.TooMany 4) (F : Fun K "_law_refused" "_law_refused" s__law_refused f fd) (C__law_word : Cal P w K mg base 1 "_law_word" (spWord K A)) (C_measures : Cal P w K mg base 7 "measures" (spMeas K A)) : FnOk P w K mg base (L2.CX P w) 8 f fd ["_law_game_here"] (spRefused5 K) := by
  refine F.okX sc__law_refused (fun vs H Q E h => ?_) (fun cdv Ar outer s H vs Q E hr h => ?_)
  · obtain ⟨v, g, rfl, _⟩ := h
    rfl
  · obtain ⟨v, g, rfl, hg, hv, q⟩ := h
    refine ⟨_, (pss_cons (ps_set (i := 1) sc__law_refused.nd rfl (Or.inl rfl) pe_non)
      (pss_cons (ps_try_asT (i := 2) (Wout := fun _ _ _ _ => False) rfl rfl rfl sc__law_refused.nd rfl rfl ⟨rfl, by decide, Or.inl T.g_GongError⟩ takes0 (fun W pn xe tk _ => (pss_one (ps_expr (pe_calS C_measures hr (by decide) tk (by rfl) (pa_cons (pv 0) pa_nil))))) (fun a oe cls d pn hz hf => (pss_one (ps_set (i := 1) sc__law_refused.nd rfl (Or.inl rfl) (pv 2)))))
      (pss_one (ps_ret (pe_cal C__law_word hr (by decide) (by rfl) (pa_cons (pv 1) pa_nil)))))), ?_⟩
    refine ⟨_, rfl, v, g, rfl, hg, hv, fun hle H' a xs os rho sm ha hx hl ho hr hm => ?_, fun hgt H' sm => ?_⟩
    · refine ⟨_, rfl, .non, rfl, .inl ⟨rfl, ?_⟩⟩
      have := q H' sm
      rwa [if_pos hle] at this
    · have q' := fun H2 s2 => q H2 s2
      rw [if_neg (by omega : ¬ g.length ≤ 10)] at q'
      exact ⟨true, cT.exm, fun _ a na => ⟨_, rfl, _, rfl, .ref a, rfl, .inr ⟨a, A.TooMany, none, 4, rfl, upd_same, trivial, cT.kind, by decide, fun H5 s5 => q' _ (sm.trans ((same_upd na).trans s5))⟩⟩, fun z => nomatch z⟩
end
end G

namespace G
open PySem PySem.Spec PyProof.Rows L2 PM
theorem up_uniq : ∀ {a b : List Int}, a.Pairwise (· < ·) → b.Pairwise (· < ·) → (∀ x, x ∈ a ↔ x ∈ b) → a = b
  | [], [], _, _, _ => rfl
  | [], y :: b, _, _, h => by cases (h y).mpr List.mem_cons_self
  | x :: a, [], _, _, h => by cases (h x).mp List.mem_cons_self
  | x :: a, y :: b, ha, hb, h => by
    rw [List.pairwise_cons] at ha hb
    have e : x = y := by
      rcases List.mem_cons.mp ((h x).mp List.mem_cons_self) with z | z
      · exact z
      · rcases List.mem_cons.mp ((h y).mpr List.mem_cons_self) with u | u
        · exact u.symm
        · have := hb.1 x z
          have := ha.1 y u
          omega
    subst e
    rw [up_uniq ha.2 hb.2 fun z => ⟨fun hz => ?_, fun hz => ?_⟩]
    · rcases List.mem_cons.mp ((h z).mp (List.mem_cons_of_mem _ hz)) with u | u
      · have := ha.1 z hz
        omega
      · exact u
    · rcases List.mem_cons.mp ((h z).mpr (List.mem_cons_of_mem _ hz)) with u | u
      · have := hb.1 z hz
        omega
      · exact u
theorem OddsOf.uniq {g : List Row} {a b : List Int} (ha : OddsOf g a) (hb : OddsOf g b) : a = b := up_uniq ha.up hb.up fun x => (ha.mem x).trans (hb.mem x).symm
/-- measures as data -/
def measD (s : Int → Nat) (os : List Int) (r : Nat) : PyData := if r < prodS s os then .tuple ((tupN s os r).map .int) else .none
theorem MeasAt.dp {K : PySem.W.Frag} {H : Hp} {s : Int → Nat} {os : List Int} {v : V} {r : Nat} (h : MeasAt H s os v r) : Dp K H v (measD s os r) := by
  unfold measD
  rcases h with ⟨z, rfl⟩ | ⟨z, t, rfl, e⟩
  · rw [if_neg (by omega)]
    exact .non
  · rw [if_pos z]
    exact .tup (.inl (.inl e)) (dpa_ints' _)
def measL (g : List Row) (os : List Int) (rho : Int → Nat) : List PyData := (List.range g.length).map fun i => measD (szN g) os (rho (i : Nat))
theorem lay_measD (s : Int → Nat) (os : List Int) (r : Nat) : PyData.canLay0 (measD s os r) = true := by
  unfold measD
  split
  · exact lay_ints _
  · rfl
theorem dep_measD (s : Int → Nat) (os : List Int) (r : Nat) : (measD s os r).depth ≤ 1 := by
  unfold measD
  split
  · show PyData.depthAll (List.map PyData.int _) + 1 ≤ 1
    rw [dep_ints]
    exact Nat.le_refl _
  · exact Nat.zero_le _
theorem lay_all : ∀ {ds : List PyData}, (∀ d ∈ ds, PyData.canLay0 d = true) → PyData.canLayAll0 ds = true
  | [], _ => rfl
  | d :: ds, h => by
    show (PyData.canLay0 d && PyData.canLayAll0 ds) = true
    rw [h d List.mem_cons_self, lay_all fun e he => h e (List.mem_cons_of_mem _ he)]
    rfl
theorem dep_all {k : Nat} : ∀ {ds : List PyData}, (∀ d ∈ ds, d.depth ≤ k) → PyData.depthAll ds ≤ k
  | [], _ => Nat.zero_le _
  | d :: ds, h => by
    show max d.depth (PyData.depthAll ds) ≤ k
    exact Nat.max_le.mpr ⟨h d List.mem_cons_self, dep_all fun e he => h e (List.mem_cons_of_mem _ he)⟩
theorem lay_meas (g : List Row) (os : List Int) (rho : Int → Nat) : PyData.canLay0 (.list (measL g os rho)) = true := lay_all fun d hd => by
  obtain ⟨i, _, rfl⟩ := List.mem_map.mp hd
  exact lay_measD _ _ _
theorem shaped_meas (g : List Row) (os : List Int) (rho : Int → Nat) : SeqAt.shaped (.list (measL g os rho)) = true := by
  unfold SeqAt.shaped
  rw [lay_meas, Bool.true_and, decide_eq_true_eq]
  show PyData.depthAll (measL g os rho) + 1 ≤ 64
  have := dep_all (k := 1) (ds := measL g os rho) fun d hd => by
    obtain ⟨i, _, rfl⟩ := List.mem_map.mp hd
    exact dep_measD _ _ _
  omega
theorem meas_at {g : List Row} {H : Hp} {os : List Int} {rho : Int → Nat} {xs : List V} (hm : ∀ p, InG g p → ∃ v, xs[p.toNat]? = some v ∧ MeasAt H (szN g) os v (rho p)) {i : Nat} {v : V} (hi : i < g.length) (hv : xs[i]? = some v) : MeasAt H (szN g) os v (rho (i : Nat)) := by
  obtain ⟨v', h1, h2⟩ := hm (i : Nat) ⟨by omega, by omega⟩
  rw [Int.toNat_natCast, hv] at h1
  cases h1
  exact h2
theorem meas_dp {K : PySem.W.Frag} {g : List Row} {H : Hp} {a : Addr} {os os' : List Int} {rho rho' : Int → Nat} {xs : List V} (hx : H a = some (.lst xs)) (hl : xs.length = g.length) (hm : ∀ p, InG g p → ∃ v, xs[p.toNat]? = some v ∧ MeasAt H (szN g) os' v (rho' p)) (ho : OddsOf g os) (ho' : OddsOf g os') (hr : LeastR g os rho) (hr' : LeastR g os' rho') : Dp K H (.ref a) (.list (measL g os rho)) := by
  cases ho.uniq ho'
  refine .lst (.inl (.inl hx)) (dpAll_of (by unfold measL; rw [List.length_map, List.length_range]; exact hl) fun i v d hv hd => ?_)
  have hi := (List.getElem?_eq_some_iff.mp hv).1
  rw [hl] at hi
  unfold measL at hd
  rw [List.getElem?_map, List.getElem?_range hi] at hd
  cases hd
  have := (meas_at hm hi hv).dp (K := K)
  rwa [hr'.same hr (p := (i : Nat)) ⟨by omega, by omega⟩] at this
/-- who wins, by the ranks -/
def wonBy (g : List Row) (os : List Int) (rho : Int → Nat) : List Int := (List.range g.length).map fun i => if rho (i : Nat) < prodS (szN g) os then 0 else 1
theorem wonBy_eq {g : List Row} {os : List Int} {rho : Int → Nat} {ws : List Int} {ss : List (Option Int)} (hv : ValidG g) (ho : OddsOf g os) (h : LeastR g os rho) (ok : SolOk g ws ss) : wonBy g os rho = ws := by
  refine List.ext_getElem? fun i => ?_
  unfold wonBy
  rw [List.getElem?_map]
  by_cases z : i < g.length
  · have hp : InG g (i : Nat) := ⟨by omega, by omega⟩
    have e := ws_at ok.lenW hp
    rw [Int.toNat_natCast, List.getElem?_map] at e
    obtain ⟨x, hx, ex⟩ := Option.map_eq_some_iff.mp e
    cases ex
    rw [List.getElem?_range z, hx]
    show some (if rho (i : Nat) < prodS (szN g) os then (0 : Int) else 1) = some (wAt ws (i : Nat))
    have w := h.won hv ho ok hp
    have le := h.le _ hp
    unfold allN at w le
    split
    · rename_i lt
      rcases ok.zo _ hp with y | y
      · rw [y]
      · have := w.mpr y
        omega
    · rename_i ge
      rw [w.mp (by omega)]
  · rw [List.getElem?_eq_none (by rw [List.length_range]; omega), List.getElem?_eq_none (by rw [ok.lenW]; omega)]
    rfl
/-! ### rows of a game, more of them -/
theorem PRows.mono {H H' : Hp} {D : Addr} {ts : List Addr} {gs : List Row} (h : PRows H D ts gs) (s : Same H H') : PRows H' D ts gs := ⟨s _ _ h.lst, h.len, fun i r hr => by
  obtain ⟨t, w, e, h1, h2, h3⟩ := h.row i r hr
  exact ⟨t, w, e, s _ _ h1, s _ _ h2, h3⟩⟩
theorem PRows.cat {H : Hp} {D M R : Addr} {ts tm : List Addr} {g m : List Row} (h : PRows H D ts g) (h' : PRows H M tm m) (nR : H R = none) : PRows (upd H R (.lst (ts.map V.ref ++ tm.map V.ref))) R (ts ++ tm) (g ++ m) := by
  refine ⟨by rw [upd_same, List.map_append], by rw [List.length_append, List.length_append, h.len, h'.len], fun i r hr => ?_⟩
  have key : ∀ {t w : Addr} {o1 o2 : HO}, H t = some o1 → H w = some o2 → (upd H R (.lst (ts.map V.ref ++ tm.map V.ref))) t = some o1 ∧ (upd H R (.lst (ts.map V.ref ++ tm.map V.ref))) w = some o2 ∧ t ≠ R ∧ w ≠ R := fun {t w o1 o2} h1 h2 => ⟨by rw [upd_ne (ne_of_none h1 nR)]; exact h1, by rw [upd_ne (ne_of_none h2 nR)]; exact h2, ne_of_none h1 nR, ne_of_none h2 nR⟩
  by_cases z : i < g.length
  · rw [List.getElem?_append_left z] at hr
    obtain ⟨t, w, e, h1, h2, _⟩ := h.row i r hr
    exact ⟨t, w, by rw [List.getElem?_append_left (by rw [h.len]; exact z)]; exact e, key h1 h2⟩
  · rw [List.getElem?_append_right (by omega)] at hr
    obtain ⟨t, w, e, h1, h2, _⟩ := h'.row _ r hr
    exact ⟨t, w, by rw [List.getElem?_append_right (by rw [h.len]; omega), h.len]; exact e, key h1 h2⟩
theorem PRows.cut {H : Hp} {D R : Addr} {ts : List Addr} {g : List Row} {j : Nat} (h : PRows H D ts g) (nR : H R = none) (hj : j ≤ g.length) : PRows (upd H R (.lst (cutV (ts.map V.ref) none (some (j : Int))))) R (ts.take j) (g.take j) := by
  refine ⟨by rw [upd_same, cut_to _ (by rw [List.length_map, h.len]; exact hj), List.map_take], by rw [List.length_take, List.length_take, h.len], fun i r hr => ?_⟩
  rw [List.getElem?_take] at hr
  split at hr
  · rename_i z
    obtain ⟨t, w, e, h1, h2, _⟩ := h.row i r hr
    exact ⟨t, w, by rw [List.getElem?_take, if_pos z]; exact e, by rw [upd_ne (ne_of_none h1 nR)]; exact h1, by rw [upd_ne (ne_of_none h2 nR)]; exact h2, ne_of_none h1 nR, ne_of_none h2 nR⟩
  · cases hr
theorem lc_rowsPR {lo : Int} {n : Nat} {g : TG} {te : TE} {vs : List Nat} {σ : L2.St} {H1 : Hp} {D : Addr} {Qd : Hp → Prop} (gs : List Row) (hl : gs.length = n) (nD : H1 D = none) (hz : n ≤ 1000)
    (hs : ∀ (i : Nat) (r : Row) (H : Hp) (Q : VK), gs[i]? = some r → Same H1 H → (∃ acc, H D = some (.lst acc)) → (∀ H' T l, Same H H' → H T = none → l ≠ D → H' T = some (.tup [.int r.p, .int r.n, .ref l]) → H' l = some (.lst (r.ws.map V.int)) → Q (.ref T) H') → g (.int (lo + i)) (wipe σ vs) H fun σ2 H2 => wipe σ2 vs = wipe σ vs ∧ te σ2 H2 Q)
    (hd : ∀ H ts, Same H1 H → PRows H D ts gs → Qd H) :
    ∃ W : Nat → Nat → Hp → Prop, (∃ m, W 0 m (upd H1 D (.lst []))) ∧ ∀ i m H, W i m H →
      ((Itr lo n).stop i H ∧ Qd H) ∨ ((Itr lo n).go i H ∧ ∃ Nx : Hp → Prop, (∀ H', Nx H' → ∃ m', m' < m ∧ W (i + 1) m' H') ∧ ∀ x H', (Itr lo n).yld i H x H' → g x (wipe σ vs) H' fun σ2 H2 => wipe σ2 vs = wipe σ vs ∧ tYes σ2 H2 fun b H3 =>
        if b = true then te σ2 H3 fun y H4 => ∃ acc, H4 D = some (.lst acc) ∧ acc.length < sizeLine ∧ Nx (upd H4 D (.lst (acc ++ [y]))) else Nx H3) := by
  refine lc_range (lo := lo) (n := n) (fun i H => Same H1 H ∧ ∃ ts, PRows H D ts (gs.take i)) ⟨same_upd nD, [], by rw [upd_same]; rfl, rfl, fun i r h => by cases h⟩ (fun i H hi ⟨sm, ts, fr⟩ => ?_) (fun H ⟨sm, ts, fr⟩ => ?_)
  · have hlt : i < gs.length := by omega
    have hr : gs[i]? = some gs[i] := List.getElem?_eq_getElem hlt
    have hlen : ts.length = i := by
      have := fr.len
      rw [List.length_take] at this
      omega
    refine hs i gs[i] H _ hr sm ⟨_, fr.lst⟩ (fun H' T l s nT lD hT hL => ⟨_, s _ _ fr.lst, ?_, fun b o e => ?_, ts ++ [T], ?_, ?_, fun j r hj => ?_⟩)
    · rw [List.length_map, hlen]
      exact small1000 (by omega)
    · rw [upd_ne (ne_of_none e nD)]
      exact s _ _ (sm _ _ e)
    · rw [upd_same, List.map_append]
      rfl
    · rw [List.length_append, List.length_singleton, hlen, List.length_take]
      omega
    · rw [List.take_add_one, hr] at hj
      have TD : T ≠ D := fun e => by rw [e, fr.lst] at nT; cases nT
      by_cases z : j < i
      · have lt : (gs.take i).length = i := by rw [List.length_take]; omega
        rw [List.getElem?_append_left (by omega)] at hj
        obtain ⟨t, w, e, h3, h4, h5, h6⟩ := fr.row j r hj
        exact ⟨t, w, by rw [List.getElem?_append_left (by omega)]; exact e, by rw [upd_ne h5]; exact s _ _ h3, by rw [upd_ne h6]; exact s _ _ h4, h5, h6⟩
      · have lt : (gs.take i).length = i := by rw [List.length_take]; omega
        rw [List.getElem?_append_right (by omega), lt] at hj
        have e0 : j - i = 0 := by
          have := (List.getElem?_eq_some_iff.mp hj).1
          simp at this
          omega
        rw [e0] at hj
        cases hj
        refine ⟨T, l, ?_, by rw [upd_ne TD]; exact hT, by rw [upd_ne lD]; exact hL, TD, lD⟩
        rw [List.getElem?_append_right (by omega), hlen, e0]
        rfl
  · rw [← hl, List.take_length] at fr
    exact hd H ts sm fr
def rowK (p : Int) : Row := ⟨p % 2, p, [p]⟩
def moreR (n m : Nat) : List Row := (List.range (m - n)).map fun k => rowK ((n : Int) + (k : Nat))
theorem more_len (n m : Nat) : (moreR n m).length = m - n := by
  unfold moreR
  rw [List.length_map, List.length_range]
theorem more_take {n m k : Nat} (h : k ≤ m) : (moreR n m).take (k - n) = moreR n k := by
  unfold moreR
  rw [← List.map_take, List.take_range, Nat.min_eq_left (by omega)]
theorem more_at {n m k : Nat} {r : Row} (h : (moreR n m)[k]? = some r) : r = rowK ((n : Int) + (k : Nat)) ∧ k < m - n := by
  have hk := (List.getElem?_eq_some_iff.mp h).1
  rw [more_len] at hk
  unfold moreR at h
  rw [List.getElem?_map, List.getElem?_range hk] at h
  cases h
  exact ⟨rfl, hk⟩
theorem more_valid {g : List Row} (hv : ValidG g) {m : Nat} (h : g.length ≤ m) (h40 : m ≤ 40) : ValidG (g ++ moreR g.length m) ∧ (g ++ moreR g.length m).length = m := by
  have el : (g ++ moreR g.length m).length = m := by rw [List.length_append, more_len]; omega
  refine ⟨⟨by omega, fun r hr => ?_⟩, el⟩
  rw [el]
  rcases List.mem_append.mp hr with z | z
  · obtain ⟨a, b, c, d, e⟩ := hv.2 r z
    exact ⟨a, b, c, fun x hx => ⟨(d x hx).1, by have := (d x hx).2; omega⟩, e⟩
  · obtain ⟨k, hk⟩ := List.mem_iff_getElem?.mp z
    obtain ⟨rfl, lt⟩ := more_at hk
    refine ⟨Int.emod_two_eq _, by show 0 ≤ (g.length : Int) + (k : Nat); omega, List.cons_ne_nil _ _, fun x hx => ?_, List.pairwise_singleton _ _⟩
    rw [List.mem_singleton.mp hx]
    exact ⟨by omega, by omega⟩
theorem sized : ∀ j : Nat, j < 8 → 1 ≤ ([6, 6, 6, 6, 6, 6, 6, 10] : List Int).getD j 0 ∧ ([6, 6, 6, 6, 6, 6, 6, 10] : List Int).getD j 0 ≤ 10 := by decide
end G

namespace G
open PySem PySem.Spec PyProof.Rows L2 PM
abbrev s_law : Stmt := topS 52
theorem sc_law : FnScope ["_law_script", "_law_game_here", "_law_handed", "_law_due", "_law_found", "_law_more", "_law_one", "_law_place"] ["_law_script"] (defScope s_law) := ⟨rfl, rfl, rfl, by decide +kernel, rfl, by decide +kernel, by decide +kernel⟩
section
variable {P : Program} {w : World} {K : PySem.W.Frag} {mg : Str → Option Value} {base : Heap}
theorem ok_law {f : Addr} {fd : FuncData} {A : Ads} (B : Bt mg) (F : Fun K "law" "law" s_law f fd) (C__law_game : Cal P w K mg base 2 "_law_game" (spLawGameP K)) (C__law_copied : Cal P w K mg base 1 "_law_copied" (spCopiedP K)) (C__law_measures : Cal P w K mg base 2 "_law_measures" (spLawMeas K)) (C_measures : Cal P w K mg base 7 "measures" (spMeas K A))
    (C_won : Cal P w K mg base 90 "won" (spWon K)) (C__law_refused : Cal P w K mg base 8 "_law_refused" (spRefused5 K)) : FnOk P w K mg base (L2.CX P w) 92 f fd ["_law_script"] (spLaw K) := by
  refine F.okX sc_law (fun vs H Q E h => ?_) (fun cdv Ar outer s H vs Q E hr h => ?_)
  · obtain ⟨a, ns, rfl, _⟩ := h
    rfl
  · obtain ⟨a, ns, rfl, hS, h63, q⟩ := h
    refine ⟨_, (pss_cons (ps_set (i := 1) sc_law.nd rfl (Or.inl rfl) (pe_cal C__law_game hr (by decide) (by rfl) (pa_cons (pv 0) (pa_cons (pe_ix ix_list (pe_lst (pa_cons pe_int (pa_cons pe_int (pa_cons pe_int (pa_cons pe_int (pa_cons pe_int (pa_cons pe_int (pa_cons pe_int (pa_cons pe_int pa_nil))))))))) (pe_op op_mod (pe_callB call_len_seq (by rfl) B.len_ (by decide +kernel) (pa_cons (pv 0) pa_nil)) pe_int) (fun _ _ => rfl)) pa_nil))))
      (pss_cons (ps_set (i := 2) sc_law.nd rfl (Or.inl rfl) (pe_cal C__law_copied hr (by decide) (by rfl) (pa_cons (pv 1) pa_nil)))
      (pss_cons (ps_set (i := 3) sc_law.nd rfl (Or.inl rfl) (pe_cal C__law_measures hr (by decide) (by rfl) (pa_cons (pv 1) pa_nil)))
      (pss_cons (ps_set (i := 4) sc_law.nd rfl (Or.inl rfl) (pe_calX C_measures hr (by decide) (takes_of rfl rfl rfl rfl) (by rfl) (pa_cons (pv 2) pa_nil)))
      (pss_cons (ps_if (PW.pt (pw_or (pt_not (pt_val (pe_callB call_isi (by rfl) B.isinstance_ (by decide +kernel) (pa_cons (pv 4) (pa_cons (pe_bltn (v := .ty "list") (u := .type "list") (by rfl) B.list_ (by decide +kernel) rfl) pa_nil))))) (pw_or (pt_cmpR (op_neD hr.units) (pv 4) (pv 3) (nomark _)) (pw_or1 (pt_cmpR (op_neD hr.units) (pv 2) (pv 1) (nomark _)))))) (pss_one (ps_ret pe_bl)) pss_nil)
      (pss_cons (ps_if (pt_cmpR (op_neD hr.units) (pe_lc (own := [("_law_one", 6)]) (by rfl) sc_law.nd (pi_list (pv 4)) (blkOk_by (own := [("_law_one", 6)]) (N := ["_law_script", "_law_game_here", "_law_handed", "_law_due", "_law_found", "_law_more", "_law_one", "_law_place"]) (sc := defScope s_law) (by decide +kernel)) (fun _ _ _ _ _ => (pg_name (i := 6) sc_law.nd rfl (Or.inl rfl))) (fun _ _ _ _ _ => (pts_one (PW.pt (pw_and (pt_cmpR op_notN (pv 6) pe_non (nomark _)) (pw_and1 (pt_not (pt_val (pe_callB (kr_call_isi (K := K) rfl) (by rfl) B.isinstance_ (by decide +kernel) (pa_cons (pv 6) (pa_cons (pe_bltn (v := .ty "tuple") (u := .type "tuple") (by rfl) B.tuple_ (by decide +kernel) rfl) pa_nil)))))))))) (fun _ _ _ _ _ => (pv 6))) (pe_lst pa_nil) (nomark _)) (pss_one (ps_ret pe_bl)) pss_nil)
      (pss_cons (ps_if (pt_cmpR (op_neD hr.units) (pe_lc (own := [("_law_one", 6)]) (by rfl) sc_law.nd (pi_list (pv 4)) (blkOk_by (own := [("_law_one", 6)]) (N := ["_law_script", "_law_game_here", "_law_handed", "_law_due", "_law_found", "_law_more", "_law_one", "_law_place"]) (sc := defScope s_law) (by decide +kernel)) (fun _ _ _ _ _ => (pg_name (i := 6) sc_law.nd rfl (Or.inl rfl))) (fun _ _ _ _ _ => pts_nil) (fun _ _ _ _ _ => (pe_callTy call_int1 (by rfl) B.int_ (by decide +kernel) (pa_cons (pe_cmpR op_isN (pv 6) pe_non (nomark _)) pa_nil)))) (pe_cal C_won hr (by decide) (by rfl) (pa_cons (pv 1) pa_nil)) (nomark _)) (pss_one (ps_ret pe_bl)) pss_nil)
      (pss_cons (ps_expr (pe_bm PySem.F.plainAttrs_list PySem.F.slot_list_append PySem.F.type_list_append mt_append (pv 4) (pa_cons pe_non pa_nil)))
      (pss_cons (ps_if (PW.pt (pw_or (pt_cmpR (op_neD hr.units) (pe_calX C_measures hr (by decide) (takes_of rfl rfl rfl rfl) (by rfl) (pa_cons (pv 1) pa_nil)) (pv 3) (nomark _)) (pw_or1 (pt_cmpR (op_neD hr.units) (pe_calX C_measures hr (by decide) (takes_of rfl rfl rfl rfl) (by rfl) (pa_cons (pe_lst pa_nil) pa_nil)) (pe_lst pa_nil) (nomark _))))) (pss_one (ps_ret pe_bl)) pss_nil)
      (pss_cons (ps_set (i := 5) sc_law.nd rfl (Or.inl rfl) (pe_op op_cat (pv 1) (pe_lc (own := [("_law_place", 7)]) (by rfl) sc_law.nd (pi_range2 (by rfl) B.range_ (pa_cons (pe_callB call_len_seq (by rfl) B.len_ (by decide +kernel) (pa_cons (pv 1) pa_nil)) (pa_cons pe_int pa_nil))) (blkOk_by (own := [("_law_place", 7)]) (N := ["_law_script", "_law_game_here", "_law_handed", "_law_due", "_law_found", "_law_more", "_law_one", "_law_place"]) (sc := defScope s_law) (by decide +kernel)) (fun _ _ _ _ _ => (pg_name (i := 7) sc_law.nd rfl (Or.inl rfl))) (fun _ _ _ _ _ => pts_nil) (fun _ _ _ _ _ => (pe_tup (pa_cons (pe_op op_mod (pv 7) pe_int) (pa_cons (pv 7) (pa_cons (pe_lst (pa_cons (pv 7) pa_nil)) pa_nil))))))))
      (pss_one (ps_ret (pe_and (pe_cmpR op_eq (pe_cal C__law_refused hr (by decide) (by rfl) (pa_cons (pv 5) pa_nil)) pe_str (nomark _)) (pe_one (pe_cmpR op_eq (pe_cal C__law_refused hr (by decide) (by rfl) (pa_cons (pe_slice sl_list (pv 5) po_none (po_some pe_int)) pa_nil)) pe_str (nomark _)))))))))))))))), ?_⟩
    -- the game
    have j8 := Int.emod_nonneg (((ns.map V.int).length : Nat) : Int) (show (8 : Int) ≠ 0 by decide)
    have j9 := Int.emod_lt_of_pos (((ns.map V.int).length : Nat) : Int) (show (0 : Int) < 8 by decide)
    obtain ⟨m1, m2⟩ := sized ((((ns.map V.int).length : Nat) : Int) % 8).toNat (by omega)
    refine ⟨_, rfl, (by show 8 ≤ sizeLine; decide), fun l0 nl0 => ⟨_, rfl, _, _, rfl, .inl ((same_upd nl0).seq hS), _, _, rfl, rfl, (by show (0:Int) < 8; decide), l0, _, _, .int (([6, 6, 6, 6, 6, 6, 6, 10] : List Int).getD ((((ns.map V.int).length : Nat) : Int) % 8).toNat 0), rfl, rfl, .inl (.inl upd_same), atI_ints (xs := [6, 6, 6, 6, 6, 6, 6, 10]) j8 (by show _ < 8; omega), ?_⟩⟩
    generalize ([6, 6, 6, 6, 6, 6, 6, 10] : List Int).getD ((((ns.map V.int).length : Nat) : Int) % 8).toNat 0 = most at m1 m2 ⊢
    refine ⟨a, ns, most, rfl, (same_upd nl0).seq hS, m1, by omega, fun H1 D ts s1 pr => ?_⟩
    obtain ⟨hv, hgl, hgne⟩ := lawGame_ok (ns := ns) m1 (show most ≤ 40 by omega)
    have h10 : (lawGame ns most).length ≤ 10 := by
      have := (many_rg (ns := ns) m1).2
      omega
    generalize lawGame ns most = g at hv hgl hgne pr h10
    clear hgl j8 j9
    have hn0 : 0 < g.length := List.length_pos_iff.mpr hgne
    -- handed, due, found
    refine ⟨_, rfl, .ref D, g, rfl, pr.dp, hv.1, fun H2 p th s2 np prh => ?_⟩
    refine ⟨_, rfl, .ref D, g, rfl, (pr.mono s2).dp, hv, fun H3 F xs os rs s3 nF hF hl oo lr hm => ?_⟩
    have pr3 := (pr.mono s2).mono s3
    have prh3 := prh.mono s3
    have dpDue : ∀ {H' : Hp}, Same H3 H' → Dp K H' (.ref F) (.list (measL g os (rkN rs))) := fun s => dp_mono s _ _ (meas_dp hF hl hm oo oo lr lr)
    refine ⟨_, rfl, .ref p, g, rfl, prh3.dp, hv, fun _ H4 af ys os' rho s4 na hys yl oo' lr' hm' => ?_, fun z => absurd z (by omega)⟩
    have dpF := meas_dp (K := K) hys yl hm' oo oo' lr lr'
    cases oo.uniq oo'
    have yl10 : ys.length ≤ 1000 := by omega
    have hyl : ∀ i v, ys[i]? = some v → MeasAt H4 (szN g) os v (rho (i : Nat)) := fun i v hiv => meas_at hm' (by rw [← yl]; exact (List.getElem?_eq_some_iff.mp hiv).1) hiv
    refine ⟨_, rfl, _, _, _, _, _, rfl, .ty _, sql_ty (.inl (.inl hys)), kit_ty (kit_list (.list [])), _, rfl, ite_no (by rw [isTy_list]; rfl) ?_⟩
    refine ⟨_, rfl, _, rfl, _, _, dpF, dpDue s4, shaped_meas _ _ _, shaped_meas _ _ _, _, rfl, ite_no (by rw [SeqAt.eqv_refl _ (lay_meas _ _ _)]; rfl) ?_⟩
    refine ⟨_, rfl, _, rfl, gameD g, gameD g, (prh3.mono s4).dp, (pr3.mono s4).dp, shaped_game g, shaped_game g, _, rfl, ite_no (by rw [SeqAt.eqv_refl _ (lay_game g)]; rfl) ?_⟩
    -- all of them None or tuples
    refine ⟨_, rfl, af, rfl, ⟨_, .inl (.inl hys)⟩, fun R nR => lc_keep (fun _ => false) (.inl (.inl hys)) nR yl10 (fun i x H5 Q' N hx s5 _ hN => ?_) (fun H5 s5 hR => ?_)⟩
    · rcases (hyl i x hx).mono s5 with ⟨_, rfl⟩ | ⟨_, t, rfl, ht⟩
      · exact ⟨rfl, _, rfl, rfl, _, rfl, ite_no rfl (ite_no rfl (hN rfl _ (Same.refl _)))⟩
      · exact ⟨rfl, _, rfl, rfl, _, rfl, ite_yes rfl ⟨_, rfl, _, _, _, _, _, rfl, .ty _, sqt_ty (.inl (.inl ht)), kit_ty (r := true) (by decide +kernel), _, rfl, ite_no rfl (hN rfl _ (Same.refl _))⟩⟩
    rw [List.filter_eq_nil_iff.mpr (fun _ _ => by decide)] at hR
    refine ⟨Nat.zero_le _, fun e1 ne1 => ⟨.list [], .list [], .lst (.inl (.inl (same_upd ne1 _ _ hR))) .nil, .lst (.inl (.inl upd_same)) .nil, rfl, rfl, _, rfl, ite_no rfl ?_⟩⟩
    have s6 := s5.trans (same_upd (o := .lst []) ne1)
    generalize upd H5 e1 (.lst []) = H6 at s6 ⊢
    -- None where 1 wins
    refine ⟨_, rfl, af, rfl, ⟨_, .inl (.inl (s6 _ _ hys))⟩, fun R2 nR2 => lc_pure ((wonBy g os rho).map V.int) (by unfold wonBy; rw [List.length_map, List.length_map, List.length_range, yl]) (.inl (.inl (s6 _ _ hys))) nR2 yl10 (fun i x y H7 Q' hx hy s7 hQ => ?_) (fun H7 s7 hR2 => ?_)⟩
    · have hi : i < g.length := by rw [← yl]; exact (List.getElem?_eq_some_iff.mp hx).1
      unfold wonBy at hy
      rw [List.getElem?_map, List.getElem?_map, List.getElem?_range hi] at hy
      cases hy
      refine ⟨rfl, _, rfl, rfl, .inr ⟨_, rfl, ?_⟩⟩
      have hq : Q' (.int (if rho (i : Nat) < prodS (szN g) os then 0 else 1)) H7 := hQ _ (Same.refl _)
      rcases hyl i x hx with ⟨z, rfl⟩ | ⟨z, t, rfl, ht⟩
      · rw [if_neg (by omega)] at hq
        exact hq
      · rw [if_pos z] at hq
        exact hq
    have t7 := s4.trans (s6.trans s7)
    refine ⟨_, rfl, .ref D, g, rfl, (pr3.mono t7).dp, hv, fewOk_small hv (by omega), fun H8 aw ws ss s8 n8 h8 ok => ?_⟩
    refine ⟨intsD (wonBy g os rho), intsD ws, .lst (.inl (.inl (s8 _ _ hR2))) (dpa_ints' _), .lst (.inl (.inl h8)) (dpa_ints' _), shaped_ints _, shaped_ints _, _, rfl, ite_no (by rw [eqv_ints, decide_eq_true (wonBy_eq hv oo lr' ok)]; rfl) ?_⟩
    have t8 := t7.trans s8
    have hys8 := (s6.trans (s7.trans s8)) _ _ hys
    -- the list told changes
    refine ⟨_, rfl, .inl ⟨rfl, _, .inl (.inl hys8)⟩, af, ys, .non, rfl, rfl, hys8, small1000 (by omega), ?_⟩
    have s9 : Same H3 (upd H8 af (.lst (ys ++ [.non]))) := fun b o e => by
      rw [upd_ne (ne_of_none e na)]
      exact t8 _ _ e
    generalize upd H8 af (.lst (ys ++ [.non])) = H9 at s9 ⊢
    -- again, and of no game
    refine ⟨_, rfl, .ref D, g, rfl, (pr3.mono s9).dp, hv, fun _ HA aA xA osA rhoA sA nA hA lA oA lrA mA => ?_, fun z => absurd z (by omega)⟩
    have tA := s9.trans sA
    refine ⟨_, rfl, _, _, meas_dp hA lA mA oo oA lr lrA, dpDue tA, shaped_meas _ _ _, shaped_meas _ _ _, _, rfl, ite_no (by rw [SeqAt.eqv_refl _ (lay_meas _ _ _)]; rfl) ?_⟩
    have vnil : ValidG [] := ⟨Nat.zero_le _, fun r h => by cases h⟩
    refine ⟨Nat.zero_le _, fun e2 ne2 => ⟨.ref e2, [], rfl, .lst (.inl (.inl upd_same)) .nil, vnil, fun _ HB aB xB osB rhoB sB nB hB lB oB lrB mB => ?_, fun z => absurd z (by decide)⟩⟩
    obtain rfl := List.eq_nil_of_length_eq_zero lB
    refine ⟨Nat.zero_le _, fun e3 ne3 => ⟨.list [], .list [], .lst (.inl (.inl (same_upd ne3 _ _ hB))) .nil, .lst (.inl (.inl upd_same)) .nil, rfl, rfl, _, rfl, ite_no rfl ?_⟩⟩
    have tB := tA.trans ((same_upd (o := .lst []) ne2).trans (sB.trans (same_upd (o := .lst []) ne3)))
    generalize upd HB e3 (.lst []) = HC at tB ⊢
    have prC := pr3.mono tB
    have tsl : (ts.map V.ref).length = g.length := by rw [List.length_map, prC.len]
    -- more than ten
    refine ⟨_, rfl, _, rfl, _, _, rfl, .inl (.inl (.inl prC.lst)), _, _, rfl, ⟨by omega, by omega, by decide, by decide⟩, fun M nM => lc_rowsPR (moreR g.length 11) (by rw [more_len]; omega) nM (by omega) (fun i r H' Q' hr1 sm hacc hQ => ?_) (fun HD tm sD prM => ?_)⟩
    · obtain ⟨rfl, lt⟩ := more_at hr1
      rw [tsl]
      obtain ⟨acc, hacc⟩ := hacc
      refine ⟨rfl, _, rfl, _, _, rfl, rfl, (by show (0:Int) < 2; decide), _, rfl, _, rfl, (by show 1 ≤ sizeLine; decide), fun L nL => ⟨(by show 3 ≤ sizeLine; decide), fun T nT => hQ _ T L ((same_upd nL).trans (same_upd nT)) (Same.free (same_upd nL) nT) (ne_of_none hacc nL).symm upd_same ?_⟩⟩
      exact same_upd nT _ _ upd_same
    have lm : (tm.map V.ref).length = 11 - g.length := by rw [List.length_map, prM.len, more_len]
    refine ⟨D, M, _, _, rfl, rfl, sD _ _ prC.lst, prM.lst, Nat.le_trans (show _ ≤ 1000 by omega) (by decide), fun R3 nR3 => ?_⟩
    have prR := (prC.mono sD).cat prM nR3
    generalize upd HD R3 (.lst (ts.map V.ref ++ tm.map V.ref)) = HE at prR ⊢
    obtain ⟨v11, l11⟩ := more_valid hv (show g.length ≤ 11 by omega) (by decide)
    refine ⟨_, rfl, .ref R3, _, rfl, prR.dp, v11, fun HF sF => ?_⟩
    rw [if_neg (show ¬ _ ≤ 10 by rw [l11]; decide)]
    refine ⟨rfl, _, rfl, ite_yes rfl ?_⟩
    obtain ⟨v10, l10⟩ := more_valid hv h10 (by decide)
    have prF := prR.mono sF
    refine ⟨_, rfl, _, rfl, R3, _, rfl, .inl (.inl prF.lst), fun R4 nR4 => ?_⟩
    have prT := prF.cut (j := 10) nR4 (by omega)
    rw [show (g ++ moreR g.length 11).take 10 = g ++ moreR g.length 10 by rw [List.take_append, List.take_of_length_le h10, more_take (by decide)]] at prT
    refine ⟨.ref R4, _, rfl, prT.dp, v10, fun HG sG => ?_⟩
    rw [if_pos (show _ ≤ 10 by rw [l10]; decide)]
    exact ⟨rfl, q _⟩
end
end G

namespace G
open PySem PySem.Spec PyProof.Rows L2
abbrev P0 : Program := PySem.Challenge.pw_gongpath_k05_measures
theorem along_of {K : PySem.W.Frag} {C : Addr} {bm : List Value} {v : Value} {nm q : Str} {N : Addr} {bs : List Value} {sn : List Str} {sub : List Value} {ab : Bool} {col : Option Bool} {dd : Option Addr} {k0 k1 k2 k3 k5 : Option Value} {nw : String} (h : K.lookup C = some (excClassObj nm q C N bs bm true sn sub ab col dd k0 k1 k2 k3 k5 nw)) (e : PySem.W.findIn K (.ref C) "__init__" = some (some v)) : PySem.W.alongIn K "__init__" (.ref C :: bm) = some (some v) := by
  unfold PySem.W.findIn at e
  dsimp only at e
  rw [h] at e
  exact e
set_option maxHeartbeats 8000000 in
theorem all_mk {w : World} {K : PySem.W.Frag} {h : Heap} {mg : Str → Option Value} {fa aBadGame aBadSteps aBadPlace aBadPlayer aTooMany aGongError : Addr} (X : K.In h) (Gn : h.Ns mainGlobals mg) (hfa : mg "law" = some (.ref fa))
    {f0 : Addr} {od0 an0 : Option Addr} {sl0 : Array (Option Value)} {oc0 kV0 dc0 pm0 cd0 ct0 : Value}
    {f1 : Addr} {od1 an1 : Option Addr} {sl1 : Array (Option Value)} {oc1 kV1 dc1 pm1 cd1 ct1 : Value}
    {f2 : Addr} {od2 an2 : Option Addr} {sl2 : Array (Option Value)} {oc2 kV2 dc2 pm2 cd2 ct2 : Value}
    {f3 : Addr} {od3 an3 : Option Addr} {sl3 : Array (Option Value)} {oc3 kV3 dc3 pm3 cd3 ct3 : Value}
    {f4 : Addr} {od4 an4 : Option Addr} {sl4 : Array (Option Value)} {oc4 kV4 dc4 pm4 cd4 ct4 : Value}
    {f5 : Addr} {od5 an5 : Option Addr} {sl5 : Array (Option Value)} {oc5 kV5 dc5 pm5 cd5 ct5 : Value}
    {f6 : Addr} {od6 an6 : Option Addr} {sl6 : Array (Option Value)} {oc6 kV6 dc6 pm6 cd6 ct6 : Value}
    {f7 : Addr} {od7 an7 : Option Addr} {sl7 : Array (Option Value)} {oc7 kV7 dc7 pm7 cd7 ct7 : Value}
    {f8 : Addr} {od8 an8 : Option Addr} {sl8 : Array (Option Value)} {oc8 kV8 dc8 pm8 cd8 ct8 : Value}
    {f9 : Addr} {od9 an9 : Option Addr} {sl9 : Array (Option Value)} {oc9 kV9 dc9 pm9 cd9 ct9 : Value}
    {f10 : Addr} {od10 an10 : Option Addr} {sl10 : Array (Option Value)} {oc10 kV10 dc10 pm10 cd10 ct10 : Value}
    {f11 : Addr} {od11 an11 : Option Addr} {sl11 : Array (Option Value)} {oc11 kV11 dc11 pm11 cd11 ct11 : Value}
    {f12 : Addr} {od12 an12 : Option Addr} {sl12 : Array (Option Value)} {oc12 kV12 dc12 pm12 cd12 ct12 : Value}
    {f13 : Addr} {od13 an13 : Option Addr} {sl13 : Array (Option Value)} {oc13 kV13 dc13 pm13 cd13 ct13 : Value}
    {f14 : Addr} {od14 an14 : Option Addr} {sl14 : Array (Option Value)} {oc14 kV14 dc14 pm14 cd14 ct14 : Value}
    {f15 : Addr} {od15 an15 : Option Addr} {sl15 : Array (Option Value)} {oc15 kV15 dc15 pm15 cd15 ct15 : Value}
    {f16 : Addr} {od16 an16 : Option Addr} {sl16 : Array (Option Value)} {oc16 kV16 dc16 pm16 cd16 ct16 : Value}
    {f17 : Addr} {od17 an17 : Option Addr} {sl17 : Array (Option Value)} {oc17 kV17 dc17 pm17 cd17 ct17 : Value}
    {f18 : Addr} {od18 an18 : Option Addr} {sl18 : Array (Option Value)} {oc18 kV18 dc18 pm18 cd18 ct18 : Value}
    {f19 : Addr} {od19 an19 : Option Addr} {sl19 : Array (Option Value)} {oc19 kV19 dc19 pm19 cd19 ct19 : Value}
    {f20 : Addr} {od20 an20 : Option Addr} {sl20 : Array (Option Value)} {oc20 kV20 dc20 pm20 cd20 ct20 : Value}
    {f21 : Addr} {od21 an21 : Option Addr} {sl21 : Array (Option Value)} {oc21 kV21 dc21 pm21 cd21 ct21 : Value}
    {f22 : Addr} {od22 an22 : Option Addr} {sl22 : Array (Option Value)} {oc22 kV22 dc22 pm22 cd22 ct22 : Value}
    {f23 : Addr} {od23 an23 : Option Addr} {sl23 : Array (Option Value)} {oc23 kV23 dc23 pm23 cd23 ct23 : Value}
    {f24 : Addr} {od24 an24 : Option Addr} {sl24 : Array (Option Value)} {oc24 kV24 dc24 pm24 cd24 ct24 : Value}
    {f25 : Addr} {od25 an25 : Option Addr} {sl25 : Array (Option Value)} {oc25 kV25 dc25 pm25 cd25 ct25 : Value}
    {f26 : Addr} {od26 an26 : Option Addr} {sl26 : Array (Option Value)} {oc26 kV26 dc26 pm26 cd26 ct26 : Value}
    {f27 : Addr} {od27 an27 : Option Addr} {sl27 : Array (Option Value)} {oc27 kV27 dc27 pm27 cd27 ct27 : Value}
    {f28 : Addr} {od28 an28 : Option Addr} {sl28 : Array (Option Value)} {oc28 kV28 dc28 pm28 cd28 ct28 : Value}
    {f29 : Addr} {od29 an29 : Option Addr} {sl29 : Array (Option Value)} {oc29 kV29 dc29 pm29 cd29 ct29 : Value}
    {f30 : Addr} {od30 an30 : Option Addr} {sl30 : Array (Option Value)} {oc30 kV30 dc30 pm30 cd30 ct30 : Value}
    {f31 : Addr} {od31 an31 : Option Addr} {sl31 : Array (Option Value)} {oc31 kV31 dc31 pm31 cd31 ct31 : Value}
    {f32 : Addr} {od32 an32 : Option Addr} {sl32 : Array (Option Value)} {oc32 kV32 dc32 pm32 cd32 ct32 : Value}
    {f33 : Addr} {od33 an33 : Option Addr} {sl33 : Array (Option Value)} {oc33 kV33 dc33 pm33 cd33 ct33 : Value}
    {f34 : Addr} {od34 an34 : Option Addr} {sl34 : Array (Option Value)} {oc34 kV34 dc34 pm34 cd34 ct34 : Value}
    {f35 : Addr} {od35 an35 : Option Addr} {sl35 : Array (Option Value)} {oc35 kV35 dc35 pm35 cd35 ct35 : Value}
    {f36 : Addr} {od36 an36 : Option Addr} {sl36 : Array (Option Value)} {oc36 kV36 dc36 pm36 cd36 ct36 : Value}
    {f37 : Addr} {od37 an37 : Option Addr} {sl37 : Array (Option Value)} {oc37 kV37 dc37 pm37 cd37 ct37 : Value}
    {tk0 : Tok}
    {tk1 : Tok}
    {nmG qG : Str} {NG : Addr} {bsG : List Value} {snG : List Str} {subG : List Value} {abG : Bool} {colG : Option Bool} {ddG : Option Addr} {mG0 mG1 mG2 mG3 mG5 : Option Value} {newG : String}
    {nmBG qBG : Str} {NBG : Addr} {bsBG : List Value} {snBG : List Str} {subBG : List Value} {abBG : Bool} {colBG : Option Bool} {ddBG : Option Addr} {mBG0 mBG1 mBG2 mBG3 mBG5 : Option Value}
    {fBG cdaBG ccBG : Addr} {ocBG dcBG pmBG ctBG cclBG clBG : Value} {odBG anBG cddBG cldBG : Option Addr} {slBG ccsBG cslBG : Array (Option Value)} {vsBG : Array Value} {fileBG : Str} {tfBG : Tok}
    {nmBS qBS : Str} {NBS : Addr} {bsBS : List Value} {snBS : List Str} {subBS : List Value} {abBS : Bool} {colBS : Option Bool} {ddBS : Option Addr} {mBS0 mBS1 mBS2 mBS3 mBS5 : Option Value}
    {fBS cdaBS ccBS : Addr} {ocBS dcBS pmBS ctBS cclBS clBS : Value} {odBS anBS cddBS cldBS : Option Addr} {slBS ccsBS cslBS : Array (Option Value)} {vsBS : Array Value} {fileBS : Str} {tfBS : Tok}
    (a0 : PySem.W.nsIn K mainGlobals "is_number" = some (some (.ref f0)))
    (l0 : K.lookup f0 = some ⟨oc0, od0, .func (PySem.W.fnOf "is_number" "is_number" (defArgs s_is_number) (defBody s_is_number) (defScope s_is_number) .none kV0 dc0 pm0 an0 cd0 ct0), sl0⟩)
    (c0 : PySem.W.codeIn K cd0 "is_number" = true)
    (k0 : PySem.W.keepIn K (.ref f0) = true)
    (a1 : PySem.W.nsIn K mainGlobals "is_player" = some (some (.ref f1)))
    (l1 : K.lookup f1 = some ⟨oc1, od1, .func (PySem.W.fnOf "is_player" "is_player" (defArgs s_is_player) (defBody s_is_player) (defScope s_is_player) .none kV1 dc1 pm1 an1 cd1 ct1), sl1⟩)
    (c1 : PySem.W.codeIn K cd1 "is_player" = true)
    (k1 : PySem.W.keepIn K (.ref f1) = true)
    (a2 : PySem.W.nsIn K mainGlobals "is_place" = some (some (.ref f2)))
    (l2 : K.lookup f2 = some ⟨oc2, od2, .func (PySem.W.fnOf "is_place" "is_place" (defArgs s_is_place) (defBody s_is_place) (defScope s_is_place) .none kV2 dc2 pm2 an2 cd2 ct2), sl2⟩)
    (c2 : PySem.W.codeIn K cd2 "is_place" = true)
    (k2 : PySem.W.keepIn K (.ref f2) = true)
    (a3 : PySem.W.nsIn K mainGlobals "is_places" = some (some (.ref f3)))
    (l3 : K.lookup f3 = some ⟨oc3, od3, .func (PySem.W.fnOf "is_places" "is_places" (defArgs s_is_places) (defBody s_is_places) (defScope s_is_places) .none kV3 dc3 pm3 an3 cd3 ct3), sl3⟩)
    (c3 : PySem.W.codeIn K cd3 "is_places" = true)
    (k3 : PySem.W.keepIn K (.ref f3) = true)
    (a4 : PySem.W.nsIn K mainGlobals "is_ways" = some (some (.ref f4)))
    (l4 : K.lookup f4 = some ⟨oc4, od4, .func (PySem.W.fnOf "is_ways" "is_ways" (defArgs s_is_ways) (defBody s_is_ways) (defScope s_is_ways) .none kV4 dc4 pm4 an4 cd4 ct4), sl4⟩)
    (c4 : PySem.W.codeIn K cd4 "is_ways" = true)
    (k4 : PySem.W.keepIn K (.ref f4) = true)
    (a5 : PySem.W.nsIn K mainGlobals "is_row" = some (some (.ref f5)))
    (l5 : K.lookup f5 = some ⟨oc5, od5, .func (PySem.W.fnOf "is_row" "is_row" (defArgs s_is_row) (defBody s_is_row) (defScope s_is_row) .none kV5 dc5 pm5 an5 cd5 ct5), sl5⟩)
    (c5 : PySem.W.codeIn K cd5 "is_row" = true)
    (k5 : PySem.W.keepIn K (.ref f5) = true)
    (a6 : PySem.W.nsIn K mainGlobals "check_game" = some (some (.ref f6)))
    (l6 : K.lookup f6 = some ⟨oc6, od6, .func (PySem.W.fnOf "check_game" "check_game" (defArgs s_check_game) (defBody s_check_game) (defScope s_check_game) .none kV6 dc6 pm6 an6 cd6 ct6), sl6⟩)
    (c6 : PySem.W.codeIn K cd6 "check_game" = true)
    (k6 : PySem.W.keepIn K (.ref f6) = true)
    (a7 : PySem.W.nsIn K mainGlobals "check_few" = some (some (.ref f7)))
    (l7 : K.lookup f7 = some ⟨oc7, od7, .func (PySem.W.fnOf "check_few" "check_few" (defArgs s_check_few) (defBody s_check_few) (defScope s_check_few) .none kV7 dc7 pm7 an7 cd7 ct7), sl7⟩)
    (c7 : PySem.W.codeIn K cd7 "check_few" = true)
    (k7 : PySem.W.keepIn K (.ref f7) = true)
    (a8 : PySem.W.nsIn K mainGlobals "measures" = some (some (.ref f8)))
    (l8 : K.lookup f8 = some ⟨oc8, od8, .func (PySem.W.fnOf "measures" "measures" (defArgs s_measures) (defBody s_measures) (defScope s_measures) .none kV8 dc8 pm8 an8 cd8 ct8), sl8⟩)
    (c8 : PySem.W.codeIn K cd8 "measures" = true)
    (k8 : PySem.W.keepIn K (.ref f8) = true)
    (a9 : PySem.W.nsIn K mainGlobals "sizes_of_counts" = some (some (.ref f9)))
    (l9 : K.lookup f9 = some ⟨oc9, od9, .func (PySem.W.fnOf "sizes_of_counts" "sizes_of_counts" (defArgs s_sizes_of_counts) (defBody s_sizes_of_counts) (defScope s_sizes_of_counts) .none kV9 dc9 pm9 an9 cd9 ct9), sl9⟩)
    (c9 : PySem.W.codeIn K cd9 "sizes_of_counts" = true)
    (k9 : PySem.W.keepIn K (.ref f9) = true)
    (a10 : PySem.W.nsIn K mainGlobals "least_ranks" = some (some (.ref f10)))
    (l10 : K.lookup f10 = some ⟨oc10, od10, .func (PySem.W.fnOf "least_ranks" "least_ranks" (defArgs s_least_ranks) (defBody s_least_ranks) (defScope s_least_ranks) .none kV10 dc10 pm10 an10 cd10 ct10), sl10⟩)
    (c10 : PySem.W.codeIn K cd10 "least_ranks" = true)
    (k10 : PySem.W.keepIn K (.ref f10) = true)
    (a11 : PySem.W.nsIn K mainGlobals "raised" = some (some (.ref f11)))
    (l11 : K.lookup f11 = some ⟨oc11, od11, .func (PySem.W.fnOf "raised" "raised" (defArgs s_raised) (defBody s_raised) (defScope s_raised) .none kV11 dc11 pm11 an11 cd11 ct11), sl11⟩)
    (c11 : PySem.W.codeIn K cd11 "raised" = true)
    (k11 : PySem.W.keepIn K (.ref f11) = true)
    (a12 : PySem.W.nsIn K mainGlobals "wanted" = some (some (.ref f12)))
    (l12 : K.lookup f12 = some ⟨oc12, od12, .func (PySem.W.fnOf "wanted" "wanted" (defArgs s_wanted) (defBody s_wanted) (defScope s_wanted) .none kV12 dc12 pm12 an12 cd12 ct12), sl12⟩)
    (c12 : PySem.W.codeIn K cd12 "wanted" = true)
    (k12 : PySem.W.keepIn K (.ref f12) = true)
    (a13 : PySem.W.nsIn K mainGlobals "ranks_below" = some (some (.ref f13)))
    (l13 : K.lookup f13 = some ⟨oc13, od13, .func (PySem.W.fnOf "ranks_below" "ranks_below" (defArgs s_ranks_below) (defBody s_ranks_below) (defScope s_ranks_below) .none kV13 dc13 pm13 an13 cd13 ct13), sl13⟩)
    (c13 : PySem.W.codeIn K cd13 "ranks_below" = true)
    (k13 : PySem.W.keepIn K (.ref f13) = true)
    (a14 : PySem.W.nsIn K mainGlobals "all_ranks" = some (some (.ref f14)))
    (l14 : K.lookup f14 = some ⟨oc14, od14, .func (PySem.W.fnOf "all_ranks" "all_ranks" (defArgs s_all_ranks) (defBody s_all_ranks) (defScope s_all_ranks) .none kV14 dc14 pm14 an14 cd14 ct14), sl14⟩)
    (c14 : PySem.W.codeIn K cd14 "all_ranks" = true)
    (k14 : PySem.W.keepIn K (.ref f14) = true)
    (a15 : PySem.W.nsIn K mainGlobals "multiplied" = some (some (.ref f15)))
    (l15 : K.lookup f15 = some ⟨oc15, od15, .func (PySem.W.fnOf "multiplied" "multiplied" (defArgs s_multiplied) (defBody s_multiplied) (defScope s_multiplied) .none kV15 dc15 pm15 an15 cd15 ct15), sl15⟩)
    (c15 : PySem.W.codeIn K cd15 "multiplied" = true)
    (k15 : PySem.W.keepIn K (.ref f15) = true)
    (a16 : PySem.W.nsIn K mainGlobals "measure_of" = some (some (.ref f16)))
    (l16 : K.lookup f16 = some ⟨oc16, od16, .func (PySem.W.fnOf "measure_of" "measure_of" (defArgs s_measure_of) (defBody s_measure_of) (defScope s_measure_of) .none kV16 dc16 pm16 an16 cd16 ct16), sl16⟩)
    (c16 : PySem.W.codeIn K cd16 "measure_of" = true)
    (k16 : PySem.W.keepIn K (.ref f16) = true)
    (a17 : PySem.W.nsIn K mainGlobals "everywhere" = some (some (.ref f17)))
    (l17 : K.lookup f17 = some ⟨oc17, od17, .func (PySem.W.fnOf "everywhere" "everywhere" (defArgs s_everywhere) (defBody s_everywhere) (defScope s_everywhere) .none kV17 dc17 pm17 an17 cd17 ct17), sl17⟩)
    (c17 : PySem.W.codeIn K cd17 "everywhere" = true)
    (k17 : PySem.W.keepIn K (.ref f17) = true)
    (a18 : PySem.W.nsIn K mainGlobals "drawn" = some (some (.ref f18)))
    (l18 : K.lookup f18 = some ⟨oc18, od18, .func (PySem.W.fnOf "drawn" "drawn" (defArgs s_drawn) (defBody s_drawn) (defScope s_drawn) .none kV18 dc18 pm18 an18 cd18 ct18), sl18⟩)
    (c18 : PySem.W.codeIn K cd18 "drawn" = true)
    (k18 : PySem.W.keepIn K (.ref f18) = true)
    (a19 : PySem.W.nsIn K mainGlobals "leads" = some (some (.ref f19)))
    (l19 : K.lookup f19 = some ⟨oc19, od19, .func (PySem.W.fnOf "leads" "leads" (defArgs s_leads) (defBody s_leads) (defScope s_leads) .none kV19 dc19 pm19 an19 cd19 ct19), sl19⟩)
    (c19 : PySem.W.codeIn K cd19 "leads" = true)
    (k19 : PySem.W.keepIn K (.ref f19) = true)
    (a20 : PySem.W.nsIn K mainGlobals "lean" = some (some (.ref f20)))
    (l20 : K.lookup f20 = some ⟨oc20, od20, .func (PySem.W.fnOf "lean" "lean" (defArgs s_lean) (defBody s_lean) (defScope s_lean) .none kV20 dc20 pm20 an20 cd20 ct20), sl20⟩)
    (c20 : PySem.W.codeIn K cd20 "lean" = true)
    (k20 : PySem.W.keepIn K (.ref f20) = true)
    (a21 : PySem.W.nsIn K mainGlobals "least_numbers" = some (some (.ref f21)))
    (l21 : K.lookup f21 = some ⟨oc21, od21, .func (PySem.W.fnOf "least_numbers" "least_numbers" (defArgs s_least_numbers) (defBody s_least_numbers) (defScope s_least_numbers) .none kV21 dc21 pm21 an21 cd21 ct21), sl21⟩)
    (c21 : PySem.W.codeIn K cd21 "least_numbers" = true)
    (k21 : PySem.W.keepIn K (.ref f21) = true)
    (a22 : PySem.W.nsIn K mainGlobals "won" = some (some (.ref f22)))
    (l22 : K.lookup f22 = some ⟨oc22, od22, .func (PySem.W.fnOf "won" "won" (defArgs s_won) (defBody s_won) (defScope s_won) .none kV22 dc22 pm22 an22 cd22 ct22), sl22⟩)
    (c22 : PySem.W.codeIn K cd22 "won" = true)
    (k22 : PySem.W.keepIn K (.ref f22) = true)
    (a23 : PySem.W.nsIn K mainGlobals "settled" = some (some (.ref f23)))
    (l23 : K.lookup f23 = some ⟨oc23, od23, .func (PySem.W.fnOf "settled" "settled" (defArgs s_settled) (defBody s_settled) (defScope s_settled) .none kV23 dc23 pm23 an23 cd23 ct23), sl23⟩)
    (c23 : PySem.W.codeIn K cd23 "settled" = true)
    (k23 : PySem.W.keepIn K (.ref f23) = true)
    (a24 : PySem.W.nsIn K mainGlobals "settled_inside" = some (some (.ref f24)))
    (l24 : K.lookup f24 = some ⟨oc24, od24, .func (PySem.W.fnOf "settled_inside" "settled_inside" (defArgs s_settled_inside) (defBody s_settled_inside) (defScope s_settled_inside) .none kV24 dc24 pm24 an24 cd24 ct24), sl24⟩)
    (c24 : PySem.W.codeIn K cd24 "settled_inside" = true)
    (k24 : PySem.W.keepIn K (.ref f24) = true)
    (a25 : PySem.W.nsIn K mainGlobals "settle" = some (some (.ref f25)))
    (l25 : K.lookup f25 = some ⟨oc25, od25, .func (PySem.W.fnOf "settle" "settle" (defArgs s_settle) (defBody s_settle) (defScope s_settle) .none kV25 dc25 pm25 an25 cd25 ct25), sl25⟩)
    (c25 : PySem.W.codeIn K cd25 "settle" = true)
    (k25 : PySem.W.keepIn K (.ref f25) = true)
    (a26 : PySem.W.nsIn K mainGlobals "without" = some (some (.ref f26)))
    (l26 : K.lookup f26 = some ⟨oc26, od26, .func (PySem.W.fnOf "without" "without" (defArgs s_without) (defBody s_without) (defScope s_without) .none kV26 dc26 pm26 an26 cd26 ct26), sl26⟩)
    (c26 : PySem.W.codeIn K cd26 "without" = true)
    (k26 : PySem.W.keepIn K (.ref f26) = true)
    (a27 : PySem.W.nsIn K mainGlobals "claimed" = some (some (.ref f27)))
    (l27 : K.lookup f27 = some ⟨oc27, od27, .func (PySem.W.fnOf "claimed" "claimed" (defArgs s_claimed) (defBody s_claimed) (defScope s_claimed) .none kV27 dc27 pm27 an27 cd27 ct27), sl27⟩)
    (c27 : PySem.W.codeIn K cd27 "claimed" = true)
    (k27 : PySem.W.keepIn K (.ref f27) = true)
    (a28 : PySem.W.nsIn K mainGlobals "leading_step" = some (some (.ref f28)))
    (l28 : K.lookup f28 = some ⟨oc28, od28, .func (PySem.W.fnOf "leading_step" "leading_step" (defArgs s_leading_step) (defBody s_leading_step) (defScope s_leading_step) .none kV28 dc28 pm28 an28 cd28 ct28), sl28⟩)
    (c28 : PySem.W.codeIn K cd28 "leading_step" = true)
    (k28 : PySem.W.keepIn K (.ref f28) = true)
    (a29 : PySem.W.nsIn K mainGlobals "_law_mixed" = some (some (.ref f29)))
    (l29 : K.lookup f29 = some ⟨oc29, od29, .func (PySem.W.fnOf "_law_mixed" "_law_mixed" (defArgs s__law_mixed) (defBody s__law_mixed) (defScope s__law_mixed) .none kV29 dc29 pm29 an29 cd29 ct29), sl29⟩)
    (c29 : PySem.W.codeIn K cd29 "_law_mixed" = true)
    (k29 : PySem.W.keepIn K (.ref f29) = true)
    (a30 : PySem.W.nsIn K mainGlobals "_law_game" = some (some (.ref f30)))
    (l30 : K.lookup f30 = some ⟨oc30, od30, .func (PySem.W.fnOf "_law_game" "_law_game" (defArgs s__law_game) (defBody s__law_game) (defScope s__law_game) .none kV30 dc30 pm30 an30 cd30 ct30), sl30⟩)
    (c30 : PySem.W.codeIn K cd30 "_law_game" = true)
    (k30 : PySem.W.keepIn K (.ref f30) = true)
    (a31 : PySem.W.nsIn K mainGlobals "_law_copied" = some (some (.ref f31)))
    (l31 : K.lookup f31 = some ⟨oc31, od31, .func (PySem.W.fnOf "_law_copied" "_law_copied" (defArgs s__law_copied) (defBody s__law_copied) (defScope s__law_copied) .none kV31 dc31 pm31 an31 cd31 ct31), sl31⟩)
    (c31 : PySem.W.codeIn K cd31 "_law_copied" = true)
    (k31 : PySem.W.keepIn K (.ref f31) = true)
    (a32 : PySem.W.nsIn K mainGlobals "_law_word" = some (some (.ref f32)))
    (l32 : K.lookup f32 = some ⟨oc32, od32, .func (PySem.W.fnOf "_law_word" "_law_word" (defArgs s__law_word) (defBody s__law_word) (defScope s__law_word) .none kV32 dc32 pm32 an32 cd32 ct32), sl32⟩)
    (c32 : PySem.W.codeIn K cd32 "_law_word" = true)
    (k32 : PySem.W.keepIn K (.ref f32) = true)
    (a33 : PySem.W.nsIn K mainGlobals "_law_wanted" = some (some (.ref f33)))
    (l33 : K.lookup f33 = some ⟨oc33, od33, .func (PySem.W.fnOf "_law_wanted" "_law_wanted" (defArgs s__law_wanted) (defBody s__law_wanted) (defScope s__law_wanted) .none kV33 dc33 pm33 an33 cd33 ct33), sl33⟩)
    (c33 : PySem.W.codeIn K cd33 "_law_wanted" = true)
    (k33 : PySem.W.keepIn K (.ref f33) = true)
    (a34 : PySem.W.nsIn K mainGlobals "_law_rank" = some (some (.ref f34)))
    (l34 : K.lookup f34 = some ⟨oc34, od34, .func (PySem.W.fnOf "_law_rank" "_law_rank" (defArgs s__law_rank) (defBody s__law_rank) (defScope s__law_rank) .none kV34 dc34 pm34 an34 cd34 ct34), sl34⟩)
    (c34 : PySem.W.codeIn K cd34 "_law_rank" = true)
    (k34 : PySem.W.keepIn K (.ref f34) = true)
    (a35 : PySem.W.nsIn K mainGlobals "_law_measures" = some (some (.ref f35)))
    (l35 : K.lookup f35 = some ⟨oc35, od35, .func (PySem.W.fnOf "_law_measures" "_law_measures" (defArgs s__law_measures) (defBody s__law_measures) (defScope s__law_measures) .none kV35 dc35 pm35 an35 cd35 ct35), sl35⟩)
    (c35 : PySem.W.codeIn K cd35 "_law_measures" = true)
    (k35 : PySem.W.keepIn K (.ref f35) = true)
    (a36 : PySem.W.nsIn K mainGlobals "_law_refused" = some (some (.ref f36)))
    (l36 : K.lookup f36 = some ⟨oc36, od36, .func (PySem.W.fnOf "_law_refused" "_law_refused" (defArgs s__law_refused) (defBody s__law_refused) (defScope s__law_refused) .none kV36 dc36 pm36 an36 cd36 ct36), sl36⟩)
    (c36 : PySem.W.codeIn K cd36 "_law_refused" = true)
    (k36 : PySem.W.keepIn K (.ref f36) = true)
    (a37 : PySem.W.nsIn K mainGlobals "law" = some (some (.ref f37)))
    (l37 : K.lookup f37 = some ⟨oc37, od37, .func (PySem.W.fnOf "law" "law" (defArgs s_law) (defBody s_law) (defScope s_law) .none kV37 dc37 pm37 an37 cd37 ct37), sl37⟩)
    (c37 : PySem.W.codeIn K cd37 "law" = true)
    (k37 : PySem.W.keepIn K (.ref f37) = true)
    (z_len : PySem.W.nsIn K mainGlobals "len" = some none)
    (z_isinstance : PySem.W.nsIn K mainGlobals "isinstance" = some none)
    (z_int : PySem.W.nsIn K mainGlobals "int" = some none)
    (z_bool : PySem.W.nsIn K mainGlobals "bool" = some none)
    (z_list : PySem.W.nsIn K mainGlobals "list" = some none)
    (z_tuple : PySem.W.nsIn K mainGlobals "tuple" = some none)
    (z_set : PySem.W.nsIn K mainGlobals "set" = some none)
    (z_all : PySem.W.nsIn K mainGlobals "all" = some none)
    (z_max : PySem.W.nsIn K mainGlobals "max" = some none)
    (z_min : PySem.W.nsIn K mainGlobals "min" = some none)
    (z_sum : PySem.W.nsIn K mainGlobals "sum" = some none)
    (z_range : PySem.W.nsIn K mainGlobals "range" = some none)
    (z_enumerate : PySem.W.nsIn K mainGlobals "enumerate" = some none)
    (z_ValueError : PySem.W.nsIn K mainGlobals "ValueError" = some none)
    (z_super : PySem.W.nsIn K mainGlobals "super" = some none)
    (z_sorted : PySem.W.nsIn K mainGlobals "sorted" = some none)
    (z_any : PySem.W.nsIn K mainGlobals "any" = some none)
    (z_reversed : PySem.W.nsIn K mainGlobals "reversed" = some none)
    (most0 : PySem.W.nsIn K mainGlobals "MOST_PLACES" = some (some (.int 40 tk0)))
    (most1 : PySem.W.nsIn K mainGlobals "MOST_MEASURED" = some (some (.int 10 tk1)))
    (g_BadGame : PySem.W.nsIn K mainGlobals "BadGame" = some (some (.ref aBadGame)))
    (g_BadSteps : PySem.W.nsIn K mainGlobals "BadSteps" = some (some (.ref aBadSteps)))
    (g_BadPlace : PySem.W.nsIn K mainGlobals "BadPlace" = some (some (.ref aBadPlace)))
    (g_BadPlayer : PySem.W.nsIn K mainGlobals "BadPlayer" = some (some (.ref aBadPlayer)))
    (g_TooMany : PySem.W.nsIn K mainGlobals "TooMany" = some (some (.ref aTooMany)))
    (g_GongError : PySem.W.nsIn K mainGlobals "GongError" = some (some (.ref aGongError)))
    (xG : K.lookup aGongError = some (excClassObj nmG qG aGongError NG bsG [.type "ValueError", .type "Exception", .type "BaseException", .type "object"] true snG subG abG colG ddG mG0 mG1 mG2 mG3 mG5 newG))
    (iG : PySem.W.findIn K (.ref aGongError) "__init__" = some (some (.builtin "ValueError.__init__")))
    (opq : PySem.W.nsIn K cStatics "thirdparty.any" = some none)
    (xBG : K.lookup aBadGame = some (excClassObj nmBG qBG aBadGame NBG bsBG (.ref aGongError :: [.type "ValueError", .type "Exception", .type "BaseException", .type "object"]) true snBG subBG abBG colBG ddBG mBG0 mBG1 mBG2 mBG3 mBG5 "ValueError.__new__"))
    (saBG : PySem.W.findIn K (.ref aBadGame) "__setattr__" = some (some (.builtin "object.__setattr__")))
    (noBG : PySem.W.findIn K (.ref aBadGame) "at" = some none)
    (iiBG : PySem.W.findIn K (.ref aBadGame) "__init__" = some (some (.ref fBG)))
    (tiBG : PySem.W.typeIn K (.ref fBG) = some (.type "function"))
    (liBG : K.lookup fBG = some ⟨ocBG, odBG, .func (PySem.W.ksFn "__init__" "BadGame.__init__" (PySem.BadX.iA ⟨6, 17, 6, 21⟩ ⟨6, 23, 6, 25⟩) (PySem.BadX.iB "no game (at: " ")" ⟨⟨7, 8, 7, 13⟩, ⟨7, 8, 7, 15⟩, ⟨7, 8, 7, 24⟩, ⟨7, 27, 7, 40⟩, ⟨7, 41, 7, 43⟩, ⟨7, 40, 7, 44⟩, ⟨7, 44, 7, 45⟩, ⟨7, 25, 7, 46⟩, ⟨7, 8, 7, 47⟩, ⟨7, 8, 7, 47⟩, ⟨8, 8, 8, 12⟩, ⟨8, 8, 8, 15⟩, ⟨8, 18, 8, 20⟩, ⟨8, 8, 8, 20⟩⟩) PySem.BadX.iS .none .none dcBG pmBG anBG (.ref cdaBG) ctBG ccBG), slBG⟩)
    (ciBG : PySem.W.codeIn K (.ref cdaBG) "BadGame.__init__" = true)
    (diBG : K.lookup cdaBG = some ⟨cclBG, cddBG, .fields vsBG, ccsBG⟩)
    (viBG : vsBG[2]? = some (.str fileBG tfBG))
    (fiBG : ((P0.main.file : Str) == fileBG) = true)
    (ceBG : K.lookup ccBG = some ⟨clBG, cldBG, .cell (some (.ref aBadGame)), cslBG⟩)
    (veBG : PySem.W.subIn K (.ref aBadGame) (.type "ValueError") = some true)
    (moBG : PySem.W.mroIn K aBadGame (.ref aBadGame) = some true)
    (xBS : K.lookup aBadSteps = some (excClassObj nmBS qBS aBadSteps NBS bsBS (.ref aGongError :: [.type "ValueError", .type "Exception", .type "BaseException", .type "object"]) true snBS subBS abBS colBS ddBS mBS0 mBS1 mBS2 mBS3 mBS5 "ValueError.__new__"))
    (saBS : PySem.W.findIn K (.ref aBadSteps) "__setattr__" = some (some (.builtin "object.__setattr__")))
    (noBS : PySem.W.findIn K (.ref aBadSteps) "at" = some none)
    (iiBS : PySem.W.findIn K (.ref aBadSteps) "__init__" = some (some (.ref fBS)))
    (tiBS : PySem.W.typeIn K (.ref fBS) = some (.type "function"))
    (liBS : K.lookup fBS = some ⟨ocBS, odBS, .func (PySem.W.ksFn "__init__" "BadSteps.__init__" (PySem.BadX.iA ⟨11, 17, 11, 21⟩ ⟨11, 23, 11, 25⟩) (PySem.BadX.iB "no steps for this game (at: " ")" ⟨⟨12, 8, 12, 13⟩, ⟨12, 8, 12, 15⟩, ⟨12, 8, 12, 24⟩, ⟨12, 27, 12, 55⟩, ⟨12, 56, 12, 58⟩, ⟨12, 55, 12, 59⟩, ⟨12, 59, 12, 60⟩, ⟨12, 25, 12, 61⟩, ⟨12, 8, 12, 62⟩, ⟨12, 8, 12, 62⟩, ⟨13, 8, 13, 12⟩, ⟨13, 8, 13, 15⟩, ⟨13, 18, 13, 20⟩, ⟨13, 8, 13, 20⟩⟩) PySem.BadX.iS .none .none dcBS pmBS anBS (.ref cdaBS) ctBS ccBS), slBS⟩)
    (ciBS : PySem.W.codeIn K (.ref cdaBS) "BadSteps.__init__" = true)
    (diBS : K.lookup cdaBS = some ⟨cclBS, cddBS, .fields vsBS, ccsBS⟩)
    (viBS : vsBS[2]? = some (.str fileBS tfBS))
    (fiBS : ((P0.main.file : Str) == fileBS) = true)
    (ceBS : K.lookup ccBS = some ⟨clBS, cldBS, .cell (some (.ref aBadSteps)), cslBS⟩)
    (veBS : PySem.W.subIn K (.ref aBadSteps) (.type "ValueError") = some true)
    (moBS : PySem.W.mroIn K aBadSteps (.ref aBadSteps) = some true)
    (kcBG : PySem.W.keepIn K (.ref aBadGame) = true)
    (exBG : PySem.W.subIn K (.ref aBadGame) (.type "BaseException") = some true)
    (tyBG : PySem.W.typeIn K (.ref aBadGame) = some (.type "type"))
    (kcBS : PySem.W.keepIn K (.ref aBadSteps) = true)
    (exBS : PySem.W.subIn K (.ref aBadSteps) (.type "BaseException") = some true)
    (tyBS : PySem.W.typeIn K (.ref aBadSteps) = some (.type "type"))
    (kcBP : PySem.W.keepIn K (.ref aBadPlace) = true)
    (exBP : PySem.W.subIn K (.ref aBadPlace) (.type "BaseException") = some true)
    (tyBP : PySem.W.typeIn K (.ref aBadPlace) = some (.type "type"))
    (kcBY : PySem.W.keepIn K (.ref aBadPlayer) = true)
    (exBY : PySem.W.subIn K (.ref aBadPlayer) (.type "BaseException") = some true)
    (tyBY : PySem.W.typeIn K (.ref aBadPlayer) = some (.type "type"))
    (kcTM : PySem.W.keepIn K (.ref aTooMany) = true)
    (exTM : PySem.W.subIn K (.ref aTooMany) (.type "BaseException") = some true)
    (tyTM : PySem.W.typeIn K (.ref aTooMany) = some (.type "type"))
    (xcBP : PySem.W.excIn K aBadPlace [.type "ValueError", .type "Exception", .type "BaseException", .type "object"] "ValueError.__new__" = true)
    (xcBY : PySem.W.excIn K aBadPlayer [.type "ValueError", .type "Exception", .type "BaseException", .type "object"] "ValueError.__new__" = true)
    (xcTM : PySem.W.excIn K aTooMany [.type "ValueError", .type "Exception", .type "BaseException", .type "object"] "ValueError.__new__" = true)
    (gaBG : PySem.W.findIn K (.ref aBadGame) "__getattribute__" = some (some (.builtin "BaseException.__getattribute__")))
    (ggBG : PySem.W.findIn K (.ref aBadGame) "__getattr__" = some none)
    (hdBG : PySem.W.hasDictIn K aBadGame = true)
    (haBG : PySem.W.findIn K (.ref aBadGame) "__class__" = some (some (.builtin "object.__class__")))
    (obBG : PySem.W.mroIn K aBadGame (.type "object") = some true)
    (koBG0 : PySem.W.kitOne K (.ref aBadGame) (.ref aBadGame) = some true)
    (koBG1 : PySem.W.kitOne K (.ref aBadGame) (.ref aBadPlayer) = some false)
    (koBG2 : PySem.W.kitOne K (.ref aBadGame) (.ref aBadPlace) = some false)
    (koBG3 : PySem.W.kitOne K (.ref aBadGame) (.ref aBadSteps) = some false)
    (koBG4 : PySem.W.kitOne K (.ref aBadGame) (.ref aTooMany) = some false)
    (kvBG : PySem.W.kitOne K (.ref aBadGame) (.type "ValueError") = some true)
    (sgBG : PySem.W.subIn K (.ref aBadGame) (.ref aGongError) = some true)
    (gaBS : PySem.W.findIn K (.ref aBadSteps) "__getattribute__" = some (some (.builtin "BaseException.__getattribute__")))
    (ggBS : PySem.W.findIn K (.ref aBadSteps) "__getattr__" = some none)
    (hdBS : PySem.W.hasDictIn K aBadSteps = true)
    (haBS : PySem.W.findIn K (.ref aBadSteps) "__class__" = some (some (.builtin "object.__class__")))
    (obBS : PySem.W.mroIn K aBadSteps (.type "object") = some true)
    (koBS0 : PySem.W.kitOne K (.ref aBadSteps) (.ref aBadGame) = some false)
    (koBS1 : PySem.W.kitOne K (.ref aBadSteps) (.ref aBadPlayer) = some false)
    (koBS2 : PySem.W.kitOne K (.ref aBadSteps) (.ref aBadPlace) = some false)
    (koBS3 : PySem.W.kitOne K (.ref aBadSteps) (.ref aBadSteps) = some true)
    (koBS4 : PySem.W.kitOne K (.ref aBadSteps) (.ref aTooMany) = some false)
    (kvBS : PySem.W.kitOne K (.ref aBadSteps) (.type "ValueError") = some true)
    (sgBS : PySem.W.subIn K (.ref aBadSteps) (.ref aGongError) = some true)
    (gaBP : PySem.W.findIn K (.ref aBadPlace) "__getattribute__" = some (some (.builtin "BaseException.__getattribute__")))
    (ggBP : PySem.W.findIn K (.ref aBadPlace) "__getattr__" = some none)
    (hdBP : PySem.W.hasDictIn K aBadPlace = true)
    (haBP : PySem.W.findIn K (.ref aBadPlace) "__class__" = some (some (.builtin "object.__class__")))
    (obBP : PySem.W.mroIn K aBadPlace (.type "object") = some true)
    (koBP0 : PySem.W.kitOne K (.ref aBadPlace) (.ref aBadGame) = some false)
    (koBP1 : PySem.W.kitOne K (.ref aBadPlace) (.ref aBadPlayer) = some false)
    (koBP2 : PySem.W.kitOne K (.ref aBadPlace) (.ref aBadPlace) = some true)
    (koBP3 : PySem.W.kitOne K (.ref aBadPlace) (.ref aBadSteps) = some false)
    (koBP4 : PySem.W.kitOne K (.ref aBadPlace) (.ref aTooMany) = some false)
    (kvBP : PySem.W.kitOne K (.ref aBadPlace) (.type "ValueError") = some true)
    (sgBP : PySem.W.subIn K (.ref aBadPlace) (.ref aGongError) = some true)
    (gaBY : PySem.W.findIn K (.ref aBadPlayer) "__getattribute__" = some (some (.builtin "BaseException.__getattribute__")))
    (ggBY : PySem.W.findIn K (.ref aBadPlayer) "__getattr__" = some none)
    (hdBY : PySem.W.hasDictIn K aBadPlayer = true)
    (haBY : PySem.W.findIn K (.ref aBadPlayer) "__class__" = some (some (.builtin "object.__class__")))
    (obBY : PySem.W.mroIn K aBadPlayer (.type "object") = some true)
    (koBY0 : PySem.W.kitOne K (.ref aBadPlayer) (.ref aBadGame) = some false)
    (koBY1 : PySem.W.kitOne K (.ref aBadPlayer) (.ref aBadPlayer) = some true)
    (koBY2 : PySem.W.kitOne K (.ref aBadPlayer) (.ref aBadPlace) = some false)
    (koBY3 : PySem.W.kitOne K (.ref aBadPlayer) (.ref aBadSteps) = some false)
    (koBY4 : PySem.W.kitOne K (.ref aBadPlayer) (.ref aTooMany) = some false)
    (kvBY : PySem.W.kitOne K (.ref aBadPlayer) (.type "ValueError") = some true)
    (sgBY : PySem.W.subIn K (.ref aBadPlayer) (.ref aGongError) = some true)
    (gaTM : PySem.W.findIn K (.ref aTooMany) "__getattribute__" = some (some (.builtin "BaseException.__getattribute__")))
    (ggTM : PySem.W.findIn K (.ref aTooMany) "__getattr__" = some none)
    (hdTM : PySem.W.hasDictIn K aTooMany = true)
    (haTM : PySem.W.findIn K (.ref aTooMany) "__class__" = some (some (.builtin "object.__class__")))
    (obTM : PySem.W.mroIn K aTooMany (.type "object") = some true)
    (koTM0 : PySem.W.kitOne K (.ref aTooMany) (.ref aBadGame) = some false)
    (koTM1 : PySem.W.kitOne K (.ref aTooMany) (.ref aBadPlayer) = some false)
    (koTM2 : PySem.W.kitOne K (.ref aTooMany) (.ref aBadPlace) = some false)
    (koTM3 : PySem.W.kitOne K (.ref aTooMany) (.ref aBadSteps) = some false)
    (koTM4 : PySem.W.kitOne K (.ref aTooMany) (.ref aTooMany) = some true)
    (kvTM : PySem.W.kitOne K (.ref aTooMany) (.type "ValueError") = some true)
    (sgTM : PySem.W.subIn K (.ref aTooMany) (.ref aGongError) = some true)
    (hn : PySem.W.specialIn K (.builtin "object.__class__") "__get__" = some (some (.builtin "getset_descriptor.__get__")))
    (ht : PySem.W.takesIn K (.builtin "object.__class__") = some true)
    (exG : PySem.W.subIn K (.ref aGongError) (.type "BaseException") = some true)
    (hdG : PySem.W.hasDictIn K aGongError = true)
    (tyG : PySem.W.typeIn K (.ref aGongError) = some (.type "type"))
    (init_done : True)
    : ∃ fd : FuncData, (∀ (s : Shared) (v : Value), BindsTo s fd ⟨[v], []⟩ [("_law_script", v)]) ∧ ∀ base : Heap, K.In base → base.Ns mainGlobals mg → FnOk P0 w K mg base (L2.CX P0 w) 92 fa fd ["_law_script"] (spLaw K) := by
  have e := hfa.symm.trans (PySem.W.mg_of X Gn a37)
  cases e
  let A : Ads := ⟨aBadGame, aBadSteps, aBadPlace, aBadPlayer, aTooMany, aGongError⟩
  have B : Bt mg := ⟨PySem.W.mg_none_of X Gn z_len, PySem.W.mg_none_of X Gn z_isinstance, PySem.W.mg_none_of X Gn z_int, PySem.W.mg_none_of X Gn z_bool, PySem.W.mg_none_of X Gn z_list, PySem.W.mg_none_of X Gn z_tuple, PySem.W.mg_none_of X Gn z_set, PySem.W.mg_none_of X Gn z_all, PySem.W.mg_none_of X Gn z_max, PySem.W.mg_none_of X Gn z_min, PySem.W.mg_none_of X Gn z_sum, PySem.W.mg_none_of X Gn z_range, PySem.W.mg_none_of X Gn z_enumerate, PySem.W.mg_none_of X Gn z_ValueError, PySem.W.mg_none_of X Gn z_super, PySem.W.mg_none_of X Gn z_sorted, PySem.W.mg_none_of X Gn z_any, PySem.W.mg_none_of X Gn z_reversed⟩
  have T_BadGame := PySem.W.mg_of X Gn g_BadGame
  have T_BadSteps := PySem.W.mg_of X Gn g_BadSteps
  have T_BadPlace := PySem.W.mg_of X Gn g_BadPlace
  have T_BadPlayer := PySem.W.mg_of X Gn g_BadPlayer
  have T_TooMany := PySem.W.mg_of X Gn g_TooMany
  have T_GongError := PySem.W.mg_of X Gn g_GongError
  have T : Tx K mg A := ⟨T_BadGame, T_BadSteps, T_BadPlace, T_BadPlayer, T_TooMany, T_GongError⟩
  have M_MOST_PLACES := PySem.W.mg_of X Gn most0
  have M_MOST_MEASURED := PySem.W.mg_of X Gn most1
  have tBG : PySem.BadX.BadTxt P0 K mg "BadGame" "BadGame.__init__" "no game (at: " ")" A.BadGame fBG := ⟨T_BadGame, ⟨nmBG, qBG, NBG, bsBG, _, snBG, subBG, abBG, colBG, ddBG, mBG0, mBG1, mBG2, mBG3, mBG5, xBG, rfl, along_of xG iG⟩, saBG, noBG, iiBG, tiBG, kcBG, exBG, veBG, tyBG, moBG, opq, B.super_, (by decide +kernel), ⟨_, _, _, _, _, _, _, _, _, _, _, _, _, _, _, _, _, _, _, _, _, liBG, ciBG, diBG, viBG, fiBG, ceBG, fun L => ⟨_, rfl⟩⟩, by decide, by decide⟩
  have tBS : PySem.BadX.BadTxt P0 K mg "BadSteps" "BadSteps.__init__" "no steps for this game (at: " ")" A.BadSteps fBS := ⟨T_BadSteps, ⟨nmBS, qBS, NBS, bsBS, _, snBS, subBS, abBS, colBS, ddBS, mBS0, mBS1, mBS2, mBS3, mBS5, xBS, rfl, along_of xG iG⟩, saBS, noBS, iiBS, tiBS, kcBS, exBS, veBS, tyBS, moBS, opq, B.super_, (by decide +kernel), ⟨_, _, _, _, _, _, _, _, _, _, _, _, _, _, _, _, _, _, _, _, _, liBS, ciBS, diBS, viBS, fiBS, ceBS, fun L => ⟨_, rfl⟩⟩, by decide, by decide⟩
  have xBP : PlainX K mg "BadPlace" A.BadPlace := ⟨T_BadPlace, xcBP, kcBP, exBP, tyBP⟩
  have xBY : PlainX K mg "BadPlayer" A.BadPlayer := ⟨T_BadPlayer, xcBY, kcBY, exBY, tyBY⟩
  have xTM : PlainX K mg "TooMany" A.TooMany := ⟨T_TooMany, xcTM, kcTM, exTM, tyTM⟩
  have cBG : Caught K A A.BadGame 0 := ⟨⟨⟨gaBG, ggBG, exBG, hdBG, haBG, hn, ht, obBG⟩, koBG0, koBG1, koBG2, koBG3, koBG4, kvBG⟩, PySem.W.exm_ref exG hdG tyG sgBG⟩
  have rBG : Read K A.BadGame := ⟨⟨gaBG, ggBG, exBG, hdBG⟩, noBG⟩
  have cBS : Caught K A A.BadSteps 3 := ⟨⟨⟨gaBS, ggBS, exBS, hdBS, haBS, hn, ht, obBS⟩, koBS0, koBS1, koBS2, koBS3, koBS4, kvBS⟩, PySem.W.exm_ref exG hdG tyG sgBS⟩
  have rBS : Read K A.BadSteps := ⟨⟨gaBS, ggBS, exBS, hdBS⟩, noBS⟩
  have cBP : Caught K A A.BadPlace 2 := ⟨⟨⟨gaBP, ggBP, exBP, hdBP, haBP, hn, ht, obBP⟩, koBP0, koBP1, koBP2, koBP3, koBP4, kvBP⟩, PySem.W.exm_ref exG hdG tyG sgBP⟩
  have cBY : Caught K A A.BadPlayer 1 := ⟨⟨⟨gaBY, ggBY, exBY, hdBY, haBY, hn, ht, obBY⟩, koBY0, koBY1, koBY2, koBY3, koBY4, kvBY⟩, PySem.W.exm_ref exG hdG tyG sgBY⟩
  have cTM : Caught K A A.TooMany 4 := ⟨⟨⟨gaTM, ggTM, exTM, hdTM, haTM, hn, ht, obTM⟩, koTM0, koTM1, koTM2, koTM3, koTM4, kvTM⟩, PySem.W.exm_ref exG hdG tyG sgTM⟩
  have F_is_number := fun_mk (st := s_is_number) l0 c0 k0
  have b_is_number := F_is_number.binds (ps := ["value"]) fun _ _ _ _ _ _ us hl => match us, hl with | [_], _ => rfl
  have F_is_player := fun_mk (st := s_is_player) l1 c1 k1
  have b_is_player := F_is_player.binds (ps := ["value"]) fun _ _ _ _ _ _ us hl => match us, hl with | [_], _ => rfl
  have F_is_place := fun_mk (st := s_is_place) l2 c2 k2
  have b_is_place := F_is_place.binds (ps := ["value", "many"]) fun _ _ _ _ _ _ us hl => match us, hl with | [_, _], _ => rfl
  have F_is_places := fun_mk (st := s_is_places) l3 c3 k3
  have b_is_places := F_is_places.binds (ps := ["value", "many"]) fun _ _ _ _ _ _ us hl => match us, hl with | [_, _], _ => rfl
  have F_is_ways := fun_mk (st := s_is_ways) l4 c4 k4
  have b_is_ways := F_is_ways.binds (ps := ["value", "many"]) fun _ _ _ _ _ _ us hl => match us, hl with | [_, _], _ => rfl
  have F_is_row := fun_mk (st := s_is_row) l5 c5 k5
  have b_is_row := F_is_row.binds (ps := ["value", "many"]) fun _ _ _ _ _ _ us hl => match us, hl with | [_, _], _ => rfl
  have F_check_game := fun_mk (st := s_check_game) l6 c6 k6
  have b_check_game := F_check_game.binds (ps := ["game"]) fun _ _ _ _ _ _ us hl => match us, hl with | [_], _ => rfl
  have F_check_few := fun_mk (st := s_check_few) l7 c7 k7
  have b_check_few := F_check_few.binds (ps := ["game", "most"]) fun _ _ _ _ _ _ us hl => match us, hl with | [_, _], _ => rfl
  have F_measures := fun_mk (st := s_measures) l8 c8 k8
  have b_measures := F_measures.binds (ps := ["game"]) fun _ _ _ _ _ _ us hl => match us, hl with | [_], _ => rfl
  have F_sizes_of_counts := fun_mk (st := s_sizes_of_counts) l9 c9 k9
  have b_sizes_of_counts := F_sizes_of_counts.binds (ps := ["numbers"]) fun _ _ _ _ _ _ us hl => match us, hl with | [_], _ => rfl
  have F_least_ranks := fun_mk (st := s_least_ranks) l10 c10 k10
  have b_least_ranks := F_least_ranks.binds (ps := ["game", "sizes"]) fun _ _ _ _ _ _ us hl => match us, hl with | [_, _], _ => rfl
  have F_raised := fun_mk (st := s_raised) l11 c11 k11
  have b_raised := F_raised.binds (ps := ["game", "sizes", "ranks"]) fun _ _ _ _ _ _ us hl => match us, hl with | [_, _, _], _ => rfl
  have F_wanted := fun_mk (st := s_wanted) l12 c12 k12
  have b_wanted := F_wanted.binds (ps := ["number", "sizes", "rank"]) fun _ _ _ _ _ _ us hl => match us, hl with | [_, _, _], _ => rfl
  have F_ranks_below := fun_mk (st := s_ranks_below) l13 c13 k13
  have b_ranks_below := F_ranks_below.binds (ps := ["number", "sizes"]) fun _ _ _ _ _ _ us hl => match us, hl with | [_, _], _ => rfl
  have F_all_ranks := fun_mk (st := s_all_ranks) l14 c14 k14
  have b_all_ranks := F_all_ranks.binds (ps := ["sizes"]) fun _ _ _ _ _ _ us hl => match us, hl with | [_], _ => rfl
  have F_multiplied := fun_mk (st := s_multiplied) l15 c15 k15
  have b_multiplied := F_multiplied.binds (ps := ["numbers"]) fun _ _ _ _ _ _ us hl => match us, hl with | [_], _ => rfl
  have F_measure_of := fun_mk (st := s_measure_of) l16 c16 k16
  have b_measure_of := F_measure_of.binds (ps := ["rank", "sizes"]) fun _ _ _ _ _ _ us hl => match us, hl with | [_, _], _ => rfl
  have F_everywhere := fun_mk (st := s_everywhere) l17 c17 k17
  have b_everywhere := F_everywhere.binds (ps := ["game"]) fun _ _ _ _ _ _ us hl => match us, hl with | [_], _ => rfl
  have F_drawn := fun_mk (st := s_drawn) l18 c18 k18
  have b_drawn := F_drawn.binds (ps := ["game", "inside", "player", "places"]) fun _ _ _ _ _ _ us hl => match us, hl with | [_, _, _, _], _ => rfl
  have F_leads := fun_mk (st := s_leads) l19 c19 k19
  have b_leads := F_leads.binds (ps := ["row", "inside", "player", "found"]) fun _ _ _ _ _ _ us hl => match us, hl with | [_, _, _, _], _ => rfl
  have F_lean := fun_mk (st := s_lean) l20 c20 k20
  have b_lean := F_lean.binds (ps := ["game"]) fun _ _ _ _ _ _ us hl => match us, hl with | [_], _ => rfl
  have F_least_numbers := fun_mk (st := s_least_numbers) l21 c21 k21
  have b_least_numbers := F_least_numbers.binds (ps := ["numbers"]) fun _ _ _ _ _ _ us hl => match us, hl with | [_], _ => rfl
  have F_won := fun_mk (st := s_won) l22 c22 k22
  have b_won := F_won.binds (ps := ["game"]) fun _ _ _ _ _ _ us hl => match us, hl with | [_], _ => rfl
  have F_settled := fun_mk (st := s_settled) l23 c23 k23
  have b_settled := F_settled.binds (ps := ["game"]) fun _ _ _ _ _ _ us hl => match us, hl with | [_], _ => rfl
  have F_settled_inside := fun_mk (st := s_settled_inside) l24 c24 k24
  have b_settled_inside := F_settled_inside.binds (ps := ["game", "inside", "known"]) fun _ _ _ _ _ _ us hl => match us, hl with | [_, _, _], _ => rfl
  have F_settle := fun_mk (st := s_settle) l25 c25 k25
  have b_settle := F_settle.binds (ps := ["game", "inside", "known"]) fun _ _ _ _ _ _ us hl => match us, hl with | [_, _, _], _ => rfl
  have F_without := fun_mk (st := s_without) l26 c26 k26
  have b_without := F_without.binds (ps := ["inside", "near"]) fun _ _ _ _ _ _ us hl => match us, hl with | [_, _], _ => rfl
  have F_claimed := fun_mk (st := s_claimed) l27 c27 k27
  have b_claimed := F_claimed.binds (ps := ["game", "inside", "player", "near"]) fun _ _ _ _ _ _ us hl => match us, hl with | [_, _, _, _], _ => rfl
  have F_leading_step := fun_mk (st := s_leading_step) l28 c28 k28
  have b_leading_step := F_leading_step.binds (ps := ["game", "inside", "player", "near", "place"]) fun _ _ _ _ _ _ us hl => match us, hl with | [_, _, _, _, _], _ => rfl
  have F__law_mixed := fun_mk (st := s__law_mixed) l29 c29 k29
  have b__law_mixed := F__law_mixed.binds (ps := ["_law_number", "_law_k"]) fun _ _ _ _ _ _ us hl => match us, hl with | [_, _], _ => rfl
  have F__law_game := fun_mk (st := s__law_game) l30 c30 k30
  have b__law_game := F__law_game.binds (ps := ["_law_script", "_law_most"]) fun _ _ _ _ _ _ us hl => match us, hl with | [_, _], _ => rfl
  have F__law_copied := fun_mk (st := s__law_copied) l31 c31 k31
  have b__law_copied := F__law_copied.binds (ps := ["_law_game_here"]) fun _ _ _ _ _ _ us hl => match us, hl with | [_], _ => rfl
  have F__law_word := fun_mk (st := s__law_word) l32 c32 k32
  have b__law_word := F__law_word.binds (ps := ["_law_e"]) fun _ _ _ _ _ _ us hl => match us, hl with | [_], _ => rfl
  have F__law_wanted := fun_mk (st := s__law_wanted) l33 c33 k33
  have b__law_wanted := F__law_wanted.binds (ps := ["_law_counts", "_law_number", "_law_known"]) fun _ _ _ _ _ _ us hl => match us, hl with | [_, _, _], _ => rfl
  have F__law_rank := fun_mk (st := s__law_rank) l34 c34 k34
  have b__law_rank := F__law_rank.binds (ps := ["_law_measure"]) fun _ _ _ _ _ _ us hl => match us, hl with | [_], _ => rfl
  have F__law_measures := fun_mk (st := s__law_measures) l35 c35 k35
  have b__law_measures := F__law_measures.binds (ps := ["_law_game_here"]) fun _ _ _ _ _ _ us hl => match us, hl with | [_], _ => rfl
  have F__law_refused := fun_mk (st := s__law_refused) l36 c36 k36
  have b__law_refused := F__law_refused.binds (ps := ["_law_game_here"]) fun _ _ _ _ _ _ us hl => match us, hl with | [_], _ => rfl
  have F_law := fun_mk (st := s_law) l37 c37 k37
  refine ⟨PySem.W.fnOf "law" "law" (defArgs s_law) (defBody s_law) (defScope s_law) .none kV37 dc37 pm37 an37 cd37 ct37, fun s v => .of_eq rfl, fun base _ _ => ?_⟩
  have C_is_number : Cal P0 w K mg base 1 "is_number" (spIsNumber K) := ⟨_, _, _, ok_is_number B F_is_number, PySem.W.mg_of X Gn a0, k0, b_is_number⟩
  have C_is_player : Cal P0 w K mg base 2 "is_player" (spIsPlayer K) := ⟨_, _, _, ok_is_player F_is_player C_is_number, PySem.W.mg_of X Gn a1, k1, b_is_player⟩
  have C_is_place : Cal P0 w K mg base 2 "is_place" (spIsPlace K) := ⟨_, _, _, ok_is_place F_is_place C_is_number, PySem.W.mg_of X Gn a2, k2, b_is_place⟩
  have C_is_places : Cal P0 w K mg base 3 "is_places" (spIsPlaces K) := ⟨_, _, _, ok_is_places B F_is_places C_is_place, PySem.W.mg_of X Gn a3, k3, b_is_places⟩
  have C_is_ways : Cal P0 w K mg base 4 "is_ways" (spIsWays K) := ⟨_, _, _, ok_is_ways B F_is_ways C_is_places, PySem.W.mg_of X Gn a4, k4, b_is_ways⟩
  have C_is_row : Cal P0 w K mg base 5 "is_row" (spIsRow K) := ⟨_, _, _, ok_is_row B F_is_row C_is_number C_is_player C_is_ways, PySem.W.mg_of X Gn a5, k5, b_is_row⟩
  have C_check_game : Cal P0 w K mg base 6 "check_game" (spCheckGame K A.BadGame) := ⟨_, _, _, ok_check_game B tBG M_MOST_PLACES F_check_game C_is_row, PySem.W.mg_of X Gn a6, k6, b_check_game⟩
  have C_everywhere : Cal P0 w K mg base 1 "everywhere" (spEverywhere K) := ⟨_, _, _, ok_everywhere B F_everywhere, PySem.W.mg_of X Gn a17, k17, b_everywhere⟩
  have C_without : Cal P0 w K mg base 1 "without" (spWithout K) := ⟨_, _, _, ok_without F_without, PySem.W.mg_of X Gn a26, k26, b_without⟩
  have C_leads : Cal P0 w K mg base 1 "leads" (spLeads K) := ⟨_, _, _, ok_leads B F_leads, PySem.W.mg_of X Gn a19, k19, b_leads⟩
  have C_drawn : Cal P0 w K mg base 2 "drawn" (spDrawn K) := ⟨_, _, _, ok_drawn B F_drawn C_leads, PySem.W.mg_of X Gn a18, k18, b_drawn⟩
  have C_leading_step : Cal P0 w K mg base 1 "leading_step" (spLead K) := ⟨_, _, _, ok_leading_step F_leading_step, PySem.W.mg_of X Gn a28, k28, b_leading_step⟩
  have C_claimed : Cal P0 w K mg base 2 "claimed" (spClaimed K) := ⟨_, _, _, ok_claimed F_claimed C_leading_step, PySem.W.mg_of X Gn a27, k27, b_claimed⟩
  have C_least_numbers : Cal P0 w K mg base 1 "least_numbers" (spLeast K) := ⟨_, _, _, ok_least_numbers B F_least_numbers, PySem.W.mg_of X Gn a21, k21, b_least_numbers⟩
  have C_lean : Cal P0 w K mg base 7 "lean" (spLean K A.BadGame) := ⟨_, _, _, ok_lean B F_lean C_check_game C_least_numbers, PySem.W.mg_of X Gn a20, k20, b_lean⟩
  have C_settled_inside : Cal P0 w K mg base (2 * 40 + 3 + 1) "settled_inside" (spSI K 40) := rec_ok B F_settle (PySem.W.mg_of X Gn a25) k25 b_settle F_settled_inside (PySem.W.mg_of X Gn a24) k24 b_settled_inside C_drawn C_without C_claimed 40
  have C_settled : Cal P0 w K mg base 86 "settled" (spSettled K A.BadGame) := ⟨_, _, _, ok_settled B F_settled C_check_game C_lean C_everywhere C_settled_inside, PySem.W.mg_of X Gn a23, k23, b_settled⟩
  have C_won : Cal P0 w K mg base 90 "won" (spWon K) := ⟨_, _, _, (won_of (ok_wonX F_won C_settled)).mono (by decide), PySem.W.mg_of X Gn a22, k22, b_won⟩
  have C__law_mixed : Cal P0 w K mg base 1 "_law_mixed" (spMixed) := ⟨_, _, _, ok_mixed F__law_mixed, PySem.W.mg_of X Gn a29, k29, b__law_mixed⟩
  have C__law_game : Cal P0 w K mg base 2 "_law_game" (spLawGameP K) := ⟨_, _, _, ok_law_gameP B F__law_game C__law_mixed, PySem.W.mg_of X Gn a30, k30, b__law_game⟩
  have C__law_copied : Cal P0 w K mg base 1 "_law_copied" (spCopiedP K) := ⟨_, _, _, ok_law_copiedP B F__law_copied, PySem.W.mg_of X Gn a31, k31, b__law_copied⟩
  have C__law_word : Cal P0 w K mg base 1 "_law_word" (spWord K A) := ⟨_, _, _, ok_law_word (A := A) B T F__law_word, PySem.W.mg_of X Gn a32, k32, b__law_word⟩
  have C_multiplied : Cal P0 w K mg base 1 "multiplied" (spMult K) := ⟨_, _, _, ok_multiplied F_multiplied, PySem.W.mg_of X Gn a15, k15, b_multiplied⟩
  have C_ranks_below : Cal P0 w K mg base 2 "ranks_below" (spBelow) := ⟨_, _, _, ok_ranks_below F_ranks_below C_multiplied, PySem.W.mg_of X Gn a13, k13, b_ranks_below⟩
  have C_all_ranks : Cal P0 w K mg base 2 "all_ranks" (spAll) := ⟨_, _, _, ok_all_ranks B F_all_ranks C_multiplied, PySem.W.mg_of X Gn a14, k14, b_all_ranks⟩
  have C_wanted : Cal P0 w K mg base 3 "wanted" (spWanted) := ⟨_, _, _, ok_wanted B F_wanted C_ranks_below C_all_ranks, PySem.W.mg_of X Gn a12, k12, b_wanted⟩
  have C_raised : Cal P0 w K mg base 4 "raised" (spRaised K) := ⟨_, _, _, ok_raised B F_raised C_wanted, PySem.W.mg_of X Gn a11, k11, b_raised⟩
  have C_least_ranks : Cal P0 w K mg base 5 "least_ranks" (spLeastR K) := ⟨_, _, _, ok_least_ranks B F_least_ranks C_raised, PySem.W.mg_of X Gn a10, k10, b_least_ranks⟩
  have C_measure_of : Cal P0 w K mg base 1 "measure_of" (spMeasOf K) := ⟨_, _, _, ok_measure_of B F_measure_of, PySem.W.mg_of X Gn a16, k16, b_measure_of⟩
  have C_sizes_of_counts : Cal P0 w K mg base 1 "sizes_of_counts" (spSizes K) := ⟨_, _, _, ok_sizes_of_counts B F_sizes_of_counts, PySem.W.mg_of X Gn a9, k9, b_sizes_of_counts⟩
  have C_check_few : Cal P0 w K mg base 3 "check_few" (spFew K A.TooMany) := ⟨_, _, _, ok_check_few B xTM F_check_few, PySem.W.mg_of X Gn a7, k7, b_check_few⟩
  have C_measures : Cal P0 w K mg base 7 "measures" (spMeas K A) := ⟨_, _, _, ok_measures (A := A) M_MOST_MEASURED F_measures C_check_game C_check_few C_sizes_of_counts C_least_ranks C_measure_of, PySem.W.mg_of X Gn a8, k8, b_measures⟩
  have C__law_wanted : Cal P0 w K mg base 1 "_law_wanted" (spLawWanted K) := ⟨_, _, _, ok_law_wanted B F__law_wanted, PySem.W.mg_of X Gn a33, k33, b__law_wanted⟩
  have C__law_rank : Cal P0 w K mg base 1 "_law_rank" (spLawRank) := ⟨_, _, _, ok_law_rank F__law_rank, PySem.W.mg_of X Gn a34, k34, b__law_rank⟩
  have C__law_measures : Cal P0 w K mg base 2 "_law_measures" (spLawMeas K) := ⟨_, _, _, ok_law_measures B F__law_measures C__law_wanted C__law_rank, PySem.W.mg_of X Gn a35, k35, b__law_measures⟩
  have C__law_refused : Cal P0 w K mg base 8 "_law_refused" (spRefused5 K) := ⟨_, _, _, ok_law_refused5 (A := A) T cTM F__law_refused C__law_word C_measures, PySem.W.mg_of X Gn a36, k36, b__law_refused⟩
  exact ok_law (A := A) B F_law C__law_game C__law_copied C__law_measures C_measures C_won C__law_refused
end G
open PySem PySem.W PyProof.Rows
set_option maxRecDepth 100000 in
set_option maxHeartbeats 0 in
theorem PySem.Challenge.cw_gongpath_k05_measures_holds : PySem.Challenge.rw_gongpath_k05_measures.Holds := by
  w_on; o_law; k_head; (case hw => w_witness2)
  k_fill
  refine L2.walk_of (l := PySem.Challenge.rw_gongpath_k05_measures) (n := 63) (k := 92) (x := "_law_script") (CX := fun w => L2.CX PySem.Challenge.pw_gongpath_k05_measures w) (sp := fun w => G.spLaw _) rfl (by decide) rfl ⟨rfl, by decide, by decide⟩ (fun w h Y => PySem.W.kIn_of Y) ?F (fun _ _ a ns hl _ hS => ⟨a, ns, rfl, hS, hl, fun _ => rfl⟩) (fun _ _ _ _ _ z => by obtain ⟨_, _, _, _, _, _, _, _, _, _, _, _, z⟩ := z; exact z)
  case F =>
    intro w mg fa h KX Gn hmg
    refine' G.all_mk KX Gn hmg ?a0 ?l0 ?c0 ?k0 ?a1 ?l1 ?c1 ?k1 ?a2 ?l2 ?c2 ?k2 ?a3 ?l3 ?c3 ?k3 ?a4 ?l4 ?c4 ?k4 ?a5 ?l5 ?c5 ?k5 ?a6 ?l6 ?c6 ?k6 ?a7 ?l7 ?c7 ?k7 ?a8 ?l8 ?c8 ?k8 ?a9 ?l9 ?c9 ?k9 ?a10 ?l10 ?c10 ?k10 ?a11 ?l11 ?c11 ?k11 ?a12 ?l12 ?c12 ?k12 ?a13 ?l13 ?c13 ?k13 ?a14 ?l14 ?c14 ?k14 ?a15 ?l15 ?c15 ?k15 ?a16 ?l16 ?c16 ?k16 ?a17 ?l17 ?c17 ?k17 ?a18 ?l18 ?c18 ?k18 ?a19 ?l19 ?c19 ?k19 ?a20 ?l20 ?c20 ?k20 ?a21 ?l21 ?c21 ?k21 ?a22 ?l22 ?c22 ?k22 ?a23 ?l23 ?c23 ?k23 ?a24 ?l24 ?c24 ?k24 ?a25 ?l25 ?c25 ?k25 ?a26 ?l26 ?c26 ?k26 ?a27 ?l27 ?c27 ?k27 ?a28 ?l28 ?c28 ?k28 ?a29 ?l29 ?c29 ?k29 ?a30 ?l30 ?c30 ?k30 ?a31 ?l31 ?c31 ?k31 ?a32 ?l32 ?c32 ?k32 ?a33 ?l33 ?c33 ?k33 ?a34 ?l34 ?c34 ?k34 ?a35 ?l35 ?c35 ?k35 ?a36 ?l36 ?c36 ?k36 ?a37 ?l37 ?c37 ?k37 ?z_len ?z_isinstance ?z_int ?z_bool ?z_list ?z_tuple ?z_set ?z_all ?z_max ?z_min ?z_sum ?z_range ?z_enumerate ?z_ValueError ?z_super ?z_sorted ?z_any ?z_reversed ?most0 ?most1 ?g_BadGame ?g_BadSteps ?g_BadPlace ?g_BadPlayer ?g_TooMany ?g_GongError ?xG ?iG ?opq ?xBG ?saBG ?noBG ?iiBG ?tiBG ?liBG ?ciBG ?diBG ?viBG ?fiBG ?ceBG ?veBG ?moBG ?xBS ?saBS ?noBS ?iiBS ?tiBS ?liBS ?ciBS ?diBS ?viBS ?fiBS ?ceBS ?veBS ?moBS ?kcBG ?exBG ?tyBG ?kcBS ?exBS ?tyBS ?kcBP ?exBP ?tyBP ?kcBY ?exBY ?tyBY ?kcTM ?exTM ?tyTM ?xcBP ?xcBY ?xcTM ?gaBG ?ggBG ?hdBG ?haBG ?obBG ?koBG0 ?koBG1 ?koBG2 ?koBG3 ?koBG4 ?kvBG ?sgBG ?gaBS ?ggBS ?hdBS ?haBS ?obBS ?koBS0 ?koBS1 ?koBS2 ?koBS3 ?koBS4 ?kvBS ?sgBS ?gaBP ?ggBP ?hdBP ?haBP ?obBP ?koBP0 ?koBP1 ?koBP2 ?koBP3 ?koBP4 ?kvBP ?sgBP ?gaBY ?ggBY ?hdBY ?haBY ?obBY ?koBY0 ?koBY1 ?koBY2 ?koBY3 ?koBY4 ?kvBY ?sgBY ?gaTM ?ggTM ?hdTM ?haTM ?obTM ?koTM0 ?koTM1 ?koTM2 ?koTM3 ?koTM4 ?kvTM ?sgTM ?hn ?ht ?exG ?hdG ?tyG ?init_done
    (case a0 => k_is)
    (case l0 => k_is)
    (case c0 => k_is)
    (case k0 => k_is)
    (case a1 => k_is)
    (case l1 => k_is)
    (case c1 => k_is)
    (case k1 => k_is)
    (case a2 => k_is)
    (case l2 => k_is)
    (case c2 => k_is)
    (case k2 => k_is)
    (case a3 => k_is)
    (case l3 => k_is)
    (case c3 => k_is)
    (case k3 => k_is)
    (case a4 => k_is)
    (case l4 => k_is)
    (case c4 => k_is)
    (case k4 => k_is)
    (case a5 => k_is)
    (case l5 => k_is)
    (case c5 => k_is)
    (case k5 => k_is)
    (case a6 => k_is)
    (case l6 => k_is)
    (case c6 => k_is)
    (case k6 => k_is)
    (case a7 => k_is)
    (case l7 => k_is)
    (case c7 => k_is)
    (case k7 => k_is)
    (case a8 => k_is)
    (case l8 => k_is)
    (case c8 => k_is)
    (case k8 => k_is)
    (case a9 => k_is)
    (case l9 => k_is)
    (case c9 => k_is)
    (case k9 => k_is)
    (case a10 => k_is)
    (case l10 => k_is)
    (case c10 => k_is)
    (case k10 => k_is)
    (case a11 => k_is)
    (case l11 => k_is)
    (case c11 => k_is)
    (case k11 => k_is)
    (case a12 => k_is)
    (case l12 => k_is)
    (case c12 => k_is)
    (case k12 => k_is)
    (case a13 => k_is)
    (case l13 => k_is)
    (case c13 => k_is)
    (case k13 => k_is)
    (case a14 => k_is)
    (case l14 => k_is)
    (case c14 => k_is)
    (case k14 => k_is)
    (case a15 => k_is)
    (case l15 => k_is)
    (case c15 => k_is)
    (case k15 => k_is)
    (case a16 => k_is)
    (case l16 => k_is)
    (case c16 => k_is)
    (case k16 => k_is)
    (case a17 => k_is)
    (case l17 => k_is)
    (case c17 => k_is)
    (case k17 => k_is)
    (case a18 => k_is)
    (case l18 => k_is)
    (case c18 => k_is)
    (case k18 => k_is)
    (case a19 => k_is)
    (case l19 => k_is)
    (case c19 => k_is)
    (case k19 => k_is)
    (case a20 => k_is)
    (case l20 => k_is)
    (case c20 => k_is)
    (case k20 => k_is)
    (case a21 => k_is)
    (case l21 => k_is)
    (case c21 => k_is)
    (case k21 => k_is)
    (case a22 => k_is)
    (case l22 => k_is)
    (case c22 => k_is)
    (case k22 => k_is)
    (case a23 => k_is)
    (case l23 => k_is)
    (case c23 => k_is)
    (case k23 => k_is)
    (case a24 => k_is)
    (case l24 => k_is)
    (case c24 => k_is)
    (case k24 => k_is)
    (case a25 => k_is)
    (case l25 => k_is)
    (case c25 => k_is)
    (case k25 => k_is)
    (case a26 => k_is)
    (case l26 => k_is)
    (case c26 => k_is)
    (case k26 => k_is)
    (case a27 => k_is)
    (case l27 => k_is)
    (case c27 => k_is)
    (case k27 => k_is)
    (case a28 => k_is)
    (case l28 => k_is)
    (case c28 => k_is)
    (case k28 => k_is)
    (case a29 => k_is)
    (case l29 => k_is)
    (case c29 => k_is)
    (case k29 => k_is)
    (case a30 => k_is)
    (case l30 => k_is)
    (case c30 => k_is)
    (case k30 => k_is)
    (case a31 => k_is)
    (case l31 => k_is)
    (case c31 => k_is)
    (case k31 => k_is)
    (case a32 => k_is)
    (case l32 => k_is)
    (case c32 => k_is)
    (case k32 => k_is)
    (case a33 => k_is)
    (case l33 => k_is)
    (case c33 => k_is)
    (case k33 => k_is)
    (case a34 => k_is)
    (case l34 => k_is)
    (case c34 => k_is)
    (case k34 => k_is)
    (case a35 => k_is)
    (case l35 => k_is)
    (case c35 => k_is)
    (case k35 => k_is)
    (case a36 => k_is)
    (case l36 => k_is)
    (case c36 => k_is)
    (case k36 => k_is)
    (case a37 => k_is)
    (case l37 => k_is)
    (case c37 => k_is)
    (case k37 => k_is)
    (case z_len => k_is)
    (case z_isinstance => k_is)
    (case z_int => k_is)
    (case z_bool => k_is)
    (case z_list => k_is)
    (case z_tuple => k_is)
    (case z_set => k_is)
    (case z_all => k_is)
    (case z_max => k_is)
    (case z_min => k_is)
    (case z_sum => k_is)
    (case z_range => k_is)
    (case z_enumerate => k_is)
    (case z_ValueError => k_is)
    (case z_super => k_is)
    (case z_sorted => k_is)
    (case z_any => k_is)
    (case z_reversed => k_is)
    (case most0 => k_is)
    (case most1 => k_is)
    (case g_BadGame => k_is)
    (case g_BadSteps => k_is)
    (case g_BadPlace => k_is)
    (case g_BadPlayer => k_is)
    (case g_TooMany => k_is)
    (case g_GongError => k_is)
    (case xG => k_is)
    (case iG => k_is)
    (case opq => k_is)
    (case xBG => k_is)
    (case saBG => k_is)
    (case noBG => k_is)
    (case iiBG => k_is)
    (case tiBG => k_is)
    (case liBG => k_is)
    (case ciBG => k_is)
    (case diBG => k_is)
    (case viBG => rfl)
    (case fiBG => decide +kernel)
    (case ceBG => k_is)
    (case veBG => k_is)
    (case moBG => k_is)
    (case xBS => k_is)
    (case saBS => k_is)
    (case noBS => k_is)
    (case iiBS => k_is)
    (case tiBS => k_is)
    (case liBS => k_is)
    (case ciBS => k_is)
    (case diBS => k_is)
    (case viBS => rfl)
    (case fiBS => decide +kernel)
    (case ceBS => k_is)
    (case veBS => k_is)
    (case moBS => k_is)
    (case kcBG => k_is)
    (case exBG => k_is)
    (case tyBG => k_is)
    (case kcBS => k_is)
    (case exBS => k_is)
    (case tyBS => k_is)
    (case kcBP => k_is)
    (case exBP => k_is)
    (case tyBP => k_is)
    (case kcBY => k_is)
    (case exBY => k_is)
    (case tyBY => k_is)
    (case kcTM => k_is)
    (case exTM => k_is)
    (case tyTM => k_is)
    (case xcBP => k_exc)
    (case xcBY => k_exc)
    (case xcTM => k_exc)
    (case gaBG => k_is)
    (case ggBG => k_is)
    (case hdBG => k_is)
    (case haBG => k_is)
    (case obBG => k_is)
    (case koBG0 => kit_is)
    (case koBG1 => kit_is)
    (case koBG2 => kit_is)
    (case koBG3 => kit_is)
    (case koBG4 => kit_is)
    (case kvBG => kit_is)
    (case sgBG => k_is)
    (case gaBS => k_is)
    (case ggBS => k_is)
    (case hdBS => k_is)
    (case haBS => k_is)
    (case obBS => k_is)
    (case koBS0 => kit_is)
    (case koBS1 => kit_is)
    (case koBS2 => kit_is)
    (case koBS3 => kit_is)
    (case koBS4 => kit_is)
    (case kvBS => kit_is)
    (case sgBS => k_is)
    (case gaBP => k_is)
    (case ggBP => k_is)
    (case hdBP => k_is)
    (case haBP => k_is)
    (case obBP => k_is)
    (case koBP0 => kit_is)
    (case koBP1 => kit_is)
    (case koBP2 => kit_is)
    (case koBP3 => kit_is)
    (case koBP4 => kit_is)
    (case kvBP => kit_is)
    (case sgBP => k_is)
    (case gaBY => k_is)
    (case ggBY => k_is)
    (case hdBY => k_is)
    (case haBY => k_is)
    (case obBY => k_is)
    (case koBY0 => kit_is)
    (case koBY1 => kit_is)
    (case koBY2 => kit_is)
    (case koBY3 => kit_is)
    (case koBY4 => kit_is)
    (case kvBY => kit_is)
    (case sgBY => k_is)
    (case gaTM => k_is)
    (case ggTM => k_is)
    (case hdTM => k_is)
    (case haTM => k_is)
    (case obTM => k_is)
    (case koTM0 => kit_is)
    (case koTM1 => kit_is)
    (case koTM2 => kit_is)
    (case koTM3 => kit_is)
    (case koTM4 => kit_is)
    (case kvTM => kit_is)
    (case sgTM => k_is)
    (case hn => k_is)
    (case ht => k_is)
    (case exG => k_is)
    (case hdG => k_is)
    (case tyG => k_is)
    (case init_done => trivial)
